import PyProof.Rows.All
import Wide.All
import OpenK.AllK
import Wide.FinOn
import PyProof.EqAt
import PyProof.EqKinds
import PyProof.TupleCall
import Lean
import PySem.Challenge.RW_lazycols_k47_views_refused
set_option Elab.async false
set_option linter.all false
set_option maxRecDepth 100000
set_option maxHeartbeats 4000000
set_option genSizeOfSpec false
namespace L2
abbrev Fg:=PySem.W.Frag
end L2
namespace L2
open PySem PySem.Spec PyProof.Rows
theorem dM{F:FuncData}{ps:List Str}(h:∀a0,bindArgs F ⟨[a0],[]⟩=pure (ps.zip [a0])):∀us:List Value,us.length=1->bindArgs F ⟨us,[]⟩=pure (ps.zip us)
 | [a0],_=>h a0
theorem eY{F:FuncData}{ps:List Str}(h:∀a0 a1,bindArgs F ⟨[a0,a1],[]⟩=pure (ps.zip [a0,a1])):∀us:List Value,us.length=2->bindArgs F ⟨us,[]⟩=pure (ps.zip us)
 | [a0,a1],_=>h a0 a1
theorem iB{F:FuncData}{ps:List Str}(h:∀a0 a1 a2,bindArgs F ⟨[a0,a1,a2],[]⟩=pure (ps.zip [a0,a1,a2])):∀us:List Value,us.length=3->bindArgs F ⟨us,[]⟩=pure (ps.zip us)
 | [a0,a1,a2],_=>h a0 a1 a2
theorem rB{F:FuncData}{ps:List Str}(h:∀a0 a1 a2 a3,bindArgs F ⟨[a0,a1,a2,a3],[]⟩=pure (ps.zip [a0,a1,a2,a3])):∀us:List Value,us.length=4->bindArgs F ⟨us,[]⟩=pure (ps.zip us)
 | [a0,a1,a2,a3],_=>h a0 a1 a2 a3
theorem bi6{F:FuncData}{ps:List Str}(h:∀a0 a1 a2 a3 a4 a5,bindArgs F ⟨[a0,a1,a2,a3,a4,a5],[]⟩=pure (ps.zip [a0,a1,a2,a3,a4,a5])):∀us:List Value,us.length=6->bindArgs F ⟨us,[]⟩=pure (ps.zip us)
 | [a0,a1,a2,a3,a4,a5],_=>h a0 a1 a2 a3 a4 a5
theorem bi8{F:FuncData}{ps:List Str}(h:∀a0 a1 a2 a3 a4 a5 a6 a7,bindArgs F ⟨[a0,a1,a2,a3,a4,a5,a6,a7],[]⟩=pure (ps.zip [a0,a1,a2,a3,a4,a5,a6,a7])):∀us:List Value,us.length=8->bindArgs F ⟨us,[]⟩=pure (ps.zip us)
 | [a0,a1,a2,a3,a4,a5,a6,a7],_=>h a0 a1 a2 a3 a4 a5 a6 a7
theorem lt2{n:Nat}(h:n<2:=by first|assumption|omega):n=0\/ n=1:=by omega
theorem lt3{n:Nat}(h:n<3:=by first|assumption|omega):n=0\/ n=1\/ n=2:=by omega
abbrev aI:=Sum Int Str
def lZ:aI->Value->Bool
 | .inl k,v=>Value.isInt k v
 | .inr x,v=>Value.isStrOf x v
def keyH(w:World):aI->Int
 | .inl k=>hashInt k
 | .inr x=>hashStr w x
theorem iY:∀{k:aI} {v:Value},lZ k v=true->(∃i t,k=Sum.inl i/\v=Value.int i t)\/ (∃x t,k=Sum.inr x/\v=Value.str x t)
 | .inl i,v,h=>by
  obtain⟨t,e⟩:=Value.isInt_shape (k:=i) (v:=v) h
  exact .inl ⟨i,t,rfl,e⟩
 | .inr x,v,h=>by
  obtain⟨t,e⟩:=Value.isStrOf_shape (x:=x) (v:=v) h
  exact .inr ⟨x,t,rfl,e⟩
theorem b3b(i:Int)(t:Tok):lZ (.inl i) (.int i t)=true:=by simp[lZ,Value.isInt]
theorem b4F(x:Str)(t:Tok):lZ (.inr x) (.str x t)=true:=by simp[lZ,Value.isStrOf]
theorem b6f(a b:Int):decide ((Sum.inl a:aI)=Sum.inl b)=(a==b):=by
 by_cases e:a=b
 ·subst e;simp
 ·have h:¬(Sum.inl a:aI)=Sum.inl b:=fun q=>e (Sum.inl.inj q)
  rw[decide_eq_false h]
  exact(beq_eq_false_iff_ne.mpr e).symm
theorem b4V(a b:Str):decide ((Sum.inr a:aI)=Sum.inr b)=decide (a=b):=by
 by_cases e:a=b
 ·subst e;simp
 ·have h:¬(Sum.inr a:aI)=Sum.inr b:=fun q=>e (Sum.inr.inj q)
  rw[decide_eq_false h,decide_eq_false e]
theorem b5l(a:Int)(b:Str):decide ((Sum.inl a:aI)=Sum.inr b)=false:=decide_eq_false (fun q=>nomatch q)
theorem b1V(a:Str)(b:Int):decide ((Sum.inr a:aI)=Sum.inl b)=false:=decide_eq_false (fun q=>nomatch q)
def fG(prog:Program)(w:World):PySem.KeyKind prog w aI where
 is:=lZ
 hash:=keyH w
 inj:=fun v a b ha hb=>by
  rcases iY ha with⟨i,t,rfl,rfl⟩|⟨x,t,rfl,rfl⟩
  ·rcases iY hb with⟨j,u,rfl,e⟩|⟨y,u,rfl,e⟩
   ·injection e with e1 _;rw[e1]
   ·exact nomatch e
  ·rcases iY hb with⟨j,u,rfl,e⟩|⟨y,u,rfl,e⟩
   ·exact nomatch e
   ·injection e with e1 _;rw[e1]
 byValue:=fun k v h=>by
  rcases iY h with⟨i,t,rfl,rfl⟩|⟨x,t,rfl,rfl⟩<;>rfl
 pyHash:=fun hv h=>by
  rcases iY hv with⟨i,t,rfl,rfl⟩|⟨x,t,rfl,rfl⟩
  ·exact wpAny_pyHash_int h
  ·exact wpAny_pyHash_str h
 eqBool:=fun hu hv h=>by
  rcases iY hu with⟨i,t,rfl,rfl⟩|⟨x,t,rfl,rfl⟩
  ·rcases iY hv with⟨j,u,rfl,rfl⟩|⟨y,u,rfl,rfl⟩
   ·rw[b6f]at h;exact wpAny_eqBool_int h
   ·rw[b5l]at h;exact SeqAt.EqAt.int_str i t y u _ _ _ _ h
  ·rcases iY hv with⟨j,u,rfl,rfl⟩|⟨y,u,rfl,rfl⟩
   ·rw[b1V]at h;exact SeqAt.EqAt.str_int x t j u _ _ _ _ h
   ·rw[b4V]at h;exact wpAny_eqBool_str h
 «strs» :=fun k x t v h=>by
  rcases iY h with⟨i,u,rfl,e⟩|⟨y,u,rfl,e⟩
  ·exact nomatch e
  ·injection e with e1 _
   subst e1
   cases v<;>rfl
theorem b2X(prog:Program)(w:World)(i:Int)(t:Tok):(fG prog w).is (.inl i) (.int i t)=true:=b3b i t
theorem b3Q(prog:Program)(w:World)(x:Str)(t:Tok):(fG prog w).is (.inr x) (.str x t)=true:=b4F x t
inductive V where
 |non|bl(b:Bool)|int(i:Int)|str(x:Str)|byt(b:Array UInt8)|flt(b:UInt64)|ref(a:Addr)|ty(n:String)
 deriving DecidableEq
def aW:V->Value->Prop
 | .non,u=>u=Value.none
 | .bl b,u=>u=Value.bool b
 | .int i,u=>∃t,u=Value.int i t
 | .str x,u=>∃t,u=Value.str x t
 | .byt b,u=>∃t,u=Value.bytes b t
 | .flt b,u=>∃t,u=Value.float b t
 | .ref a,u=>u=Value.ref a
 | .ty n,u=>u=Value.type n
abbrev aV:List V->List Value->Prop:=Paired aW
theorem aV.length{xs:List V}{us:List Value}(r:aV xs us):xs.length=us.length:=Paired.length r
theorem aV.get:∀{xs:List V} {us:List Value} {i:Nat} {x:V},aV xs us->xs[i]?=some x->∃u,us[i]?=some u/\aW x u
 |_,_,_,_,.nil,e=>by simp at e
 |_,_,0,_,.cons r _,e=>by simp at e;subst e;exact⟨_,rfl,r⟩
 |_,_,i+ 1,x,.cons _ t,e=>by
  obtain⟨u,h1,h2⟩:=aV.get (i:=i) (x:=x) t (by simpa using e)
  exact⟨u,by simpa using h1,h2⟩
theorem aV.append:∀{xs ys:List V} {us ws:List Value},aV xs us->aV ys ws->aV (xs++ ys) (us++ ws)
 |_,_,_,_,.nil,s=>s
 |_,_,_,_,.cons r t,s=> .cons r (aV.append t s)
theorem aV.take:∀{xs:List V} {us:List Value} (n:Nat),aV xs us->aV (xs.take n) (us.take n)
 |_,_,0,_=> .nil
 |_,_,_+ 1,.nil=> .nil
 |_,_,n+ 1,.cons r t=> .cons r (aV.take n t)
theorem aV.drop:∀{xs:List V} {us:List Value} (n:Nat),aV xs us->aV (xs.drop n) (us.drop n)
 |_,_,0,r=>r
 |_,_,_+ 1,.nil=> .nil
 |_,_,n+ 1,.cons _ t=>aV.drop n t
def fF:Option V->Option Value->Prop
 |some v,some u=>aW v u
 |none,none=>True
 |_,_=>False
def KV{κ:Type}:List (κ×V)->List (κ×Value)->Prop:=Paired fun(p:κ×V) (q:κ×Value)=>p.1=q.1/\aW p.2 q.2
def kV:aI->V
 | .inl i=> .int i
 | .inr x=> .str x
inductive HO where
 |lst(xs:List V)
 |tup(xs:List V)
 |dK(kvs:List (aI×V))|dT(kvs:List (List aI×V))
 |set(S:Int->Bool)(n:Nat)
 |ins(C dx:Addr)(fs:List (Str×V))
 |own(x:Addr)
 |xd(fs:List (Str×V))
 |met(f x:Addr)
 |rng(lo hi:Int)
 |frz(o:Obj)(u:HO)
 |tbl(ps:Array Value)
 |ext(φ:Heap->Prop)
abbrev Hp:=Addr->Option HO
noncomputable def upd (H:Hp) (a:Addr) (o:HO):Hp:=fun b=>if b=a then some o else H b
theorem aG{H:Hp}{a:Addr}{o:HO}:upd H a o a=some o:=by unfold upd;rw[if_pos rfl]
theorem aH{H:Hp}{a b:Addr}{o:HO}(h:b≠a):upd H a o b=H b:=by unfold upd;rw[if_neg h]
theorem b27{H:Hp}{a b:Addr}{o u:HO}(h:H a=some o)(h':H b=some u)(d:o≠u):a≠b:=by
 intro e;subst e;rw[h]at h';exact d (Option.some.inj h')
theorem aU{H:Hp}{a b:Addr}{o:HO}(h:H a=some o)(h':H b=none):a≠b:=by
 intro e;subst e;rw[h]at h';cases h'
section
variable(P:Program)(w:World)
def cF(H:Hp)(h:Heap)(a:Addr):HO->Prop
 | .lst xs=>xs.length<=sizeLine/\∃(its:List Value) (n:Nat),aV xs its/\h.get? a=some {cls:=.type "list",data:=.seq its.toArray n}
 | .tup xs=>xs.length<=sizeLine/\∃its:List Value,aV xs its/\IsTup h a its.toArray
 | .dK kvs=>kvs.length<=sizeLine/\(a==sysModules)=false/\∃vs,KV kvs vs/\h.DictOf (fG P w) a vs
 | .dT kvs=>kvs.length<=sizeLine/\(a==sysModules)=false/\∃xs:List (List aI×Addr×Value),
  Paired (fun(p:List aI×V) (q:List aI×Addr×Value)=>p.1=q.1/\H q.2.1=some (.tup (p.1.map kV))/\aW p.2 q.2.2) kvs xs/\
  ∃o es ep,h.get? a=some o/\o.ExactDict/\o.data= .dict es ep/\es.toList=xs.map (entryOfKey (tupleKind (fG P w)))/\(xs.map (·.1)).Nodup
 | .set S n=>h.SetOf (intKind P w) a S n
 | .ins C dx fs=>H dx=some (.own a)/\fs.length<=1000/\dx≠a/\h.get? a=some (PySem.W.instObj C dx)/\
  ∃mA,h.Ns1 dx mA/\(∀f,fF (fs.lookup f) (mA f))/\PySem.Within mA (fs.map (·.1))
 | .own _=>∃o,h.get? a=some o
 | .xd fs=>∃mA,h.Ns1 a mA/\∀f,fF (fs.lookup f) (mA f)
 | .rng lo hi=>∃t u v,h.get? a=some {cls:=.type "range",data:=.fields #[.int lo t,.int hi u,.int 1 v]}
 | .frz o u=>h.get? a=some o/\cF H h a u
 | .tbl ps=>h.get? a=some {cls:=.none,data:=.fields ps}
 | .met f x=>h.get? a=some (PySem.W.methodObj (.ref f) (.ref x))
 | .ext φ=>φ h/\(∃o,h.get? a=some o)/\∀h1 h2:Heap,φ h1->(∀o,h1.get? a=some o->h2.get? a=some o)->φ h2
def bY(H:Hp)(h:Heap):Prop:=∀a o,H a=some o->cF P w H h a o
end
section
variable{P:Program}{w:World}{H H':Hp}{h h':Heap}{a:Addr}{o:HO}
theorem cF.lt(x:cF P w H h a o):a<h.objs.size:=by
 cases o with
 |lst xs=>obtain⟨_,_,_,_,e⟩:=x;exact Heap.lt_size e
 |tup xs=>obtain⟨_,_,_,p⟩:=x;exact p.lt
 |dK kvs=>obtain⟨_,_,_,_,o,_,_,e,_⟩:=x;exact Heap.lt_size e
 |dT kvs=>obtain⟨_,_,_,_,o,_,_,e,_⟩:=x;exact Heap.lt_size e
 |set S n=>obtain⟨o,_,_,_,e,_⟩:=x;exact Heap.lt_size e
 |ins C dx fs=>obtain⟨_,_,_,e,_⟩:=x;exact Heap.lt_size e
 |own y=>obtain⟨_,e⟩:=x;exact Heap.lt_size e
 |xd fs=>obtain⟨_,⟨_,_,_,e,_⟩,_⟩:=x;exact Heap.lt_size e
 |rng lo hi=>obtain⟨_,_,_,e⟩:=x;exact Heap.lt_size e
 |frz ob u=>obtain⟨e,_⟩:=x;exact Heap.lt_size e
 |tbl ps=>exact Heap.lt_size (show h.get? a=some _ from x)
 |met f y=>exact Heap.lt_size (show h.get? a=some _ from x)
 |ext φ=>obtain⟨_,⟨_,e⟩,_⟩:=x;exact Heap.lt_size e
theorem Paired.mapP{α β:Type}{F G:α->β->Prop}:∀{l₁:List α} {l₂:List β},Paired F l₁ l₂->(∀a b,F a b->G a b)->Paired G l₁ l₂
 |_,_,.nil,_=> .nil
 |_,_,.cons r t,f=> .cons (f _ _ r) (Paired.mapP t f)
theorem cF.stay(x:cF P w H h a o)(k:∀b u,(b=a\/ H b=some (.own a))->h.get? b=some u->h'.get? b=some u)
 (ho:∀b,H b=some (.own a)->H' b=some (.own a))(ht:∀b xs,H b=some (.tup xs)->H' b=some (.tup xs)):cF P w H' h' a o:=by
 induction o with
 |lst xs=>obtain⟨z,its,n,r,e⟩:=x;exact⟨z,its,n,r,k _ _ (.inl rfl) e⟩
 |tup xs=>obtain⟨z,its,r,ob,e,c⟩:=x;exact⟨z,its,r,ob,k _ _ (.inl rfl) e,c⟩
 |dK kvs=>obtain⟨z,y,vs,r,ob,es,ep,e,c⟩:=x;exact⟨z,y,vs,r,ob,es,ep,k _ _ (.inl rfl) e,c⟩
 |dT kvs=>
  obtain⟨z,y,xs,r,ob,es,ep,e,c⟩:=x
  exact⟨z,y,xs,Paired.mapP r fun p q z=>⟨z.1,ht _ _ z.2.1,z.2.2⟩,ob,es,ep,k _ _ (.inl rfl) e,c⟩
 |set S n=>obtain⟨ob,es,ep,t,e,c⟩:=x;exact⟨ob,es,ep,t,k _ _ (.inl rfl) e,c⟩
 |ins C dx fs=>
  obtain⟨d,z,ne,e,mA,⟨od,es,ep,e2,c⟩,r⟩:=x
  exact⟨ho _ d,z,ne,k _ _ (.inl rfl) e,mA,⟨od,es,ep,k _ _ (.inr d) e2,c⟩,r⟩
 |own y=>obtain⟨ob,e⟩:=x;exact⟨ob,k _ _ (.inl rfl) e⟩
 |xd fs=>obtain⟨mA,⟨od,es,ep,e,c⟩,r⟩:=x;exact⟨mA,⟨od,es,ep,k _ _ (.inl rfl) e,c⟩,r⟩
 |rng lo hi=>obtain⟨t,u,v,e⟩:=x;exact⟨t,u,v,k _ _ (.inl rfl) e⟩
 |frz ob u ih=>obtain⟨e,q⟩:=x;exact⟨k _ _ (.inl rfl) e,ih q⟩
 |tbl ps=>
  have e:h.get? a=some {cls:=.none,data:=.fields ps}:=x
  show h'.get? a=some {cls:=.none,data:=.fields ps}
  exact k a _ (.inl rfl) e
 |met f y=>
  have e:h.get? a=some (PySem.W.methodObj (.ref f) (.ref y)):=x
  show h'.get? a=some (PySem.W.methodObj (.ref f) (.ref y))
  exact k a _ (.inl rfl) e
 |ext φ=>obtain⟨p,⟨o,e⟩,st⟩:=x;exact⟨st _ _ p fun o q=>k _ _ (.inl rfl) q,⟨o,k _ _ (.inl rfl) e⟩,st⟩
theorem bY.lt(x:bY P w H h)(e:H a=some o):a<h.objs.size:=(x a o e).lt
theorem bY.fresh(x:bY P w H h)(e:h.objs.size<=a):H a=none:=by
 cases q:H a with
 |none=>rfl
 |some u=>exact absurd (Nat.lt_of_lt_of_le (x.lt q) e) (Nat.lt_irrefl _)
theorem bY.kept(x:bY P w H h)(k:∀b u,h.get? b=some u->h'.get? b=some u):bY P w H h':=fun a o e=>
 (x a o e).stay (fun b u _ q=>k b u q) (fun _ q=>q) fun _ _ q=>q
theorem bY.laid(x:bY P w H h)(k:∀b u,h.get? b=some u->h'.get? b=some u)(hp:h.objs.size<=a)(new:cF P w (upd H a o) h' a o):bY P w (upd H a o) h':=fun b u e=>by
 have hn:=x.fresh hp
 by_cases hb:b=a
 ·subst hb;rw[aG]at e;cases e;exact new
 ·rw[aH hb]at e
  exact(x b u e).stay (fun c v _ q=>k c v q) (fun c q=>by rw[aH (aU q hn)];exact q) fun c xs q=>by rw[aH (aU q hn)];exact q
end
def Rd(H:Hp)(a:Addr)(u:HO):Prop:=H a=some u\/ ∃o,H a=some (.frz o u)
theorem Rd.ok{P:Program}{w:World}{H:Hp}{h:Heap}{a:Addr}{u:HO}(r:Rd H a u)(x:bY P w H h):cF P w H h a u:=by
 rcases r with r|⟨o,r⟩
 ·exact x a u r
 ·obtain⟨_,q⟩:=x a _ r
  exact q
def qM:Option HO->Prop
 |some (.lst _)=>True
 |some (.dK _)=>True
 |some (.dT _)=>True
 |some (.set _ _)=>True
 |some (.ins _ _ _)=>True
 |some (.ext _)=>True
 |_=>False
section
variable{P:Program}{w:World}{H:Hp}{h h':Heap}{x e:Addr}{o':HO}
theorem bY.write(ok:bY P w H h)(mu:qM (H x))(he:e=x\/ H e=some (.own x))(k:∀b u,b≠e->h.get? b=some u->h'.get? b=some u)(heo:∃u,h'.get? e=some u)
 (new:cF P w (upd H x o') h' x o'):bY P w (upd H x o') h':=fun b u q=>by
 have nown:∀c y,H c=some (.own y)->c≠x:=fun c y r z=>by subst z;rw[r]at mu;exact mu
 have ntup:∀c xs,H c=some (.tup xs)->c≠x:=fun c xs r z=>by subst z;rw[r]at mu;exact mu
 by_cases hb:b=x
 ·subst hb;rw[aG]at q;cases q;exact new
 ·rw[aH hb]at q
  by_cases hbe:b=e
  ·have q':H b=some (.own x):=by
    rcases he with z|z
    ·exact absurd (hbe.trans z) hb
    ·rw[hbe];exact z
   rw[q]at q';cases q'
   obtain⟨v,hv⟩:=heo
   exact⟨v,by rw[hbe];exact hv⟩
  ·refine(ok b u q).stay (fun c v hc r=>k c v ?_ r) (fun c r=>by rw[aH (nown c b r)];exact r) fun c xs r=>by rw[aH (ntup c xs r)];exact r
   rcases hc with rfl|hc
   ·exact hbe
   ·rintro rfl
    rcases he with z|z
    ·exact nown c b hc z
    ·rw[hc]at z;cases z;exact hb rfl
end
structure Un(fs ex:List Addr)(H H':Hp)(h h':Heap):Prop where
 keep:∀b o,h.get? b=some o->H b=none->b∉fs->b∉ex->h'.get? b=some o
 slot:∀b o,h.get? b=some o->H b=none->b∈fs->b∉ex->∃sl,h'.get? b=some {o with slots:=sl}
 free:∀b o,h.get? b=some o->H b=none->b∉ex->H' b=none
 there:∀b o,h.get? b=some o->b∉ex->∃o',h'.get? b=some o'
 tups:∀b xs,H b=some (.tup xs)->H' b=some (.tup xs)
 frzs:∀b o u,H b=some (.frz o u)->H' b=some (.frz o u)
 tbls:∀b ps,H b=some (.tbl ps)->∃more,H' b=some (.tbl (ps++ more))
section
variable{fs fs' ex ex':List Addr}{H H1 H2:Hp}{h h1 h2 h':Heap}{a x e:Addr}{o:HO}
theorem Un.any(u:Un fs ex H H1 h h1){b:Addr}{ob:Obj}(q:h.get? b=some ob)(n:H b=none)(hx:b∉ex):∃sl,h1.get? b=some {ob with slots:=sl}:=by
 by_cases hb:b∈fs
 ·exact u.slot b ob q n hb hx
 ·exact⟨ob.slots,u.keep b ob q n hb hx⟩
theorem Un.kept(k:∀b u,h.get? b=some u->h'.get? b=some u):Un fs ex H H h h':=
 ⟨fun b ob q _ _ _=>k b ob q,fun b ob q _ _ _=>⟨ob.slots,k b ob q⟩,fun _ _ _ n _=>n,fun b ob q _=>⟨ob,k b ob q⟩,fun _ _ q=>q,fun _ _ _ q=>q,fun _ ps q=>⟨#[],by rw[q];simp⟩⟩
theorem Un.refl:Un fs ex H H h h:=Un.kept fun _ _ q=>q
theorem Un.laid(k:∀b u,h.get? b=some u->h'.get? b=some u)(hp:h.objs.size<=a)(hn:H a=none):Un fs ex H (upd H a o) h h' where
 keep:=fun b u q _ _ _=>k b u q
 slot:=fun b u q _ _ _=>⟨u.slots,k b u q⟩
 free:=fun b u q n _=>by rw[aH (Nat.ne_of_lt (Nat.lt_of_lt_of_le (Heap.lt_size q) hp))];exact n
 there:=fun b u q _=>⟨u,k b u q⟩
 tups:=fun b xs q=>by rw[aH (aU q hn)];exact q
 frzs:=fun b u xs q=>by rw[aH (aU q hn)];exact q
 tbls:=fun b ps q=>⟨#[],by rw[aH (aU q hn),q];simp⟩
theorem Un.write(mu:qM (H x))(he:e=x\/ H e=some (.own x))(k:∀b u,b≠e->h.get? b=some u->h'.get? b=some u)(heo:∃u,h'.get? e=some u):Un fs ex H (upd H x o) h h':=by
 have hx:∀b,H b=none->b≠x:=fun b n z=>by subst z;rw[n]at mu;exact mu
 have hb:∀b,H b=none->b≠e:=fun b n z=>by
  subst z
  rcases he with r|r
  ·exact hx b n r
  ·rw[n]at r;cases r
 have hm:∀b u,H b=some u->¬qM (some u)->b≠x:=fun b u q nm z=>by subst z;rw[q]at mu;exact nm mu
 refine⟨fun b u q n _ _=>k b u (hb b n) q,fun b u q n _ _=>⟨u.slots,k b u (hb b n) q⟩,fun b u q n _=>by rw[aH (hx b n)];exact n,fun b u q _=> ?_,
  fun b xs q=>by rw[aH (hm b _ q fun z=>z)];exact q,fun b u xs q=>by rw[aH (hm b _ q fun z=>z)];exact q,fun b ps q=>⟨#[],by rw[aH (hm b _ q fun z=>z),q];simp⟩⟩
 by_cases hbe:b=e
 ·subst hbe;exact heo
 ·exact⟨u,k b u hbe q⟩
end
noncomputable def sG (h:Heap) (H:Hp):List Addr:=(List.range h.objs.size).filter fun a=>(H a).isSome
noncomputable def iN (h:Heap) (H:Hp):Heap:=PySem.W.hideAll h (sG h H)
theorem b6v(h:Heap)(H:Hp):(iN h H).objs.size=h.objs.size:=PySem.W.hideAll_size _ _
theorem b39{h:Heap}{H:Hp}{b:Addr}{o:Obj}(e:h.get? b=some o)(n:H b=none):(iN h H).get? b=some o:=
 PySem.W.hideAll_get _ e fun hm=>by
  have q:(H b).isSome=true:=(List.mem_filter.mp hm).2
  rw[n]at q;simp at q
theorem b2Y{h:Heap}{H:Hp}{b:Addr}{o:Obj}(e:(iN h H).get? b=some o):h.get? b=some o/\H b=none:=by
 have e':h.get? b=some o:=PySem.W.of_hideAll (sG h H) e
 refine⟨e',?_⟩
 cases q:H b with
 |none=>rfl
 |some x=>
  have hm:b∈sG h H:=List.mem_filter.mpr ⟨List.mem_range.mpr (Heap.lt_size e'),by simp[q]⟩
  have z:(iN h H).get? b=none:=PySem.W.hideAll_none (sG h H) hm
  rw[z]at e;cases e
noncomputable def b5M (g h:Heap) (L:Addr):List (Addr×Obj):=(List.range h.objs.size).filterMap fun a=>if a=L\/ (g.get? a).isSome=true then none else(h.get? a).map fun o=>(a,o)
noncomputable def fA (g h:Heap) (L d:Addr):List (Addr×Obj):=(b5M g h L).filter fun p=>decide (p.1≠d)
structure Mod(K:Fg)(mg:Str->Option Value)(base:Heap):Prop where
 kin:K.In base
 glob:base.Ns mainGlobals mg
 blt:∃mb,base.Ns builtinsNs mb/\∀x:Str,x≠ "__name__" ->mb x=bootBuiltins x
 nolimit:base.NoLimit
structure Cx where
 prog:Program
 w:World
 K:Fg
 mg:Str->Option Value
 base:Heap
 A:Around
 N:List Str
 s₀:Shared
 H₀:Hp
 env:Env
 outer:List Env
 stack:List Env
 ex:List Addr
 fn:Str->Bool
 calm:Bool
 pn:List (Addr×Obj)
 xe:Value->Shared->Prop
def cW(l:List Env):List Addr:=l.filterMap (·.frame)
abbrev Cx.fs(X:Cx):List Addr:=cW X.outer
def tH(sc:Scope)(x:Str):Prop:=sc.names.lookup x=some .local\/ sc.names.lookup x=some .cell\/ sc.names.lookup x=some .free
def oP(sc:Scope)(x:Str):Prop:=sc.names.lookup x=some .local\/ sc.names.lookup x=some .cell
def Look(env:Env)(h:Heap)(m:Str->Option Value)(x:Str)(u:Value):Prop:=
 (env.kindOf x=some .local/\m x=some u)\/ ((env.kindOf x=some .cell\/ env.kindOf x=some .free)/\∃c,env.cells.lookup x=some c/\h.IsCell c (some u))
structure Cx.Ok(X:Cx):Prop where
 mod:Mod X.K X.mg X.base
 kind:X.env.scope.kind= .function
 glob:X.env.globals=mainGlobals
 blt:X.env.builtins=builtinsNs
 above:X.s₀.heap.objs.size<=X.env.locals
 inj:∀x y c,X.env.cells.lookup x=some c->X.env.cells.lookup y=some c->x=y
 has:∀x,(X.env.kindOf x=some .cell\/ X.env.kindOf x=some .free)->∃c,X.env.cells.lookup x=some c
 cab:∀x c,X.fn x=true->X.env.cells.lookup x=some c->X.s₀.heap.objs.size<=c
 hd:X.calm=true->X.A.handled=none
 frames:X.A.frames=some X.stack
 stk:X.stack=X.outer\/ (X.stack=X.env::X.outer/\X.env.frame=some X.env.locals)
 exf:∀b∈X.ex,b≠X.env.locals/\∀x c,X.env.cells.lookup x=some c->c≠b
 bs:∀b o,X.base.get? b=some o->X.s₀.heap.get? b=some o/\X.H₀ b=none
 bsz:X.base.objs.size<=X.s₀.heap.objs.size
 noex:∀b o,X.base.get? b=some o->b∉X.ex
 exfs:∀b∈X.ex,b∉X.fs
 funs:X.s₀.heap.FunFrames X.base X.outer
 frf:∀b∈X.fs,X.H₀ b=none
structure aB(X:Cx)(pins:List (Addr×Obj))(σ:List (Option V))(H:Hp)(s:Shared):Prop where
 ok:X.Ok
 os:s.os=X.s₀.os
 bare:AllBare s.gens
 base:Un X.fs X.ex X.H₀ H X.s₀.heap s.heap
 loc:∃m,s.heap.Ns X.env.locals m/\∀(i:Nat) (x:Str) (v:V),X.N[i]?=some x->σ[i]?=some (some v)->tH X.env.scope x->∃u,aW v u/\Look X.env s.heap m x u
 cell:∀x c,X.env.cells.lookup x=some c->∃v,s.heap.IsCell c v
 free:H X.env.locals=none
 freeC:∀x c,X.env.cells.lookup x=some c->H c=none
 pin:∀p∈X.pn++ pins,s.heap.get? p.1=some p.2/\H p.1=none/\p.1≠X.env.locals/\p.1∉X.fs/\∀v,p.2.data≠ .cell v
 hok:bY X.prog X.w H s.heap
 len:σ.length=X.N.length
section
variable{X:Cx}{pins:List (Addr×Obj)}{σ:List (Option V)}{H H':Hp}{s:Shared}{h':Heap}
theorem Cx.Ok.nofr(ok:X.Ok){b:Addr}{o:Obj}(e:X.base.get? b=some o):b∉X.fs:=fun hb=>by
 have:=(ok.funs.mem hb).1
 rw[e]at this;cases this
theorem aB.bs(I:aB X pins σ H s):∀b o,X.base.get? b=some o->s.heap.get? b=some o/\H b=none:=fun b o e=>
 ⟨I.base.keep b o (I.ok.bs b o e).1 (I.ok.bs b o e).2 (I.ok.nofr e) (I.ok.noex b o e),I.base.free b o (I.ok.bs b o e).1 (I.ok.bs b o e).2 (I.ok.noex b o e)⟩
theorem aB.bk(I:aB X pins σ H s):∀b o,X.base.get? b=some o->s.heap.get? b=some o:=fun b o e=>(I.bs b o e).1
theorem aB.mod(I:aB X pins σ H s):Mod X.K X.mg X.base:=I.ok.mod
theorem aB.kIn(I:aB X pins σ H s):X.K.In s.heap:=I.ok.mod.kin.keeps I.bk
theorem aB.lt(I:aB X pins σ H s):X.env.locals<s.heap.objs.size:=let ⟨_,hn,_⟩:=I.loc;hn.lt
theorem aB.sz(I:aB X pins σ H s):X.s₀.heap.objs.size<=s.heap.objs.size:=Nat.le_trans I.ok.above (Nat.le_of_lt I.lt)
theorem aB.nofs(I:aB X pins σ H s){a:Addr}(h:s.heap.objs.size<=a):a∉X.fs:=fun hb=>by
 obtain⟨_,o,ho,_⟩:=I.ok.funs.mem hb
 exact absurd (Nat.lt_of_lt_of_le (Heap.lt_size ho) (Nat.le_trans I.sz h)) (Nat.lt_irrefl _)
theorem aB.cne(I:aB X pins σ H s):∀x c,X.env.cells.lookup x=some c->c≠X.env.locals:=fun x c e z=>by
 obtain⟨v,o,ho,hd⟩:=I.cell x c e
 obtain⟨m,⟨o',es,ep,ho',hd',_⟩,_⟩:=I.loc
 rw[z,ho']at ho;cases ho;rw[hd']at hd;cases hd
theorem aB.funs(I:aB X pins σ H s):s.heap.FunFrames X.base X.outer:=by
 have all:∀(l:List Env),(∀b∈cW l,b∈X.fs)->X.s₀.heap.FunFrames X.base l->s.heap.FunFrames X.base l:=by
  intro l
  induction l with
  |nil=>intro _ _;trivial
  |cons env r ih=>
   intro hs hl
   obtain⟨hk,⟨L,o,hf,hn,ho,hd⟩,hr⟩:=hl
   have hL:L∈X.fs:=hs L (by unfold cW;rw[List.filterMap_cons,hf];exact List.mem_cons_self)
   obtain⟨sl,e⟩:=I.base.slot L o ho (I.ok.frf L hL) hL fun z=>I.ok.exfs L z hL
   exact⟨hk,⟨L,_,hf,hn,e,hd⟩,ih (fun b hb=>hs b (by unfold cW;rw[List.filterMap_cons,hf];exact List.mem_cons_of_mem _ hb)) hr⟩
 exact all X.outer (fun _ hb=>hb) I.ok.funs
theorem aB.stack(I:aB X pins σ H s):s.heap.FunFrames X.base X.stack:=by
 rcases I.ok.stk with e|⟨e,hf⟩
 ·rw[e];exact I.funs
 ·rw[e]
  obtain⟨m,hn,_⟩:=I.loc
  refine .cons (by rw[I.ok.kind];decide) hf hn ?_ I.funs
  exact Heap.get?_none_of_le (Nat.le_trans I.ok.bsz I.ok.above)
theorem aB.stkSub(I:aB X pins σ H s):∀b∈cW X.stack,b∈X.env.locals::X.fs:=fun b hb=>by
 rcases I.ok.stk with e|⟨e,hf⟩
 ·rw[e]at hb;exact List.mem_cons_of_mem _ hb
 ·rw[e]at hb
  unfold cW at hb
  rw[List.filterMap_cons,hf]at hb
  exact hb
theorem aB.stkFree(I:aB X pins σ H s):∀b∈cW X.stack,H b=none:=fun b hb=>by
 rcases List.mem_cons.mp (I.stkSub b hb)with e|hb
 ·rw[e];exact I.free
 ·obtain⟨_,o,ho,_⟩:=I.ok.funs.mem hb
  exact I.base.free b o ho (I.ok.frf b hb) fun z=>I.ok.exfs b z hb
theorem aB.step{g':Array GenState}{t':Nat}{d':Drawn}{ch:List Addr}(I:aB X pins σ H s)
 (hch:∀b∈ch,(b∈X.ex\/ X.s₀.heap.objs.size<=b)/\b≠X.env.locals/\(∀x c,X.env.cells.lookup x=some c->c≠b)/\∀p∈X.pn++ pins,p.1≠b)
 (keep:∀b o,b≠X.env.locals->b∉X.fs->b∉ch->s.heap.get? b=some o->H b=none->h'.get? b=some o)
 (slot:∀b o,b≠X.env.locals->b∈X.fs->b∉ch->s.heap.get? b=some o->H b=none->∃sl,h'.get? b=some {o with slots:=sl})(free:∀b o,b∉ch->s.heap.get? b=some o->H b=none->H' b=none)
 (there:∀b o,b∉ch->s.heap.get? b=some o->∃o',h'.get? b=some o')
 (tups:∀b xs,H b=some (.tup xs)->H' b=some (.tup xs))(frzs:∀b o u,H b=some (.frz o u)->H' b=some (.frz o u))(tbls:∀b ps,H b=some (.tbl ps)->∃more,H' b=some (.tbl (ps++ more)))
 (ns:∀m,s.heap.Ns X.env.locals m->h'.Ns X.env.locals m)(hok:bY X.prog X.w H' h')(hg:AllBare g'):
 aB X pins σ H' {s with heap:=h',gens:=g',drawn:=d',toks:=t'}:=by
 have neL:∀b o,X.s₀.heap.get? b=some o->b≠X.env.locals:=fun b o e=>Nat.ne_of_lt (Nat.lt_of_lt_of_le (Heap.lt_size e) I.ok.above)
 have neC:∀b o,X.s₀.heap.get? b=some o->b∉X.ex->b∉ch:=fun b o e hx hb=>by
  rcases(hch b hb).1 with z|z
  ·exact hx z
  ·exact absurd (Nat.lt_of_lt_of_le (Heap.lt_size e) z) (Nat.lt_irrefl _)
 have cellK:∀x c,X.env.cells.lookup x=some c->∀v,s.heap.IsCell c v->h'.IsCell c v:=fun x c e v ⟨o,ho,hd⟩=>by
  have nch:c∉ch:=fun z=>(hch c z).2.2.1 x c e rfl
  by_cases hc:c∈X.fs
  ·obtain⟨sl,q⟩:=slot c o (I.cne x c e) hc nch ho (I.freeC x c e)
   exact⟨_,q,hd⟩
  ·exact⟨o,keep c o (I.cne x c e) hc nch ho (I.freeC x c e),hd⟩
 refine⟨I.ok,I.os,hg,⟨fun b o e n hb hx=> ?_,fun b o e n hb hx=> ?_,fun b o e n hx=> ?_,fun b o e hx=> ?_,fun b xs e=>tups b xs (I.base.tups b xs e),fun b o xs e=>frzs b o xs (I.base.frzs b o xs e),fun b ps e=> ?_⟩,?_,fun x c e=> ?_,?_,fun x c e=> ?_,fun p hp=> ?_,hok,I.len⟩
 ·exact keep b o (neL b o e) hb (neC b o e hx) (I.base.keep b o e n hb hx) (I.base.free b o e n hx)
 ·obtain⟨sl,e1⟩:=I.base.slot b o e n hb hx
  obtain⟨sl',e2⟩:=slot b _ (neL b o e) hb (neC b o e hx) e1 (I.base.free b o e n hx)
  exact⟨sl',e2⟩
 ·obtain⟨o',e1⟩:=I.base.there b o e hx
  exact free b o' (neC b o e hx) e1 (I.base.free b o e n hx)
 ·obtain⟨o',e1⟩:=I.base.there b o e hx
  exact there b o' (neC b o e hx) e1
 ·obtain⟨m1,e1⟩:=I.base.tbls b ps e
  obtain⟨m2,e2⟩:=tbls b _ e1
  exact⟨m1++ m2,by rw[e2,Array.append_assoc]⟩
 ·obtain⟨m,hn,hl⟩:=I.loc
  refine⟨m,ns m hn,fun i x v e1 e2 e3=> ?_⟩
  obtain⟨u,r,l⟩:=hl i x v e1 e2 e3
  refine⟨u,r,?_⟩
  rcases l with l|⟨k,c,e,z⟩
  ·exact .inl l
  ·exact .inr ⟨k,c,e,cellK x c e _ z⟩
 ·obtain⟨v,z⟩:=I.cell x c e
  exact⟨v,cellK x c e v z⟩
 ·obtain⟨m,⟨o,_,_,ho,_⟩,_⟩:=I.loc
  exact free _ o (fun z=>(hch _ z).2.1 rfl) ho I.free
 ·obtain⟨v,o,ho,hd⟩:=I.cell x c e
  exact free c o (fun z=>(hch c z).2.2.1 x c e rfl) ho (I.freeC x c e)
 ·obtain⟨e,n,ne,nf,d⟩:=I.pin p hp
  have nch:p.1∉ch:=fun z=>(hch p.1 z).2.2.2 p hp rfl
  exact⟨keep p.1 p.2 ne nf nch e n,free p.1 p.2 nch e n,ne,nf,d⟩
theorem aB.un{t':Nat}(I:aB X pins σ H s)(u:Un X.fs [] H H' s.heap h')(hok:bY X.prog X.w H' h'):aB X pins σ H' {s with heap:=h',toks:=t'}:=by
 obtain⟨m,⟨o,es,ep,ho,r⟩,_⟩:=id I.loc
 obtain⟨sl,hL⟩:=u.any ho I.free (by simp)
 exact I.step (g':=s.gens) (d':=s.drawn) (ch:=[]) (fun _ z=>nomatch z) (fun b o _ hb _ e n=>u.keep b o e n hb (by simp)) (fun b o _ hb _ e n=>u.slot b o e n hb (by simp)) (fun b o _ e n=>u.free b o e n (by simp)) (fun b o _ e=>u.there b o e (by simp)) u.tups u.frzs u.tbls (fun m' hm=>by
  obtain⟨o',es',ep',ho',r'⟩:=hm
  rw[ho]at ho';cases ho'
  exact⟨_,es',ep',hL,r'⟩) hok I.bare
theorem aB.call{g':Array GenState}{t':Nat}{d':Drawn}{ch:List Addr}(I:aB X pins σ H s)(u:Un (cW X.stack) ch H H' s.heap h')(hok:bY X.prog X.w H' h')(hg:AllBare g')
 (hch:∀b∈ch,(b∈X.ex\/ X.s₀.heap.objs.size<=b)/\b≠X.env.locals/\(∀x c,X.env.cells.lookup x=some c->c≠b)/\∀p∈X.pn++ pins,p.1≠b):
 aB X pins σ H' {s with heap:=h',gens:=g',drawn:=d',toks:=t'}:=by
 obtain⟨m,⟨o,es,ep,ho,r⟩,_⟩:=id I.loc
 obtain⟨sl,hL⟩:=u.any ho I.free fun z=>(hch _ z).2.1 rfl
 exact I.step (ch:=ch) hch (fun b o hL hb hc e n=>u.keep b o e n (fun z=>(List.mem_cons.mp (I.stkSub b z)).elim hL hb) hc) (fun b o _ _ hc e n=>u.any e n hc) (fun b o hc e n=>u.free b o e n hc) (fun b o hc e=>u.there b o e hc) u.tups u.frzs u.tbls (fun m' hm=>by
  obtain⟨o',es',ep',ho',r'⟩:=hm
  rw[ho]at ho';cases ho'
  exact⟨_,es',ep',hL,r'⟩) hok hg
theorem aB.turned{t':Nat}{it:Addr}(I:aB X pins σ H s)(k:∀b o,b≠it->s.heap.get? b=some o->h'.get? b=some o)(hn:H it=none)(hL:it≠X.env.locals)
 (h1:it∈X.ex\/ X.s₀.heap.objs.size<=it)(h2:∀x c,X.env.cells.lookup x=some c->c≠it)(h3:∀p∈X.pn++ pins,p.1≠it):aB X pins σ H {s with heap:=h',toks:=t'}:=by
 have nit:∀b u,H b=some u->b≠it:=fun b u e z=>by rw[z,hn]at e;cases e
 refine I.step (g':=s.gens) (d':=s.drawn) (ch:=[it]) (fun b hb=> ?_) (fun b o _ _ hc e _=>k b o (fun z=>hc (by simp[z])) e) (fun b o _ _ hc e _=>⟨o.slots,k b o (fun z=>hc (by simp[z])) e⟩) (fun _ _ _ _ n=>n)
  (fun b o hc e=>⟨o,k b o (fun z=>hc (by simp[z])) e⟩) (fun _ _ e=>e) (fun _ _ _ e=>e) (fun b ps e=>⟨#[],by rw[e];simp⟩) (fun m hm=> ?_) (fun b u e=> ?_) I.bare
 ·have e:b=it:=by simpa using hb
  subst e
  exact⟨h1,hL,h2,h3⟩
 ·obtain⟨o,es,ep,ho,r⟩:=hm
  exact⟨o,es,ep,k _ o (Ne.symm hL) ho,r⟩
 ·refine(I.hok b u e).stay (fun c v hc q=>k c v ?_ q) (fun _ q=>q) fun _ _ q=>q
  rcases hc with z|z
  ·rw[z];exact nit b u e
  ·exact nit c _ z
theorem aB.tok(I:aB X pins σ H s)(t:Nat):aB X pins σ H {s with toks:=t}:=I.un (h':=s.heap) (t':=t) Un.refl I.hok
theorem aB.kept{t':Nat}(I:aB X pins σ H s)(k:∀b u,s.heap.get? b=some u->h'.get? b=some u):aB X pins σ H {s with heap:=h',toks:=t'}:=I.un (Un.kept k) (I.hok.kept k)
theorem aB.laid{a:Addr}{o:HO}{t':Nat}(I:aB X pins σ H s)(k:∀b u,s.heap.get? b=some u->h'.get? b=some u)(hp:s.heap.objs.size<=a)(new:cF X.prog X.w (upd H a o) h' a o):
 aB X pins σ (upd H a o) {s with heap:=h',toks:=t'}:=I.un (Un.laid k hp (I.hok.fresh hp)) (I.hok.laid k hp new)
theorem aB.write{x e:Addr}{o:HO}{t':Nat}(I:aB X pins σ H s)(mu:qM (H x))(he:e=x\/ H e=some (.own x))(k:∀b u,b≠e->s.heap.get? b=some u->h'.get? b=some u)(heo:∃u,h'.get? e=some u)
 (new:cF X.prog X.w (upd H x o) h' x o):aB X pins σ (upd H x o) {s with heap:=h',toks:=t'}:=I.un (Un.write mu he k heo) (I.hok.write mu he k heo new)
theorem aB.pins_of{pins':List (Addr×Obj)}(I:aB X pins σ H s)(h:∀p∈pins',s.heap.get? p.1=some p.2/\H p.1=none/\p.1≠X.env.locals/\p.1∉X.fs/\∀v,p.2.data≠ .cell v):aB X pins' σ H s:=
 ⟨I.ok,I.os,I.bare,I.base,I.loc,I.cell,I.free,I.freeC,fun p hp=>(List.mem_append.mp hp).elim (fun z=>I.pin p (List.mem_append_left _ z)) (h p),I.hok,I.len⟩
theorem a8r{N:List Str}(hN:N.Nodup){i j:Nat}{x:Str}(a:N[i]?=some x)(b:N[j]?=some x):i=j:=by
 obtain⟨h1,e1⟩:=List.getElem?_eq_some_iff.mp a
 obtain⟨h2,e2⟩:=List.getElem?_eq_some_iff.mp b
 exact(List.getElem_inj hN).mp (e1.trans e2.symm)
theorem b4D{M:Model}{A:Around}{E:Value->Shared->Prop}{i:Nat}{x:Str}{v:V}{u:Value}{Q:Unit->Shared->Prop}(I:aB X pins σ H s)(hN:X.N.Nodup)(hi:X.N[i]?=some x)(hx:oP X.env.scope x)(r:aW v u)
 (h:∀s',aB X pins (σ.set i (some v)) H s'->(∃a,Heap.SameBut a s.heap s'.heap/\(a=X.env.locals\/ X.env.cells.lookup x=some a))->Q () s')(hf:X.fn x=true\/ X.env.scope.names.lookup x=some .local:=by first|exact .inl rfl|exact .inr rfl|assumption):wpAny M A (storeName X.env x u) Q E s:=by
 obtain⟨m,hn,hl⟩:=id I.loc
 have hcls:(X.env.scope.kind== .class||(X.env.scope.kind== .module&&X.env.locals !=X.env.globals))=false:=by rw[I.ok.kind];rfl
 have hiσ:i<σ.length:=by rw[I.len];exact(List.getElem?_eq_some_iff.mp hi).1
 have cne:=I.cne
 have tracked:∀{a:Addr} {h':Heap},(∃o,s.heap.get? a=some o/\H a=none)->Heap.SameBut a s.heap h'->bY X.prog X.w H h':=fun{a h'} ha hs b ob e=>by
  obtain⟨_,_,hfree⟩:=ha
  refine(I.hok b ob e).stay (fun c w' hc q=>(hs.2 c ?_).trans q) (fun _ q=>q) fun _ _ q=>q
  rintro rfl
  rcases hc with rfl|hc
  ·rw[hfree]at e;cases e
  ·rw[hfree]at hc;cases hc
 rcases hx with hk|hk
 ·refine wpAny_storeName_local hk hn (fun h' hn' hs=> ?_) hcls
  obtain⟨oL,_,_,hoL,_⟩:=id hn
  refine h _ ⟨I.ok,I.os,I.bare,⟨fun b o e n hb hx=> ?_,fun b o e n hb hx=> ?_,I.base.free,fun b o e hx=> ?_,I.base.tups,I.base.frzs,I.base.tbls⟩,⟨_,hn',fun j y v' e1 e2 e3=> ?_⟩,fun y c e=> ?_,I.free,I.freeC,fun p hp=> ?_,tracked ⟨oL,hoL,I.free⟩ hs,by simpa using I.len⟩ ⟨_,hs,.inl rfl⟩
  ·exact(hs.2 b (Nat.ne_of_lt (Nat.lt_of_lt_of_le (Heap.lt_size e) I.ok.above))).trans (I.base.keep b o e n hb hx)
  ·obtain⟨sl,e1⟩:=I.base.slot b o e n hb hx
   exact⟨sl,(hs.2 b (Nat.ne_of_lt (Nat.lt_of_lt_of_le (Heap.lt_size e) I.ok.above))).trans e1⟩
  ·obtain⟨o',e1⟩:=I.base.there b o e hx
   exact⟨o',(hs.2 b (Nat.ne_of_lt (Nat.lt_of_lt_of_le (Heap.lt_size e) I.ok.above))).trans e1⟩
  ·by_cases hj:j=i
   ·subst hj
    rw[hi]at e1;cases e1
    rw[List.getElem?_set_self hiσ]at e2
    cases e2
    exact⟨u,r,.inl ⟨hk,by simp⟩⟩
   ·rw[List.getElem?_set_ne (Ne.symm hj)]at e2
    obtain⟨u',r',q⟩:=hl j y v' e1 e2 e3
    refine⟨u',r',?_⟩
    rcases q with⟨k,e⟩|⟨k,c,e,z⟩
    ·refine .inl ⟨k,?_⟩
     have:y≠x:=fun e=>hj (a8r hN e1 (e▸hi))
     simp[this,e]
    ·exact .inr ⟨k,c,e,z.sameBut hs (cne y c e)⟩
  ·obtain⟨w',z⟩:=I.cell y c e
   exact⟨w',z.sameBut hs (cne y c e)⟩
  ·obtain⟨e,n,ne,nf,d⟩:=I.pin p hp
   exact⟨(hs.2 p.1 ne).trans e,n,ne,nf,d⟩
 ·have hfn:X.fn x=true:=by
   rcases hf with z|z
   ·exact z
   ·rw[z]at hk;cases hk
  obtain⟨c,hc⟩:=I.ok.has x (.inl hk)
  obtain⟨w',z⟩:=I.cell x c hc
  refine wpAny_storeName_cell I.ok.kind hk hc z (fun h' hc' hs=> ?_)
  obtain⟨oc,hoc,hocd⟩:=id z
  refine h {s with heap:=h'} ⟨I.ok,I.os,I.bare,⟨fun b o e n hb hx=> ?_,fun b o e n hb hx=> ?_,I.base.free,fun b o e hx=> ?_,I.base.tups,I.base.frzs,I.base.tbls⟩,⟨m,hn.sameBut hs (Ne.symm (cne x c hc)),fun j y v' e1 e2 e3=> ?_⟩,fun y c' e=> ?_,I.free,I.freeC,fun p hp=> ?_,tracked ⟨oc,hoc,I.freeC x c hc⟩ hs,by simpa using I.len⟩ ⟨c,hs,.inr hc⟩
  ·exact(hs.2 b (Nat.ne_of_lt (Nat.lt_of_lt_of_le (Heap.lt_size e) (I.ok.cab x c hfn hc)))).trans (I.base.keep b o e n hb hx)
  ·obtain⟨sl,e1⟩:=I.base.slot b o e n hb hx
   exact⟨sl,(hs.2 b (Nat.ne_of_lt (Nat.lt_of_lt_of_le (Heap.lt_size e) (I.ok.cab x c hfn hc)))).trans e1⟩
  ·obtain⟨o',e1⟩:=I.base.there b o e hx
   exact⟨o',(hs.2 b (Nat.ne_of_lt (Nat.lt_of_lt_of_le (Heap.lt_size e) (I.ok.cab x c hfn hc)))).trans e1⟩
  ·by_cases hj:j=i
   ·subst hj
    rw[hi]at e1;cases e1
    rw[List.getElem?_set_self hiσ]at e2
    cases e2
    exact⟨u,r,.inr ⟨.inl hk,c,hc,hc'⟩⟩
   ·rw[List.getElem?_set_ne (Ne.symm hj)]at e2
    obtain⟨u',r',q⟩:=hl j y v' e1 e2 e3
    refine⟨u',r',?_⟩
    rcases q with q|⟨k,c',e,z'⟩
    ·exact .inl q
    ·refine .inr ⟨k,c',e,z'.sameBut hs ?_⟩
     rintro rfl
     exact hj (a8r hN e1 (I.ok.inj _ _ _ e hc▸hi))
  ·by_cases hcc:c'=c
   ·subst hcc;exact⟨_,hc'⟩
   ·obtain⟨w2,z2⟩:=I.cell y c' e
    exact⟨w2,z2.sameBut hs hcc⟩
  ·obtain⟨e,n,ne,nf,d⟩:=I.pin p hp
   refine⟨(hs.2 p.1 ?_).trans e,n,ne,nf,d⟩
   intro q
   rw[q,hoc]at e
   have q':oc=p.2:=Option.some.inj e
   exact d w' (by rw[<- q'];exact hocd)
theorem a81{M:Model}{A:Around}{E:Value->Shared->Prop}{i:Nat}{x:Str}{v:V}{u:Value}{Q:Unit->Shared->Prop}(I:aB X pins σ H s)(hN:X.N.Nodup)(hi:X.N[i]?=some x)(hx:oP X.env.scope x)(r:aW v u)
 (h:∀s',aB X pins (σ.set i (some v)) H s'->Q () s')(hf:X.fn x=true\/ X.env.scope.names.lookup x=some .local:=by first|exact .inl rfl|exact .inr rfl|assumption):wpAny M A (storeName X.env x u) Q E s:=
 b4D I hN hi hx r (fun s' I' _=>h s' I') hf
theorem aB.call'{s':Shared}{ch:List Addr}(I:aB X pins σ H s)(ho:s'.os=s.os)(u:Un (cW X.stack) ch H H' s.heap s'.heap)(hok:bY X.prog X.w H' s'.heap)(hg:AllBare s'.gens)
 (hch:∀b∈ch,(b∈X.ex\/ X.s₀.heap.objs.size<=b)/\b≠X.env.locals/\(∀x c,X.env.cells.lookup x=some c->c≠b)/\∀p∈X.pn++ pins,p.1≠b):aB X pins σ H' s':=by
 obtain⟨h',g',d',t',o'⟩:=s'
 have e:o'=s.os:=ho
 subst e
 exact I.call (g':=g') (t':=t') (d':=d') u hok hg hch
end
abbrev XK:=Value->Option Addr->Hp->Prop
abbrev St:=List (Option V)
abbrev VK:=V->Hp->Prop
abbrev TE:=St->Hp->VK->Prop
abbrev TT:=St->Hp->(Bool->Hp->Prop)->Prop
abbrev TA:=St->Hp->(List V->Hp->Prop)->Prop
structure fL where
 nx:St->Hp->Prop
 rt:VK
 bk:St->Hp->Prop:=fun _ _=>False
 ct:St->Hp->Prop:=fun _ _=>False
abbrev TS:=fL->St->Hp->Prop
def EP(X:Cx)(pins:List (Addr×Obj))(σ:St)(Q:VK)(u:Value)(s':Shared):Prop:=∃v H',aB X pins σ H' s'/\aW v u/\Q v H'
def TP(X:Cx)(pins:List (Addr×Obj))(σ:St)(Q:Bool->Hp->Prop)(b:Bool)(s':Shared):Prop:=∃H',aB X pins σ H' s'/\Q b H'
def AP(X:Cx)(pins:List (Addr×Obj))(σ:St)(Q:List V->Hp->Prop)(us:List Value)(s':Shared):Prop:=∃vs H',aB X pins σ H' s'/\aV vs us/\Q vs H'
def SP(X:Cx)(pins:List (Addr×Obj))(D:fL)(f:Flow)(s':Shared):Prop:=
 match f with
 | .next=>∃σ' H',aB X pins σ' H' s'/\D.nx σ' H'
 | .brk=>∃σ' H',aB X pins σ' H' s'/\D.bk σ' H'
 | .cont=>∃σ' H',aB X pins σ' H' s'/\D.ct σ' H'
 | .ret u=>∃v σ' H',aB X pins σ' H' s'/\aW v u/\D.rt v H'
def PE(X:Cx)(e:Expr)(t:TE):Prop:=
 ∀(pins:List (Addr×Obj)) (s:Shared) (σ:St) (H:Hp) (Q:VK),aB X pins σ H s->t σ H Q->wpAny (model X.prog X.w) X.A (eval e X.env) (EP X pins σ Q) X.xe s
def PT(X:Cx)(e:Expr)(t:TT):Prop:=
 ∀(pins:List (Addr×Obj)) (s:Shared) (σ:St) (H:Hp) (Q:Bool->Hp->Prop),aB X pins σ H s->t σ H Q->wpAny (model X.prog X.w) X.A (isTrue e X.env (eval e X.env)) (TP X pins σ Q) X.xe s
def PW(X:Cx)(e:Expr)(t:TT):Prop:=
 ∀(whole:Sem Value) (pins:List (Addr×Obj)) (s:Shared) (σ:St) (H:Hp) (Q:Bool->Hp->Prop),aB X pins σ H s->t σ H Q->wpAny (model X.prog X.w) X.A (isTrue e X.env whole) (TP X pins σ Q) X.xe s
theorem PW.pt{X:Cx}{e:Expr}{t:TT}(h:PW X e t):PT X e t:=h _
def PA(X:Cx)(es:List Expr)(t:TA):Prop:=
 ∀(pos:Pos) (pins:List (Addr×Obj)) (s:Shared) (σ:St) (H:Hp) (Q:List V->Hp->Prop),aB X pins σ H s->t σ H Q->wpAny (model X.prog X.w) X.A (spliced (backTo pos (starEach es X.env))) (AP X pins σ Q) X.xe s
def PS(X:Cx)(st:Stmt)(t:TS):Prop:=
 ∀(pins:List (Addr×Obj)) (s:Shared) (σ:St) (H:Hp) (D:fL),aB X pins σ H s->t D σ H->wpAny (model X.prog X.w) X.A (exec st X.env) (SP X pins D) X.xe s
def cD(X:Cx)(st:List Stmt)(t:TS):Prop:=
 ∀(pins:List (Addr×Obj)) (s:Shared) (σ:St) (H:Hp) (D:fL),aB X pins σ H s->t D σ H->wpAny (model X.prog X.w) X.A (execs st X.env) (SP X pins D) X.xe s
theorem aN{α:Type}{t:Sem α}{Q Q':α->Shared->Prop}{M:Model}{A:Around}{E:Value->Shared->Prop}{s:Shared}(h:wpAny M A t Q E s)(hQ:∀a s,Q a s->Q' a s):wpAny M A t Q' E s:=wpAny_mono h hQ fun _ _ x=>x
section
variable{X:Cx}
theorem bin{a b:Expr}{ta tb:TE}(ha:PE X a ta)(hb:PE X b tb){pins:List (Addr×Obj)}{s:Shared}{σ:St}{H:Hp}{R:V->V->Hp->Prop}(I:aB X pins σ H s)(h:ta σ H fun x H1=>tb σ H1 fun y H2=>R x y H2)
 {α:Type}{Q:α->Shared->Prop}{f:Value->Value->Sem α}
 (hf:∀v u s2 x y H2,aB X pins σ H2 s2->aW x v->aW y u->R x y H2->wpAny (model X.prog X.w) X.A (f v u) Q X.xe s2):
 wpAny (model X.prog X.w) X.A (eval a X.env) (fun v s₁=>wpAny (model X.prog X.w) X.A (eval b X.env) (fun u s₂=>wpAny (model X.prog X.w) X.A (f v u) Q X.xe s₂) X.xe s₁) X.xe s:=by
 refine aN (ha pins s σ H _ I h) fun v s1 ⟨x,H1,I1,r1,q1⟩=> ?_
 refine aN (hb pins s1 σ H1 _ I1 q1) fun u s2 ⟨y,H2,I2,r2,q2⟩=> ?_
 exact hf v u s2 x y H2 I2 r1 r2 q2
def kZ(i:Nat):TE:=fun σ H Q=>∃v,σ[i]?=some (some v)/\Q v H
def tC(v:V):TE:=fun _ H Q=>Q v H
theorem b2q{i:Nat}{x:Str}{pos:Pos}(hN:X.N[i]?=some x)(hv:tH X.env.scope x)(hd:(x==("__debug__":Str))=false:=by decide)(hcd:(x==("__classdict__":Str))=false:=by decide):PE X (.Name x pos) (kZ i):=by
 intro pins s σ H Q I h
 obtain⟨v,e,h⟩:=h
 obtain⟨m,hn,hl⟩:=I.loc
 obtain⟨u,r,l⟩:=hl i x v hN e hv
 have fin:EP X pins σ Q u s:=⟨v,H,I,r,h⟩
 rcases l with⟨hk,hm⟩|⟨hk,c,hc,hcell⟩
 ·exact wpAny_Name (wpAny_loadName_local I.ok.kind hk hn hm fin) hd
 ·rcases hk with hk|hk
  ·exact wpAny_Name (wpAny_loadName_cell I.ok.kind hk hc hcell fin) hd
  ·exact wpAny_Name (wpAny_loadName_free I.ok.kind hk hc hcell fin hcd) hd
theorem bE{i j pos}:PE X (.Constant (.int i) j pos) (tC (.int i)):=fun _ _ _ H _ I h=>wpAny_Constant_int ⟨.int i,H,I.tok _,⟨_,rfl⟩,h⟩
theorem lB{b j pos}:PE X (.Constant (.bool b) j pos) (tC (.bl b)):=fun _ _ _ H _ I h=>Constant_bool ⟨.bl b,H,I,rfl,h⟩
theorem jZ{j pos}:PE X (.Constant .none j pos) (tC .non):=fun _ _ _ H _ I h=>Constant_none ⟨.non,H,I,rfl,h⟩
theorem bF{x j pos}:PE X (.Constant (.str x) j pos) (tC (.str x)):=fun _ _ _ H _ I h=>Calls.Constant_str ⟨.str x,H,I.tok _,⟨_,rfl⟩,h⟩
def Gl(X:Cx)(x:Str):Prop:=X.env.kindOf x=some .globalImplicit
theorem kT{E:Value->Shared->Prop}{pins:List (Addr×Obj)}{s:Shared}{σ:St}{H:Hp}{x:Str}{u:Value}{pos:Pos}{Q:Value->Shared->Prop}(I:aB X pins σ H s)(hg:Gl X x)(hm:X.mg x=some u)(h:Q u s)
 (hd:(x==("__debug__":Str))=false:=by decide):wpAny (model X.prog X.w) X.A (eval (.Name x pos) X.env) Q E s:=
 Calls.Name_function_global I.ok.kind hg (Calls.loadGlobal_global (by rw[I.ok.glob];exact I.mod.glob.keeps I.bk) hm h) hd
theorem a4u{E:Value->Shared->Prop}{pins:List (Addr×Obj)}{s:Shared}{σ:St}{H:Hp}{x:Str}{u:Value}{pos:Pos}{Q:Value->Shared->Prop}(I:aB X pins σ H s)(hg:Gl X x)(hm:X.mg x=none)(hv:bootBuiltins x=some u)(h:Q u s)
 (hn:x≠ "__name__":=by decide)(hd:(x==("__debug__":Str))=false:=by decide):wpAny (model X.prog X.w) X.A (eval (.Name x pos) X.env) Q E s:=by
 obtain⟨mb,h1,h2⟩:=I.mod.blt
 exact Calls.Name_function_global I.ok.kind hg (Calls.loadGlobal_builtin (by rw[I.ok.glob];exact I.mod.glob.keeps I.bk) hm (by rw[I.ok.blt];exact h1.keeps I.bk) ((h2 x hn).trans hv) h) hd
theorem a36{x:Str}{v:V}{u:Value}{pos:Pos}(hg:Gl X x)(hm:X.mg x=some u)(r:aW v u)(hd:(x==("__debug__":Str))=false:=by decide):PE X (.Name x pos) (tC v):=
 fun _ _ _ H _ I h=>kT I hg hm ⟨v,H,I,r,h⟩ hd
theorem b4N{x:Str}{v:V}{u:Value}{pos:Pos}(hg:Gl X x)(hm:X.mg x=none)(hv:bootBuiltins x=some u)(r:aW v u)(hn:x≠ "__name__":=by decide)(hd:(x==("__debug__":Str))=false:=by decide):PE X (.Name x pos) (tC v):=
 fun _ _ _ H _ I h=>a4u I hg hm hv ⟨v,H,I,r,h⟩ hn hd
variable{a b:Expr}{ta tb:TE}{pos:Pos}
def PC(X:Cx)(op:CmpOp)(a b:Expr)(t:TE):Prop:=
 ∀(pins:List (Addr×Obj)) (s:Shared) (σ:St) (H:Hp) (Q:VK),aB X pins σ H s->t σ H Q->
  wpAny (model X.prog X.w) X.A (eval a X.env) (fun v s₁=>wpAny (model X.prog X.w) X.A (eval b X.env) (fun u s₂=>wpAny (model X.prog X.w) X.A (compareOp op v u) (EP X pins σ Q) X.xe s₂) X.xe s₁) X.xe s
theorem b15(b:Expr){op:CmpOp}(h:op≠ .In)(h2:op≠ .NotIn):behindInMarks op b=false:=by
 have e1:(op==CmpOp.In)=false:=by cases op<;>first|rfl|exact absurd rfl h
 have e2:(op==CmpOp.NotIn)=false:=by cases op<;>first|rfl|exact absurd rfl h2
 cases b<;>simp[behindInMarks,e1,e2]
def tB(t:TE):TT:=fun σ H Q=>t σ H fun x H1=>∃c,x= .bl c/\Q c H1
theorem kO{op:CmpOp}{t:TE}(h:PC X op a b t)(h1:behindInMarks op b=false:=by first|exact b15 _ (by decide) (by decide)|rfl):PT X (.Compare a [op] [b] pos) (tB t):=by
 intro pins s σ H Q I hw
 refine wpAny_isTrue_Compare1 (aN (h pins s σ H _ I hw) fun v s1 h1=>aN h1 fun u s2 h2=>aN h2 fun c s3 ⟨x,H1,I1,r1,q1⟩=> ?_) h1
 obtain⟨d,rfl,q⟩:=q1
 cases r1
 exact wpAny_truthy_bool ⟨H1,I1,q⟩
theorem dL{e:Expr}{t:TE}(h:PE X e t)(he:∀whole,isTrue e X.env whole=(do let v<- whole;standAt e.pos;holding [v] (truthy v)):=by intro _;rfl):PT X e (tB t):=by
 intro pins s σ H Q I hw
 refine isTrue_plain (aN (h pins s σ H _ I hw) fun v s1 ⟨x,H1,I1,r1,q1⟩=> ?_) (he _)
 obtain⟨d,rfl,q⟩:=q1
 cases r1
 exact wpAny_truthy_bool ⟨H1,I1,q⟩
variable{tA tB':TT}{fA:List Expr}
def tAnd(t u:TT):TT:=fun σ H Q=>t σ H fun c H1=>if c=true then u σ H1 Q else Q false H1
def tOr(t u:TT):TT:=fun σ H Q=>t σ H fun c H1=>if c=true then Q true H1 else u σ H1 Q
def tNot(t:TT):TT:=fun σ H Q=>t σ H fun c H1=>Q (!c) H1
theorem lP(ha:PT X a tA):PW X (.BoolOp .And [a] pos) tA:=by
 intro wh pins s σ H Q I h
 refine isTrue_and (aN (ha pins s σ H Q I h) fun c s1 e=> ?_)
 cases c with
 |true=>exact isTrue_and_nil e
 |false=>exact e
theorem eV(ha:PT X a tA):PW X (.BoolOp .Or [a] pos) tA:=by
 intro wh pins s σ H Q I h
 refine isTrue_or (aN (ha pins s σ H Q I h) fun c s1 e=> ?_)
 cases c with
 |false=>exact isTrue_or_nil e
 |true=>exact e
theorem mR(ha:PT X a tA)(hb:PW X (.BoolOp .And (b::fA) pos) tB'):PW X (.BoolOp .And (a::b::fA) pos) (tAnd tA tB'):=by
 intro wh pins s σ H Q I h
 refine isTrue_and (aN (ha pins s σ H _ I h) fun c s1 ⟨H1,I1,q1⟩=> ?_)
 cases c with
 |true=>exact hb wh pins s1 σ H1 Q I1 q1
 |false=>exact⟨H1,I1,q1⟩
theorem eS(ha:PT X a tA)(hb:PW X (.BoolOp .Or (b::fA) pos) tB'):PW X (.BoolOp .Or (a::b::fA) pos) (tOr tA tB'):=by
 intro wh pins s σ H Q I h
 refine isTrue_or (aN (ha pins s σ H _ I h) fun c s1 ⟨H1,I1,q1⟩=> ?_)
 cases c with
 |true=>exact⟨H1,I1,q1⟩
 |false=>exact hb wh pins s1 σ H1 Q I1 q1
theorem dG(ha:PT X a tA):PT X (.UnaryOp .Not a pos) (tNot tA):=by
 intro pins s σ H Q I h
 exact isTrue_not (ha pins s σ H (fun c H1=>Q (!c) H1) I h)
def b11(ta tb:TE):TE:=fun σ H Q=>ta σ H fun x H1=>∃c,x= .bl c/\if c=true then tb σ H1 Q else Q (.bl false) H1
def tOrV(ta tb:TE):TE:=fun σ H Q=>ta σ H fun x H1=>∃c,x= .bl c/\if c=true then Q (.bl true) H1 else tb σ H1 Q
def b4c(ta:TE):TE:=fun σ H Q=>ta σ H fun x H1=>∃c,x= .bl c/\Q (.bl (!c)) H1
theorem mM{op}{t:TE}(h:PE X a t):PE X (.BoolOp op [a] pos) t:=fun pins s σ H Q I hw=>BoolOp_one (h pins s σ H Q I hw)
theorem nA(ha:PE X a ta)(hb:PE X (.BoolOp .And (b::fA) pos) tb):PE X (.BoolOp .And (a::b::fA) pos) (b11 ta tb):=by
 intro pins s σ H Q I h
 refine BoolOp_and (aN (ha pins s σ H _ I h) fun v s1 ⟨x,H1,I1,r1,q1⟩=> ?_)
 obtain⟨c,rfl,q1⟩:=q1
 cases r1
 refine wpAny_truthy_bool ?_
 cases c with
 |true=>exact hb pins s1 σ H1 Q I1 q1
 |false=>exact⟨.bl false,H1,I1,rfl,q1⟩
theorem b3S(ha:PE X a ta)(hb:PE X (.BoolOp .Or (b::fA) pos) tb):PE X (.BoolOp .Or (a::b::fA) pos) (tOrV ta tb):=by
 intro pins s σ H Q I h
 refine BoolOp_or (aN (ha pins s σ H _ I h) fun v s1 ⟨x,H1,I1,r1,q1⟩=> ?_)
 obtain⟨c,rfl,q1⟩:=q1
 cases r1
 refine wpAny_truthy_bool ?_
 cases c with
 |false=>exact hb pins s1 σ H1 Q I1 q1
 |true=>exact⟨.bl true,H1,I1,rfl,q1⟩
theorem b0y(ha:PE X a ta):PE X (.UnaryOp .Not a pos) (b4c ta):=by
 intro pins s σ H Q I h
 refine UnaryOp_ (aN (ha pins s σ H _ I h) fun v s1 ⟨x,H1,I1,r1,q1⟩=> ?_)
 obtain⟨c,rfl,q1⟩:=q1
 cases r1
 exact not_of (wpAny_truthy_bool ⟨.bl (!c),H1,I1,rfl,q1⟩)
end
def aS(K:Fg)(H:Hp)(a:Addr)(xs:List V):Prop:=
 Rd H a (.lst xs)\/
  ∃(o:Obj) (its:Array Value) (n:Nat),K.lookup a=some o/\o.cls= .type "list" /\o.dict=none/\o.data= .seq its n/\its.size<=sizeLine/\aV xs its.toList
def eB(K:Fg)(H:Hp)(a:Addr)(xs:List V):Prop:=
 Rd H a (.tup xs)\/
  ∃(o:Obj) (its:Array Value) (n:Nat),K.lookup a=some o/\o.cls= .type "tuple" /\o.data= .seq its n/\its.size<=sizeLine/\aV xs its.toList
noncomputable def absV:Value->Option V
 | .none=>some .non
 | .bool b=>some (.bl b)
 | .int i _=>some (.int i)
 | .str x _=>some (.str x)
 | .bytes b _=>some (.byt b)
 | .float b _=>some (.flt b)
 | .ref a=>some (.ref a)
 | .type n=>some (.ty n)
 |_=>none
theorem aW.abs{x:V}{u:Value}(r:aW x u):absV u=some x:=by
 cases x with
 |non=>cases r;rfl
 |bl _=>cases r;rfl
 |int _=>obtain⟨t,rfl⟩:=r;rfl
 |str _=>obtain⟨t,rfl⟩:=r;rfl
 |byt _=>obtain⟨t,rfl⟩:=r;rfl
 |flt _=>obtain⟨t,rfl⟩:=r;rfl
 |ref _=>cases r;rfl
 |ty _=>cases r;rfl
theorem aW.inj{x y:V}{u:Value}(r:aW x u)(q:aW y u):x=y:=Option.some.inj (r.abs.symm.trans q.abs)
theorem aV.inj:∀{xs ys:List V} {us:List Value},aV xs us->aV ys us->xs=ys
 |_,_,_,.nil,.nil=>rfl
 |_,_,_,.cons r t,.cons r' t'=>by rw[r.inj r',aV.inj t t']
section
variable{X:Cx}{pins:List (Addr×Obj)}{σ:St}{H:Hp}{s:Shared}{a:Addr}{xs ys:List V}
theorem aS.of{K:Fg}(h:H a=some (.lst xs)):aS K H a xs:=.inl (.inl h)
theorem eB.of{K:Fg}(h:H a=some (.tup xs)):eB K H a xs:=.inl (.inl h)
theorem aB.list(I:aB X pins σ H s)(h:aS X.K H a xs):∃its:List Value,aV xs its/\PlainL s.heap a its.toArray/\xs.length<=sizeLine:=by
 rcases h with h|⟨o,its,n,hk,hc,hd,hs,hz,r⟩
 ·obtain⟨z,its,n,r,e⟩:=h.ok I.hok
  exact⟨its,r,⟨_,n,e,rfl,rfl,rfl⟩,z⟩
 ·refine⟨its.toList,r,⟨o,n,I.kIn a o hk,hc,hd,by simpa using hs⟩,?_⟩
  have e:=r.length
  simp only[Array.length_toList]at e
  omega
theorem aB.tuple(I:aB X pins σ H s)(h:eB X.K H a xs):∃its:List Value,aV xs its/\IsTup s.heap a its.toArray/\xs.length<=sizeLine:=by
 rcases h with h|⟨o,its,n,hk,hc,hs,hz,r⟩
 ·obtain⟨z,its,r,p⟩:=h.ok I.hok
  exact⟨its,r,p,z⟩
 ·refine⟨its.toList,r,⟨o,I.kIn a o hk,hc,n,by simpa using hs⟩,?_⟩
  have e:=r.length
  simp only[Array.length_toList]at e
  omega
theorem aB.list_inj(I:aB X pins σ H s)(h:aS X.K H a xs)(h':aS X.K H a ys):xs=ys:=by
 obtain⟨its,r,⟨o,n,e,_,_,d⟩,_⟩:=I.list h
 obtain⟨its',r',⟨o',n',e',_,_,d'⟩,_⟩:=I.list h'
 rw[e]at e';cases e'
 rw[d]at d'
 injection d' with d1 _
 have:its=its':=by simpa using congrArg Array.toList d1
 subst this
 exact r.inj r'
end
abbrev Cx.wish(X:Cx)(E:Value->Shared->Prop):Cx:={X with xe:=E}
abbrev Cx.nox(X:Cx):Cx:=X.wish fun _ _=>False
theorem Cx.Ok.wish{X:Cx}(ok:X.Ok)(E:Value->Shared->Prop):(X.wish E).Ok:=
 ⟨ok.mod,ok.kind,ok.glob,ok.blt,ok.above,ok.inj,ok.has,ok.cab,ok.hd,ok.frames,ok.stk,ok.exf,ok.bs,ok.bsz,ok.noex,ok.exfs,ok.funs,ok.frf⟩
theorem Cx.Ok.unwish{X:Cx}{E:Value->Shared->Prop}(ok:(X.wish E).Ok):X.Ok:=
 ⟨ok.mod,ok.kind,ok.glob,ok.blt,ok.above,ok.inj,ok.has,ok.cab,ok.hd,ok.frames,ok.stk,ok.exf,ok.bs,ok.bsz,ok.noex,ok.exfs,ok.funs,ok.frf⟩
section
variable{X:Cx}{pins:List (Addr×Obj)}{σ:St}{H:Hp}{s:Shared}{E:Value->Shared->Prop}
theorem aB.wish(I:aB X pins σ H s)(E:Value->Shared->Prop):aB (X.wish E) pins σ H s:=⟨I.ok.wish E,I.os,I.bare,I.base,I.loc,I.cell,I.free,I.freeC,I.pin,I.hok,I.len⟩
theorem aB.unwish(I:aB (X.wish E) pins σ H s):aB X pins σ H s:=⟨I.ok.unwish,I.os,I.bare,I.base,I.loc,I.cell,I.free,I.freeC,I.pin,I.hok,I.len⟩
theorem SP.unwish{D:fL}{f:Flow}{s':Shared}(h:SP (X.wish E) pins D f s'):SP X pins D f s':=by
 cases f with
 |next=>obtain⟨σ',H',I,q⟩:=h;exact⟨σ',H',I.unwish,q⟩
 |brk=>obtain⟨σ',H',I,q⟩:=h;exact⟨σ',H',I.unwish,q⟩
 |cont=>obtain⟨σ',H',I,q⟩:=h;exact⟨σ',H',I.unwish,q⟩
 |ret u=>obtain⟨v,σ',H',I,r,q⟩:=h;exact⟨v,σ',H',I.unwish,r,q⟩
theorem cD.nox{st:List Stmt}{t:TS}(h:cD X.nox st t):cD X st t:=fun pins s σ H D I hw=>
 wpAny_mono (h pins s σ H D (I.wish _) hw) (fun _ _ q=>q.unwish) fun _ _ z=>False.elim z
end
section
variable{X:Cx}{st:Stmt}{fA:List Stmt}{t u:TS}{e:Expr}{te:TE}{pos:Pos}
def b46:TS:=fun D σ H=>D.nx σ H
def tSeq(t u:TS):TS:=fun D σ H=>t {D with nx:=u D} σ H
theorem bO:cD X [] b46:=fun _ _ σ H _ I h=>wpAny_execs_nil ⟨σ,H,I,h⟩
theorem aM(h1:PS X st t)(h2:cD X fA u):cD X (st::fA) (tSeq t u):=by
 intro pins s σ H D I h
 refine wpAny_execs_cons (aN (h1 pins s σ H {D with nx:=u D} I h) fun f s1 q=> ?_)
 cases f with
 |next=>
  obtain⟨σ',H',I',q⟩:=q
  exact h2 pins s1 σ' H' D I' q
 |ret v=>exact q
 |brk=>exact q
 |cont=>exact q
theorem aK(h1:PS X st t):cD X [st] t:=by
 intro pins s σ H D I h
 refine wpAny_execs_cons (aN (h1 pins s σ H D I h) fun f s1 q=> ?_)
 cases f with
 |next=>exact wpAny_execs_nil q
 |ret v=>exact q
 |brk=>exact q
 |cont=>exact q
theorem aB.quiet{pins:List (Addr×Obj)}{σ:St}{H:Hp}{s:Shared}(I:aB X pins σ H s):interactive X.env=false:=by simp[interactive,I.ok.kind]
def b53(te:TE):TS:=fun D σ H=>te σ H fun _ H1=>D.nx σ H1
theorem dC(he:PE X e te)(hs:swapsWith e none pos.line X.env=pure false:=by rfl):PS X (.Expr e pos) (b53 te):=by
 intro pins s σ H D I h
 exact wpAny_Expr_any (aN (he pins s σ H _ I h) fun v s1 ⟨x,H1,I1,r1,q1⟩=>⟨σ,H1,I1,q1⟩) I.quiet hs
def tRet(te:TE):TS:=fun D σ H=>te σ H D.rt
theorem bK(he:PE X e te):PS X (.Return (some e) pos) (tRet te):=by
 intro pins s σ H D I h
 exact wpAny_Return_some (aN (he pins s σ H _ I h) fun v s1 ⟨x,H1,I1,r1,q1⟩=>⟨x,σ,H1,I1,r1,q1⟩)
def tIfS(c:TT)(t u:TS):TS:=fun D σ H=>c σ H fun b H1=>if b=true then t D σ H1 else u D σ H1
theorem bL{c:Expr}{a b:List Stmt}{tc:TT}(hc:PT X c tc)(ha:cD X a t)(hb:cD X b u):PS X (.If c a b pos) (tIfS tc t u):=by
 intro pins s σ H D I h
 refine wpAny_If (aN (hc pins s σ H _ I h) fun d s1 ⟨H1,I1,q1⟩=> ?_)
 cases d with
 |true=>exact ha pins s1 σ H1 D I1 q1
 |false=>exact hb pins s1 σ H1 D I1 q1
end
abbrev TG:=V->St->Hp->(St->Hp->Prop)->Prop
abbrev lK:=List V->St->Hp->(St->Hp->Prop)->Prop
def PG(X:Cx)(target:Expr)(t:TG):Prop:=
 ∀(pins:List (Addr×Obj)) (s:Shared) (σ:St) (H:Hp) (v:V) (u:Value) (Q:St->Hp->Prop),aB X pins σ H s->aW v u->t v σ H Q->
  wpAny (model X.prog X.w) X.A (assign target X.env u) (fun _ s'=>∃σ' H',aB X pins σ' H' s'/\Q σ' H') X.xe s
def nO(X:Cx)(ts:List Expr)(t:lK):Prop:=
 ∀(pins:List (Addr×Obj)) (s:Shared) (σ:St) (H:Hp) (vs:List V) (us:List Value) (Q:St->Hp->Prop),aB X pins σ H s->aV vs us->t vs σ H Q->
  wpAny (model X.prog X.w) X.A (assignInOrder ((assignEach ts X.env).map (·.2)) us) (fun _ s'=>∃σ' H',aB X pins σ' H' s'/\Q σ' H') X.xe s
section
variable{X:Cx}{pos:Pos}
noncomputable def iJ(i:Nat):TG:=fun v σ H Q=>Q (σ.set i (some v)) H
theorem lI{i:Nat}{x:Str}(hN:X.N.Nodup)(hi:X.N[i]?=some x)(hx:oP X.env.scope x)(hf:X.fn x=true\/ X.env.scope.names.lookup x=some .local:=by first|exact .inl rfl|exact .inr rfl|assumption):PG X (.Name x pos) (iJ i):=by
 intro pins s σ H v u Q I r h
 exact wpAny_assign_Name (a81 I hN hi hx r (fun s' I'=>⟨_,H,I',h⟩) hf)
noncomputable def gNil:lK:=fun vs σ H Q=>vs= [] /\Q σ H
noncomputable def rS (t:TG) (u:lK):lK:=fun vs σ H Q=>∃v r,vs=v::r/\t v σ H fun σ' H'=>u r σ' H' Q
theorem b2P:nO X [] gNil:=by
 intro pins s σ H vs us Q I r h
 obtain⟨e,h⟩:=h
 subst e
 cases r
 exact assignInOrder_nil ⟨σ,H,I,h⟩
theorem b0R{e:Expr}{es:List Expr}{t:TG}{u:lK}(h1:PG X e t)(h2:nO X es u)
 (hs:(assignEach (e::es) X.env).map (·.2)=assign e X.env::(assignEach es X.env).map (·.2):=by rfl):nO X (e::es) (rS t u):=by
 intro pins s σ H vs us Q I r h
 obtain⟨v,vr,e1,h⟩:=h
 subst e1
 cases r with
 |cons r rr=>
  rw[hs]
  refine assignInOrder_cons (aN (h1 pins s σ H _ _ _ I r h) fun _ s1 ⟨σ1,H1,I1,q1⟩=> ?_)
  exact h2 pins s1 σ1 H1 _ _ Q I1 rr q1
noncomputable def gTup (K:Fg) (n:Nat) (t:lK):TG:=fun v σ H Q=>∃a xs,v= .ref a/\eB K H a xs/\xs.length=n/\t xs σ H Q
theorem b19{es:List Expr}{k:Nat}{t:lK}{n:Nat}(hc:X.calm=true)(h:nO X es t)
 (hn:(assignEach es X.env).length=n:=by rfl)(hst:(assignEach es X.env).findIdx? (·.1)=none:=by rfl):PG X (.Tuple es k pos) (gTup X.K n t):=by
 intro pins s σ H v u Q I r hw
 obtain⟨a,xs,e1,hq,hl,hw⟩:=hw
 subst e1
 cases r
 obtain⟨its,rv,ht,hz⟩:=I.tuple hq
 refine assign_Tuple_tuple (I.ok.hd hc) ht (by simp[hn,<- hl,rv.length]) hst fun h' hx=> ?_
 have I1:aB X pins σ H {s with heap:=h'}:=I.kept (t':=s.toks) fun b o e=>hx b o (Nat.ne_of_lt (Heap.lt_size e)) e
 exact h pins _ σ H xs _ Q I1 (by simpa using rv) hw
def tAsg(te:TE)(g:TG):TS:=fun D σ H=>te σ H fun x H1=>g x σ H1 D.nx
theorem cQ{i:Nat}{x:Str}{e:Expr}{te:TE}{pos':Pos}(hN:X.N.Nodup)(hi:X.N[i]?=some x)(hx:oP X.env.scope x)(he:PE X e te)(hs:swapsWith e (some (.Name x pos')) pos.line X.env=pure false:=by rfl)(hf:X.fn x=true\/ X.env.scope.names.lookup x=some .local:=by first|exact .inl rfl|exact .inr rfl|assumption):
 PS X (.Assign [.Name x pos'] e pos) (tAsg te (iJ i)):=by
 intro pins s σ H D I h
 refine wpAny_Assign_Name (aN (he pins s σ H _ I h) fun v s1 ⟨y,H1,I1,r1,q1⟩=> ?_) hs
 exact a81 I1 hN hi hx r1 (fun s2 I2=>⟨_,H1,I2,q1⟩) hf
end
structure It where
 go:Nat->Hp->Prop
 yld:Nat->Hp->V->Hp->Prop
 stop:Nat->Hp->Prop
def fR(X:Cx)(pins:List (Addr×Obj))(H:Hp)(b:Addr):Prop:=
 H b=none/\b≠X.env.locals/\b∉X.fs/\(b∈X.ex\/ X.s₀.heap.objs.size<=b)/\(∀x c,X.env.cells.lookup x=some c->c≠b)/\∀p∈X.pn++ pins,p.1≠b
theorem aB.fpOk{X:Cx}{pins:List (Addr×Obj)}{σ:St}{H H':Hp}{s:Shared}{b:Addr}(I:aB X pins σ H s)(hb:s.heap.objs.size<=b)(hn:H' b=none):fR X pins H' b:=by
 refine⟨hn,Nat.ne_of_gt (Nat.lt_of_lt_of_le I.lt hb),I.nofs hb,.inr (Nat.le_trans I.sz hb),fun x c e z=> ?_,fun p hp z=> ?_⟩
 ·obtain⟨v,q⟩:=I.cell x c e
  exact absurd (Nat.lt_of_lt_of_le q.lt (by rw[z];exact hb)) (Nat.lt_irrefl _)
 ·exact absurd (Nat.lt_of_lt_of_le (Heap.lt_size (I.pin p hp).1) (by rw[z];exact hb)) (Nat.lt_irrefl _)
structure pD(P:Program)(w:World)(K:Fg)(tg:Expr)(J:It)(fp:List Addr)(it:Addr)(tn:Nat->Heap->Prop):Prop where
 mem:it∈fp
 obj:∀i h,tn i h->∀b∈fp,∃o,h.get? b=some o/\∀v,o.data≠ .cell v
 keep:∀i h h',tn i h->(∀b∈fp,∀o,h.get? b=some o->h'.get? b=some o)->tn i h'
 item:∀(X:Cx),X.prog=P->X.w=w->X.K=K->X.calm=true->∀(i:Nat) (pins:List (Addr×Obj)) (s:Shared) (σ:St) (H:Hp) (E:Value->Shared->Prop),aB X pins σ H s->(∀b∈fp,fR X pins H b)->tn i s.heap->J.go i H->
  wpAny (model P w) X.A (pyNext (.ref it)) (fun r s1=>∃u,r=some u/\
   wpAny (model P w) X.A (letOwnedTupleGo tg (.ref it) u) (fun _ s2=>∃x H',aB X pins σ H' s2/\aW x u/\J.yld i H x H'/\tn (i+ 1) s2.heap/\∀b∈fp,H' b=none) E s1) E s
 done:∀(X:Cx),X.prog=P->X.w=w->X.K=K->X.calm=true->∀(i:Nat) (pins:List (Addr×Obj)) (s:Shared) (σ:St) (H:Hp) (E:Value->Shared->Prop),aB X pins σ H s->(∀b∈fp,fR X pins H b)->tn i s.heap->J.stop i H->
  wpAny (model P w) X.A (pyNext (.ref it)) (fun r s1=>r=none/\aB X pins σ H s1) E s
 self:∀(A:Around) (i:Nat) (s:Shared) (Q:Value->Shared->Prop) (E:Value->Shared->Prop),tn i s.heap->Q (.ref it) s->wpAny (model P w) A (pyIter (.ref it)) Q E s
abbrev TI:=St->Hp->(It->Hp->Prop)->Prop
def PIE(X:Cx)(pins:List (Addr×Obj))(σ:St)(tg:Expr)(R:It->Hp->Prop)(itv:Value)(s2:Shared):Prop:=
 ∃(it:Addr) (fp:List Addr) (tn:Nat->Heap->Prop) (J:It) (H':Hp),itv= .ref it/\aB X pins σ H' s2/\pD X.prog X.w X.K tg J fp it tn/\tn 0 s2.heap/\(∀b∈fp,fR X pins H' b)/\R J H'
def PI(X:Cx)(tg iter:Expr)(wi:TI):Prop:=
 ∀(pins:List (Addr×Obj)) (s:Shared) (σ:St) (H:Hp) (R:It->Hp->Prop),aB X pins σ H s->wi σ H R->
  wpAny (model X.prog X.w) X.A (eval iter X.env) (fun v s1=>wpAny (model X.prog X.w) X.A (pyIter v) (PIE X pins σ tg R) X.xe s1) X.xe s
theorem b05{M:Model}{A:Around}{E:Value->Shared->Prop}{s:Shared}{tg:Expr}{it:Addr}{u:Value}{o:Obj}{n:String}{vs:Array Value}{Q:Unit->Shared->Prop}(ho:s.heap.get? it=some o)(hc:o.cls= .type n)(hd:o.data= .fields vs)
 (hn:["enumerate","zip","dict_itemiterator","dict_reverseitemiterator","odict_iterator","itertools.zip_longest","itertools.pairwise"].contains n=false)(hQ:Q () s):wpAny M A (letOwnedTupleGo tg (.ref it) u) Q E s:=by
 unfold letOwnedTupleGo
 cases tg<;>first
  |exact wpAny_pure hQ
  |(cases u<;>first
   |exact wpAny_pure hQ
   | (refine wpAny_bind (wpAny_load ho ?_)
      rw[hc,hd]
      show wpAny M A (if(["enumerate","zip","dict_itemiterator","dict_reverseitemiterator","odict_iterator","itertools.zip_longest","itertools.pairwise"].contains n&&vs[0]?==some (rawInt _))=true then _ else _) Q E s
      rw[if_neg (by intro h;rw[hn,Bool.false_and]at h;cases h)]
      exact wpAny_pure hQ))
noncomputable def kC (K:Fg) (a:Addr):It:=
 ⟨fun i H=>∃xs x,aS K H a xs/\xs[i]?=some x,fun i H x H'=>H'=H/\∀xs,aS K H a xs->xs[i]?=some x,fun i H=>∃xs,aS K H a xs/\xs.length<=i⟩
theorem b35{P:Program}{w:World}{K:Fg}{tg:Expr}(a it:Addr):pD P w K tg (kC K a) [it] it (fun i h=>h.IsListIter it a i) where
 mem:=by simp
 obj:=fun i h st b hb=>by
  have e:b=it:=by simpa using hb
  subst e
  obtain⟨o,e,c,d⟩:=st
  exact⟨o,e,fun v z=>by rw[d]at z;cases z⟩
 keep:=fun i h h' st k=>st.at fun o e=>k it (by simp) o e
 item:=by
  intro X hP hw hK hc i pins s σ H E I hf st hg
  subst hP hw hK
  obtain⟨xs,x,hq,hx⟩:=hg
  obtain⟨its,rv,p,hz⟩:=I.list hq
  obtain⟨u,hu,ru⟩:=rv.get hx
  obtain⟨f0,f1,f2,f3,f4,f5⟩:=hf it (by simp)
  refine wpAny_pyNext_list_item st p.isList (x:=u) (by simpa using hu) fun h' st' sb=> ?_
  have I1:aB X pins σ H {s with heap:=h'}:=I.turned (t':=s.toks) (fun b o hb e=>(sb.2 b hb).trans e) f0 f1 f3 f4 f5
  obtain⟨o,e,c,d⟩:=id st'
  exact⟨u,rfl,b05 (s:={s with heap:=h'}) e c d (by decide) ⟨x,H,I1,ru,⟨rfl,fun ys hy=>by rw[I.list_inj hy hq];exact hx⟩,st',fun b hb=>(hf b hb).1⟩⟩
 done:=by
  intro X hP hw hK hc i pins s σ H E I hf st hg
  subst hP hw hK
  obtain⟨xs,hq,hx⟩:=hg
  obtain⟨its,rv,p,hz⟩:=I.list hq
  obtain⟨f0,f1,f2,f3,f4,f5⟩:=hf it (by simp)
  have hl:=rv.length
  exact wpAny_pyNext_list_end (I.ok.hd hc) st p.isList (by simp;omega) fun h' eb=>⟨rfl,I.turned (t':=s.toks) (fun b o hb e=>eb b o hb e) f0 f1 f3 f4 f5⟩
 self:=fun _ _ _ _ _ st h=>wpAny_pyIter_listiter st h
section
variable{X:Cx}{tg:Expr}
def b5U(K:Fg)(tl:TE):TI:=fun σ H R=>tl σ H fun x H1=>∃a,x= .ref a/\(∃xs,aS K H1 a xs)/\R (kC K a) H1
theorem hZ{l:Expr}{tl:TE}(hl:PE X l tl):PI X tg l (b5U X.K tl):=by
 intro pins s σ H R I h
 refine aN (hl pins s σ H _ I h) fun v s1 ⟨x,H1,I1,r1,q1⟩=> ?_
 obtain⟨a,e,⟨xs,hq⟩,q⟩:=q1
 subst e
 cases r1
 obtain⟨its,rv,p,hz⟩:=I1.list hq
 refine wpAny_pyIter_list p.isList ?_
 refine⟨s1.heap.objs.size,[s1.heap.objs.size],_,_,H1,rfl,I1.kept (t':=s1.toks) fun b o e=>Heap.get?_push_of_some _ e,b35 a _,⟨_,Heap.get?_push_size _ rfl,rfl,rfl⟩,fun b hb=> ?_,q⟩
 have e:b=s1.heap.objs.size:=by simpa using hb
 subst e
 exact I1.fpOk (Nat.le_refl _) (I1.hok.fresh (Nat.le_refl _))
def tFor(wi:TI)(g:TG)(tb:TS):TS:=fun D σ H=>wi σ H fun J H1=>∃W:Nat->Nat->St->Hp->Prop,(∃m,W 0 m σ H1)/\∀i m σ H,W i m σ H->
 (J.stop i H/\D.nx σ H)\/ (J.go i H/\∃N:St->Hp->Prop,(∀σ' H',N σ' H'->∃m',m'<m/\W (i+ 1) m' σ' H')/\∀x H',J.yld i H x H'->g x σ H' fun σ2 H2=>tb {D with nx:=N,ct:=N,bk:=D.nx} σ2 H2)
noncomputable def lN (fp:List Addr) (h:Heap):List (Addr×Obj):=fp.filterMap fun b=>(h.get? b).map fun o=>(b,o)
theorem mH{fp:List Addr}{h:Heap}{b:Addr}{o:Obj}(hb:b∈fp)(e:h.get? b=some o):(b,o)∈lN fp h:=List.mem_filterMap.mpr ⟨b,hb,by rw[e];rfl⟩
theorem b4Z{fp:List Addr}{h:Heap}{p:Addr×Obj}(hp:p∈lN fp h):p.1∈fp/\h.get? p.1=some p.2:=by
 obtain⟨b,hb,e⟩:=List.mem_filterMap.mp hp
 cases q:h.get? b with
 |none=>rw[q]at e;cases e
 |some o=>
  rw[q]at e
  have e':(b,o)=p:=Option.some.inj e
  subst e'
  exact⟨hb,q⟩
theorem aB.pinned{pins:List (Addr×Obj)}{σ:St}{H:Hp}{s:Shared}{fp:List Addr}(I:aB X pins σ H s)(hf:∀b∈fp,fR X pins H b)(ho:∀b∈fp,∃o,s.heap.get? b=some o/\∀v,o.data≠ .cell v):aB X (pins++ lN fp s.heap) σ H s:=
 I.pins_of fun p hp=>(List.mem_append.mp hp).elim (fun z=>I.pin p (List.mem_append_right _ z)) fun z=>by
  obtain⟨hb,e⟩:=b4Z z
  obtain⟨f0,f1,f2,_⟩:=hf p.1 hb
  obtain⟨o,e',d⟩:=ho p.1 hb
  rw[e]at e';cases e'
  exact⟨e,f0,f1,f2,d⟩
theorem aB.unpinned{pins pl:List (Addr×Obj)}{σ:St}{H:Hp}{s:Shared}(I:aB X (pins++ pl) σ H s):aB X pins σ H s:=I.pins_of fun p hp=>I.pin p (List.mem_append_right _ (List.mem_append_left _ hp))
theorem tU{iter:Expr}{body:List Stmt}{wi:TI}{g:TG}{tb:TS}{pos:Pos}(hp:PassesOwn (model X.prog X.w) X.A X.env X.xe)(hc:X.calm=true)(hi:PI X tg iter wi)(hg:PG X tg g)(hb:cD X body tb)
 (hs:∀x,foldedSetIterable iter X.env x=pure x:=by intro _;rfl):PS X (.For tg iter body [] pos) (tFor wi g tb):=by
 intro pins s σ H D I h
 refine wpAny_For (aN (hi pins s σ H _ I h) fun v s1 h1=>aN h1 fun itv s2 h2=> ?_) hs
 obtain⟨it,fp,tn,J,H2,e,I2,T,st2,f2,W,⟨m0,w0⟩,turn⟩:=h2
 subst e
 have stat:∀{H':Hp},(∀b∈fp,H' b=none)->∀b∈fp,fR X pins H' b:=fun hn b hb=>⟨hn b hb,(f2 b hb).2⟩
 refine codeAny_forLoop_any (fun n s'=>∃i σ' H',aB X pins σ' H' s'/\tn i s'.heap/\(∀b∈fp,H' b=none)/\W i n σ' H') ?_ m0 ⟨0,σ,H2,I2,st2,fun b hb=>(f2 b hb).1,w0⟩
 rintro n s3 ⟨i,σ3,H3,I3,st3,fr3,w3⟩
 rcases turn i n σ3 H3 w3 with⟨stop,qn⟩|⟨go,N,hN,step⟩
 ·refine wpAny_passesOwn hp (aN (T.done X rfl rfl rfl hc i pins s3 σ3 H3 X.xe I3 (stat fr3) st3 stop) fun r s4 ⟨hr,I4⟩=> ?_)
  subst hr
  exact wpAny_execs_nil ⟨σ3,H3,I4,qn⟩
 ·refine wpAny_passesOwn hp (aN (T.item X rfl rfl rfl hc i pins s3 σ3 H3 X.xe I3 (stat fr3) st3 go) fun r s4 ⟨u,hr,h4⟩=> ?_)
  subst hr
  refine wpAny_passesOwn hp (aN h4 fun _ s5 ⟨x,H5,I5,r5,y5,st5,fr5⟩=> ?_)
  have I5':=I5.pinned (stat fr5) (T.obj _ _ st5)
  refine wpAny_passesOwn hp (aN (hg _ s5 σ3 H5 x u _ I5' r5 (step x H5 y5)) fun _ s6 ⟨σ6,H6,I6,q6⟩=> ?_)
  refine wpAny_passesOwn hp (aN (hb _ s6 σ6 H6 _ I6 q6) fun f s7 q7=> ?_)
  have again:∀{σ7:St} {H7:Hp},aB X (pins++ lN fp s5.heap) σ7 H7 s7->N σ7 H7->∃m,m<n/\∃i σ' H',aB X pins σ' H' s7/\tn i s7.heap/\(∀b∈fp,H' b=none)/\W i m σ' H':=fun{σ7 H7} I7 n7=>by
   obtain⟨m',hm,w7⟩:=hN σ7 H7 n7
   refine⟨m',hm,i+ 1,σ7,H7,I7.unpinned,T.keep _ _ _ st5 fun b hb o e=>(I7.pin (b,o) (List.mem_append_right _ (List.mem_append_right _ (mH hb e)))).1,fun b hb=> ?_,w7⟩
   obtain⟨o,e,d⟩:=T.obj _ _ st5 b hb
   exact(I7.pin (b,o) (List.mem_append_right _ (List.mem_append_right _ (mH hb e)))).2.1
  cases f with
  |next=>obtain⟨σ7,H7,I7,n7⟩:=q7;exact again I7 n7
  |cont=>obtain⟨σ7,H7,I7,n7⟩:=q7;exact again I7 n7
  |brk=>obtain⟨σ7,H7,I7,q7⟩:=q7;exact⟨σ7,H7,I7.unpinned,q7⟩
  |ret v=>obtain⟨x7,σ7,H7,I7,r7,q7⟩:=q7;exact⟨x7,σ7,H7,I7.unpinned,r7,q7⟩
end
theorem sX{K:Fg}{a:Addr}{xs:List V}{g:TG}{tb:TS}{D:fL}{σ:St}{H:Hp}(Pv:Nat->St->Hp->Prop)(h0:Pv 0 σ H)(hl:∀i σ H,i<=xs.length->Pv i σ H->aS K H a xs)
 (hs:∀i x σ H,xs[i]?=some x->Pv i σ H->g x σ H fun σ2 H2=>tb {D with nx:=Pv (i+ 1),ct:=Pv (i+ 1),bk:=D.nx} σ2 H2)(hd:∀σ H,Pv xs.length σ H->D.nx σ H):
 ∃W:Nat->Nat->St->Hp->Prop,(∃m,W 0 m σ H)/\∀i m σ H,W i m σ H->
  ((kC K a).stop i H/\D.nx σ H)\/ ((kC K a).go i H/\∃N:St->Hp->Prop,(∀σ' H',N σ' H'->∃m',m'<m/\W (i+ 1) m' σ' H')/\∀x H',(kC K a).yld i H x H'->g x σ H' fun σ2 H2=>tb {D with nx:=N,ct:=N,bk:=D.nx} σ2 H2):=by
 refine⟨fun i m σ H=>m=xs.length- i/\i<=xs.length/\Pv i σ H,⟨xs.length,by simp,Nat.zero_le _,h0⟩,?_⟩
 rintro i m σ H ⟨rfl,hi,p⟩
 have q:=hl i σ H hi p
 by_cases hlt:i<xs.length
 ·refine .inr ⟨⟨xs,xs[i],q,by simp[hlt]⟩,Pv (i+ 1),fun σ' H' p'=>⟨xs.length- (i+ 1),by omega,rfl,hlt,p'⟩,fun x H' y=> ?_⟩
  obtain⟨e,y⟩:=y
  subst e
  exact hs i x σ _ (y xs q) p
 ·have e:i=xs.length:=by omega
  subst e
  exact .inl ⟨⟨xs,q,Nat.le_refl _⟩,hd σ H p⟩
abbrev R2:=V->V->Hp->VK->Prop
def dE(X:Cx)(f:Value->Value->Sem Value)(r:R2):Prop:=
 ∀(pins:List (Addr×Obj)) (s:Shared) (σ:St) (H:Hp) (x y:V) (v u:Value) (Q:VK),aB X pins σ H s->aW x v->aW y u->r x y H Q->
  wpAny (model X.prog X.w) X.A (f v u) (EP X pins σ Q) X.xe s
def UnR(X:Cx)(f:Value->Sem Value)(r:V->Hp->VK->Prop):Prop:=
 ∀(pins:List (Addr×Obj)) (s:Shared) (σ:St) (H:Hp) (x:V) (v:Value) (Q:VK),aB X pins σ H s->aW x v->r x H Q->
  wpAny (model X.prog X.w) X.A (f v) (EP X pins σ Q) X.xe s
def fO(X:Cx)(f:Value)(r:List V->Hp->VK->Prop):Prop:=
 ∀(pins:List (Addr×Obj)) (s:Shared) (σ:St) (H:Hp) (xs:List V) (us:List Value) (Q:VK),aB X pins σ H s->aV xs us->r xs H Q->
  wpAny (model X.prog X.w) X.A (call f us) (EP X pins σ Q) X.xe s
def TruR(X:Cx)(r:V->Hp->(Bool->Hp->Prop)->Prop):Prop:=
 ∀(pins:List (Addr×Obj)) (s:Shared) (σ:St) (H:Hp) (x:V) (v:Value) (Q:Bool->Hp->Prop),aB X pins σ H s->aW x v->r x H Q->
  wpAny (model X.prog X.w) X.A (truthy v) (TP X pins σ Q) X.xe s
def iQ(r:R2)(ta tb:TE):TE:=fun σ H Q=>ta σ H fun x H1=>tb σ H1 fun y H2=>r x y H2 Q
def tUn(r:V->Hp->VK->Prop)(ta:TE):TE:=fun σ H Q=>ta σ H fun x H1=>r x H1 Q
noncomputable def rI (C:Int->Int->Prop) (g:Int->Int->V):R2:=fun x y H Q=>∃i j,x= .int i/\y= .int j/\C i j/\Q (g i j) H
noncomputable def uV (g:Int->Int->V):R2:=fun x y H Q=>∃i j,x= .int i/\y= .int j/\Q (g i j) H
def rU(g:Int->V):V->Hp->VK->Prop:=fun x H Q=>∃i,x= .int i/\Q (g i) H
section
variable{X:Cx}{a b c:Expr}{ta tb tc:TE}{pos:Pos}
theorem yL(ha:PE X a ta)(hb:PE X b tb){pins:List (Addr×Obj)}{s:Shared}{σ:St}{H:Hp}{R:V->V->Hp->Prop}(I:aB X pins σ H s)
 (h:ta σ H fun x H1=>tb σ H1 fun y H2=>R x y H2){Q:Value->Shared->Prop}{f:Value->Value->Sem Value}
 (hf:∀v u s2 x y H2,aB X pins σ H2 s2->aW x v->aW y u->R x y H2->wpAny (model X.prog X.w) X.A (f v u) Q X.xe s2):
 wpAny (model X.prog X.w) X.A (eval a X.env) (fun v s₁=>wpAny (model X.prog X.w) X.A (eval b X.env) (fun u s₂=>wpAny (model X.prog X.w) X.A (f v u) Q X.xe s₂) X.xe s₁) X.xe s:=by
 refine aN (ha pins s σ H _ I h) fun v s1 ⟨x,H1,I1,r1,q1⟩=> ?_
 refine aN (hb pins s1 σ H1 _ I1 q1) fun u s2 ⟨y,H2,I2,r2,q2⟩=> ?_
 exact hf v u s2 x y H2 I2 r1 r2 q2
theorem bU{op:Operator}{r:R2}(ho:dE X (binaryOp op) r)(ha:PE X a ta)(hb:PE X b tb):PE X (.BinOp a op b pos) (iQ r ta tb):=by
 intro pins s σ H Q I h
 exact wpAny_BinOp (yL ha hb I h fun v u s2 x y H2 I2 rx ry q=>ho pins s2 σ H2 x y v u Q I2 rx ry q)
theorem a9P{op:UnaryOp}{r:V->Hp->VK->Prop}(ho:UnR X (unaryOp op) r)(ha:PE X a ta):PE X (.UnaryOp op a pos) (tUn r ta):=by
 intro pins s σ H Q I h
 exact UnaryOp_ (aN (ha pins s σ H _ I h) fun v s1 ⟨x,H1,I1,r1,q1⟩=>ho pins s1 σ H1 x v Q I1 r1 q1)
theorem opI{f:Value->Value->Sem Value}{C:Int->Int->Prop}{g:Int->Int->Int}
 (rule:∀(i j:Int) (t u:Tok) (s:Shared) (Q:Value->Shared->Prop) (E:Value->Shared->Prop),C i j->Q (.int (g i j) s.toks) {s with toks:=s.toks+ 1} ->wpAny (model X.prog X.w) X.A (f (.int i t) (.int j u)) Q E s):
 dE X f (rI C fun i j=> .int (g i j)):=by
 intro pins s σ H x y v u Q I rx ry h
 obtain⟨i,j,rfl,rfl,hc,q⟩:=h
 obtain⟨t,rfl⟩:=rx
 obtain⟨t',rfl⟩:=ry
 exact rule i j t t' s _ _ hc ⟨.int (g i j),H,I.tok _,⟨_,rfl⟩,q⟩
theorem opB0{f:Value->Value->Sem Value}{g:Int->Int->Bool}
 (rule:∀(i j:Int) (t u:Tok) (s:Shared) (Q:Value->Shared->Prop) (E:Value->Shared->Prop),Q (.bool (g i j)) s->wpAny (model X.prog X.w) X.A (f (.int i t) (.int j u)) Q E s):
 dE X f (uV fun i j=> .bl (g i j)):=by
 intro pins s σ H x y v u Q I rx ry h
 obtain⟨i,j,rfl,rfl,q⟩:=h
 obtain⟨t,rfl⟩:=rx
 obtain⟨t',rfl⟩:=ry
 exact rule i j t t' s _ _ ⟨.bl (g i j),H,I,rfl,q⟩
def CDiv(i j:Int):Prop:=0<j/\j<1073741824
def CPow(i j:Int):Prop:=0<=j/\j<=1000000/\i.natAbs<2^ 64
theorem kL:dE X (binaryOp .FloorDiv) (rI CDiv fun i j=> .int (i/ j)):=opI fun i j _ _ _ _ _ hc q=>by
 have h1:(0:Int)<j:=hc.1
 have h2:j<1073741824:=hc.2
 exact floordiv_int (by omega) (by rw[Int.fdiv_eq_ediv_of_nonneg i (by omega)];exact q) (.inl (PyProof.noPylong_small (by omega)))
theorem iW:dE X (binaryOp .Mod) (rI (fun _ j=>0<j) fun i j=> .int (i% j)):=opI fun i j _ _ _ _ _ hc q=>by
 have h1:(0:Int)<j:=hc
 exact mod_int' (by omega) (by rw[Int.fmod_eq_emod_of_nonneg i (by omega)];exact q)
theorem b3t:dE X (binaryOp .Pow) (rI CPow fun i j=> .int (i^ j.toNat)):=opI fun _ _ _ _ _ _ _ hc q=>pow_int_small hc.1 hc.2.1 hc.2.2 q
theorem unI{f:Value->Sem Value}{g:Int->Int}
 (rule:∀(i:Int) (t:Tok) (s:Shared) (Q:Value->Shared->Prop) (E:Value->Shared->Prop),Q (.int (g i) s.toks) {s with toks:=s.toks+ 1} ->wpAny (model X.prog X.w) X.A (f (.int i t)) Q E s):
 UnR X f (rU fun i=> .int (g i)):=by
 intro pins s σ H x v Q I rx h
 obtain⟨i,rfl,q⟩:=h
 obtain⟨t,rfl⟩:=rx
 exact rule i t s _ _ ⟨.int (g i),H,I.tok _,⟨_,rfl⟩,q⟩
theorem b0D:UnR X (unaryOp .USub) (rU fun i=> .int (-i)):=unI fun _ _ _ _ _ q=>neg_int q
end
noncomputable def scal:V->V->Bool
 | .non,.non=>true| .non,.int _=>true| .int _,.non=>true| .non,.bl _=>true| .bl _,.non=>true| .non,.str _=>true| .str _,.non=>true
 | .int _,.int _=>true| .bl _,.bl _=>true| .str _,.str _=>true| .byt _,.byt _=>true
 | .int _,.str _=>true| .str _,.int _=>true| .bl _,.str _=>true| .str _,.bl _=>true
 |_,_=>false
noncomputable def rEq:R2:=fun x y H Q=>scal x y=true/\Q (.bl (decide (x=y))) H
noncomputable def rNe:R2:=fun x y H Q=>scal x y=true/\Q (.bl (!decide (x=y))) H
theorem b0H{i j:Int}:decide (V.int i=V.int j)=(i==j):=by
 rw[Bool.eq_iff_iff]
 simp
theorem a9I{i j:Bool}:decide (V.bl i=V.bl j)=(i==j):=by
 rw[Bool.eq_iff_iff]
 simp
theorem a9T{i j:Str}:decide (V.str i=V.str j)=(i==j):=by
 rw[Bool.eq_iff_iff]
 simp
theorem b0J{i j:Array UInt8}:decide (V.byt i=V.byt j)=(i.toList==j.toList):=by
 rw[Bool.eq_iff_iff]
 cases i
 cases j
 simp
section
variable{X:Cx}{a b c:Expr}{ta tb tc:TE}{pos:Pos}
theorem bW{pins:List (Addr×Obj)}{σ:St}{H:Hp}{s:Shared}{Q:VK}{k k':Bool}(I:aB X pins σ H s)(q:Q (.bl k) H)(e:k=k'):EP X pins σ Q (.bool k') s:=by
 subst e
 exact⟨.bl k,H,I,rfl,q⟩
theorem fZ:dE X (compareOp .Eq) rEq:=by
 intro pins s σ H x y v u Q I rx ry h
 obtain⟨hs,q⟩:=h
 cases x with
 |non=>
  cases rx
  cases y with
  |non=>cases ry;exact PySem.EqNone.eq_none_none (bW I q (by simp))
  |bl j=>cases ry;exact PySem.EqNone.eq_none_bool (bW I q (by simp))
  |int j=>obtain⟨t',rfl⟩:=ry;exact PySem.EqNone.eq_none_int (bW I q (by simp))
  |str j=>obtain⟨t',rfl⟩:=ry;exact PySem.EqNone.eq_none_str (bW I q (by simp))
  |_=>exact absurd (show false=true from hs) Bool.false_ne_true
 |bl i=>
  cases rx
  cases y with
  |non=>cases ry;exact PySem.EqNone.eq_bool_none (bW I q (by simp))
  |bl j=>cases ry;exact eq_bool (bW I q a9I)
  |str j=>obtain⟨t',rfl⟩:=ry;exact PySem.EqMixed.eq_bool_str (bW I q (by simp))
  |_=>exact absurd (show false=true from hs) Bool.false_ne_true
 |int i=>
  obtain⟨t,rfl⟩:=rx
  cases y with
  |non=>cases ry;exact PySem.EqNone.eq_int_none (bW I q (by simp))
  |int j=>obtain⟨t',rfl⟩:=ry;exact eq_int (bW I q b0H)
  |str j=>obtain⟨t',rfl⟩:=ry;exact PySem.EqMixed.eq_int_str (bW I q (by simp))
  |_=>exact absurd (show false=true from hs) Bool.false_ne_true
 |str i=>
  obtain⟨t,rfl⟩:=rx
  cases y with
  |non=>cases ry;exact PySem.EqNone.eq_str_none (bW I q (by simp))
  |bl j=>cases ry;exact PySem.EqMixed.eq_str_bool (bW I q (by simp))
  |int j=>obtain⟨t',rfl⟩:=ry;exact PySem.EqMixed.eq_str_int (bW I q (by simp))
  |str j=>obtain⟨t',rfl⟩:=ry;exact eq_str (bW I q a9T)
  |_=>exact absurd (show false=true from hs) Bool.false_ne_true
 |byt i=>
  obtain⟨t,rfl⟩:=rx
  cases y with
  |byt j=>obtain⟨t',rfl⟩:=ry;exact PySem.W.eq_bytes (bW I q b0J)
  |_=>exact absurd (show false=true from hs) Bool.false_ne_true
 |_=>cases y<;>exact absurd (show false=true from hs) Bool.false_ne_true
theorem sO:dE X (compareOp .NotEq) rNe:=by
 intro pins s σ H x y v u Q I rx ry h
 obtain⟨hs,q⟩:=h
 cases x with
 |non=>
  cases rx
  cases y with
  |non=>cases ry;exact PySem.EqNone.ne_none_none (bW I q (by simp))
  |bl j=>cases ry;exact PySem.EqNone.ne_none_bool (bW I q (by simp))
  |int j=>obtain⟨t',rfl⟩:=ry;exact PySem.EqNone.ne_none_int (bW I q (by simp))
  |str j=>obtain⟨t',rfl⟩:=ry;exact PySem.EqNone.ne_none_str (bW I q (by simp))
  |_=>exact absurd (show false=true from hs) Bool.false_ne_true
 |bl i=>
  cases rx
  cases y with
  |non=>cases ry;exact PySem.EqNone.ne_bool_none (bW I q (by simp))
  |bl j=>cases ry;exact ne_bool (bW I q (congrArg not a9I))
  |str j=>obtain⟨t',rfl⟩:=ry;exact PySem.EqMixed.ne_bool_str (bW I q (by simp))
  |_=>exact absurd (show false=true from hs) Bool.false_ne_true
 |int i=>
  obtain⟨t,rfl⟩:=rx
  cases y with
  |non=>cases ry;exact PySem.EqNone.ne_int_none (bW I q (by simp))
  |int j=>obtain⟨t',rfl⟩:=ry;exact ne_int (bW I q (congrArg not b0H))
  |str j=>obtain⟨t',rfl⟩:=ry;exact PySem.EqMixed.ne_int_str (bW I q (by simp))
  |_=>exact absurd (show false=true from hs) Bool.false_ne_true
 |str i=>
  obtain⟨t,rfl⟩:=rx
  cases y with
  |non=>cases ry;exact PySem.EqNone.ne_str_none (bW I q (by simp))
  |bl j=>cases ry;exact PySem.EqMixed.ne_str_bool (bW I q (by simp))
  |int j=>obtain⟨t',rfl⟩:=ry;exact PySem.EqMixed.ne_str_int (bW I q (by simp))
  |str j=>obtain⟨t',rfl⟩:=ry;exact ne_str (bW I q (congrArg not a9T))
  |_=>exact absurd (show false=true from hs) Bool.false_ne_true
 |byt i=>
  obtain⟨t,rfl⟩:=rx
  cases y with
  |byt j=>obtain⟨t',rfl⟩:=ry;exact PySem.W.ne_bytes (bW I q (congrArg not b0J))
  |_=>exact absurd (show false=true from hs) Bool.false_ne_true
 |_=>cases y<;>exact absurd (show false=true from hs) Bool.false_ne_true
theorem uB:dE X (compareOp .Lt) (uV fun i j=> .bl (decide (i<j))):=opB0 fun _ _ _ _ _ _ _ q=>lt_int q
theorem oS:dE X (compareOp .LtE) (uV fun i j=> .bl (decide (i<=j))):=opB0 fun _ _ _ _ _ _ _ q=>le_int q
theorem a67:dE X (compareOp .GtE) (uV fun i j=> .bl (decide (j<=i))):=opB0 fun _ _ _ _ _ _ _ q=>ge_int q
theorem b2o:dE X (compareOp .In) (fun x y H Q=>∃i j,x= .str i/\y= .str j/\Q (.bl (!(Builtin.Str.occurrences j i 0 j.length 1).isEmpty)) H):=by
 intro pins s σ H x y v u Q I rx ry h
 obtain⟨i,j,rfl,rfl,q⟩:=h
 obtain⟨t,rfl⟩:=rx
 obtain⟨t',rfl⟩:=ry
 exact in_str (bW I q rfl)
theorem b0o:dE X (compareOp .Is) (fun x y H Q=>y= .non/\Q (.bl (decide (x= .non))) H):=by
 intro pins s σ H x y v u Q I rx ry h
 obtain⟨rfl,q⟩:=h
 cases ry
 refine is_none_gen (bW I q ?_)
 cases x<;>first
  |(cases rx;rfl)
  |(obtain⟨t,rfl⟩:=rx;rfl)
theorem b4U:dE X (compareOp .IsNot) (fun x y H Q=>y= .non/\Q (.bl (!decide (x= .non))) H):=by
 intro pins s σ H x y v u Q I rx ry h
 obtain⟨rfl,q⟩:=h
 cases ry
 refine isnot_none_gen (bW I q ?_)
 cases x<;>first
  |(cases rx;rfl)
  |(obtain⟨t,rfl⟩:=rx;rfl)
theorem cI(b:Expr){op:CmpOp}(h:op≠ .In:=by decide)(h2:op≠ .NotIn:=by decide):behindInMarks op b=false:=by
 have e1:(op==CmpOp.In)=false:=by cases op<;>first|rfl|exact absurd rfl h
 have e2:(op==CmpOp.NotIn)=false:=by cases op<;>first|rfl|exact absurd rfl h2
 cases b<;>simp[behindInMarks,e1,e2]
theorem sN{op:CmpOp}{r:R2}(ho:dE X (compareOp op) r)(ha:PE X a ta)(hb:PE X b tb)(hm:behindInMarks op b=false):PE X (.Compare a [op] [b] pos) (iQ r ta tb):=by
 intro pins s σ H Q I h
 exact wpAny_Compare1 (yL ha hb I h fun v u s2 x y H2 I2 rx ry q=>ho pins s2 σ H2 x y v u Q I2 rx ry q) hm
def tM(t:TE):TT:=fun σ H Q=>t σ H fun x H'=>∃k,x= .bl k/\Q k H'
theorem bP{op:CmpOp}{r:R2}(ho:dE X (compareOp op) r)(ha:PE X a ta)(hb:PE X b tb)(hm:behindInMarks op b=false):PT X (.Compare a [op] [b] pos) (tM (iQ r ta tb)):=by
 intro pins s σ H Q I h
 refine wpAny_isTrue_Compare1 (aN (ha pins s σ H _ I h) fun v s1 ⟨x,H1,I1,r1,q1⟩=>aN (hb pins s1 σ H1 _ I1 q1) fun u s2 ⟨y,H2,I2,r2,q2⟩=>
  aN (ho pins s2 σ H2 x y v u _ I2 r1 r2 q2) fun c s3 ⟨z,H3,I3,r3,k,e,q3⟩=> ?_) hm
 subst e
 cases r3
 exact wpAny_truthy_bool ⟨H3,I3,q3⟩
def b4z(r r':R2)(ta tb tc:TE):TE:=fun σ H Q=>ta σ H fun x H1=>tb σ H1 fun y H2=>r x y H2 fun z H3=>∃k,z= .bl k/\
 (if k=true then tc σ H3 fun w' H4=>r' y w' H4 Q else Q (.bl false) H3)
theorem a2H{op op':CmpOp}{r r':R2}(ho:dE X (compareOp op) r)(ho':dE X (compareOp op') r')(ha:PE X a ta)(hb:PE X b tb)(hc:PE X c tc)
 (hm:lastMarks [op,op'] [b,c]=false:=by with_unfolding_all rfl):PT X (.Compare a [op,op'] [b,c] pos) (tM (b4z r r' ta tb tc)):=by
 intro pins s σ H Q I h
 refine isTrue_chain (aN (ha pins s σ H _ I h) fun v s1 ⟨x,H1,I1,r1,q1⟩=>test_link (aN (hb pins s1 σ H1 _ I1 q1) fun u s2 ⟨y,H2,I2,r2,q2⟩=>
  aN (ho pins s2 σ H2 x y v u _ I2 r1 r2 q2) fun d s3 ⟨z,H3,I3,r3,k,e,q3⟩=> ?_)) hm
 subst e
 cases r3
 refine wpAny_truthy_bool ?_
 cases k with
 |false=>
  obtain⟨k',e',q'⟩:=q3
  cases e'
  exact ite_ff ⟨H3,I3,q'⟩
 |true=>
  refine ite_tt (test_last (aN (hc pins s3 σ H3 _ I3 q3) fun w' s4 ⟨z',H4,I4,r4,q4⟩=>aN (ho' pins s4 σ H4 y z' u w' _ I4 r2 r4 q4) fun d' s5 ⟨z2,H5,I5,r5,k2,e2,q5⟩=> ?_))
  subst e2
  cases r5
  exact wpAny_truthy_bool ⟨H5,I5,q5⟩
def TruV(K:Fg)(x:V)(H:Hp)(k:Bool):Prop:=
 match x with
 | .non=>k=false
 | .bl b=>k=b
 | .int i=>k=(i !=0)
 | .str y=>y.length<=sizeLine/\k=((y.length:Int) !=0)
 | .byt y=>y.size<=sizeLine/\k=((y.size:Int) !=0)
 | .ref p=>(∃xs,aS K H p xs/\k= !xs.isEmpty)\/ (∃xs,eB K H p xs/\k= !xs.isEmpty)\/ ∃kvs,H p=some (.dK kvs)/\k= !kvs.isEmpty
 |_=>False
theorem b31{κ:Type}{kvs:List (κ×V)}{vs:List (κ×Value)}(r:KV kvs vs):(!vs.isEmpty)= !kvs.isEmpty:=by
 cases r<;>rfl
theorem b1c{xs:List V}{its:List Value}(r:aV xs its):(!its.toArray.isEmpty)= !xs.isEmpty:=by
 cases r<;>simp
theorem tN:(sizeLine:Nat)<2^ 63:=by rw[sizeLine_eq];decide
theorem tru_ok:TruR X (fun x H Q=>∃k,TruV X.K x H k/\Q k H):=by
 intro pins s σ H x v Q I rx h
 obtain⟨k,e,q⟩:=h
 have hl:=tN
 have hs:sizeLine=16777216:=sizeLine_eq
 cases x with
 |non=>
  cases rx
  have e':k=false:=e
  subst e'
  exact truthy_none ⟨H,I,q⟩
 |bl b=>
  cases rx
  have e':k=b:=e
  subst e'
  exact wpAny_truthy_bool ⟨H,I,q⟩
 |int i=>
  obtain⟨t,rfl⟩:=rx
  have e':k=(i !=0):=e
  subst e'
  exact PySem.P.truthy_int ⟨H,I,q⟩
 |str y=>
  obtain⟨t,rfl⟩:=rx
  obtain⟨hy,e'⟩:y.length<=sizeLine/\k=((y.length:Int) !=0):=e
  subst e'
  exact PySem.P.truthy_str (by omega) ⟨H,I.tok _,q⟩
 |byt y=>
  obtain⟨t,rfl⟩:=rx
  obtain⟨hy,e'⟩:y.size<=sizeLine/\k=((y.size:Int) !=0):=e
  subst e'
  exact PySem.W.truthy_bytes (by omega) ⟨H,I.tok _,q⟩
 |ref p=>
  cases rx
  have e':(∃xs,aS X.K H p xs/\k= !xs.isEmpty)\/ (∃xs,eB X.K H p xs/\k= !xs.isEmpty)\/ ∃kvs,H p=some (.dK kvs)/\k= !kvs.isEmpty:=e
  rcases e' with⟨xs,hx,e'⟩|⟨xs,hx,e'⟩|⟨kvs,hx,e'⟩
  ·subst e'
   obtain⟨its,r,pl,hz⟩:=I.list hx
   have hlen:=r.length
   exact wpAny_truthy_list pl.isList (by simp only[List.size_toArray];omega) ⟨H,I.tok _,by rw[b1c r];exact q⟩
  ·subst e'
   obtain⟨its,r,pl,hz⟩:=I.tuple hx
   have hlen:=r.length
   exact truthy_tuple pl (by simp only[List.size_toArray];omega) ⟨H,I.tok _,by rw[b1c r];exact q⟩
  ·subst e'
   obtain⟨hz,hS,vs,r,m⟩:kvs.length<=sizeLine/\(p==sysModules)=false/\∃vs,KV kvs vs/\s.heap.DictOf (fG X.prog X.w) p vs:=I.hok p _ hx
   have hlen:kvs.length=vs.length:=Paired.length r
   exact wpAny_truthy_dict hS m (by omega) ⟨H,I.tok _,by rw[b31 r];exact q⟩
 |_=>exact(show False from e).elim
theorem mK:dE X (binaryOp .Add) (fun x y H Q=>∃i j,x= .str i/\y= .str j/\i.length+ j.length<=sizeLine/\Q (.str (i++ j)) H):=by
 intro pins s σ H x y v u Q I rx ry h
 obtain⟨i,j,rfl,rfl,hz,q⟩:=h
 obtain⟨t,rfl⟩:=rx
 obtain⟨t',rfl⟩:=ry
 exact add_str (fun t' tk=>⟨.str (i++ j),H,I.tok _,⟨_,rfl⟩,q⟩) hz
theorem kD{x:V}{us:List Value}(r:aV [x] us):∃u,us= [u] /\aW x u:=by
 cases r with
 |cons r1 r2=>cases r2;exact⟨_,rfl,r1⟩
theorem b5X:fO X (.builtin "abs") (fun xs H Q=>∃i,xs= [.int i] /\Q (.int (if i<0 then-i else i)) H):=by
 intro pins s σ H xs us Q I r h
 obtain⟨i,rfl,q⟩:=h
 obtain⟨u,rfl,t,rfl⟩:=kD r
 exact call_abs_int fun u tk=>⟨.int (if i<0 then-i else i),H,I.tok _,⟨_,rfl⟩,q⟩
def LenV(K:Fg)(x:V)(H:Hp)(n:Nat):Prop:=
 match x with
 | .str y=>y.length<=sizeLine/\n=y.length
 | .byt y=>y.size<=sizeLine/\n=y.size
 | .ref p=>(∃xs,aS K H p xs/\n=xs.length)\/ ∃xs,eB K H p xs/\n=xs.length
 |_=>False
theorem lL:fO X (.builtin "len") (fun xs H Q=>∃x n,xs= [x] /\LenV X.K x H n/\Q (.int n) H):=by
 intro pins s σ H xs us Q I r h
 obtain⟨x,n,rfl,e,q⟩:=h
 obtain⟨u,rfl,rx⟩:=kD r
 have hl:=tN
 have hs:sizeLine=16777216:=sizeLine_eq
 cases x with
 |str y=>
  obtain⟨t,rfl⟩:=rx
  obtain⟨hy,e'⟩:y.length<=sizeLine/\n=y.length:=e
  subst e'
  exact len_str (by omega) ⟨.int _,H,I.tok _,⟨_,rfl⟩,q⟩
 |byt y=>
  obtain⟨t,rfl⟩:=rx
  obtain⟨hy,e'⟩:y.size<=sizeLine/\n=y.size:=e
  subst e'
  exact PySem.W.len_bytes (by omega) ⟨.int _,H,I.tok _,⟨_,rfl⟩,q⟩
 |ref p=>
  cases rx
  have e':(∃xs,aS X.K H p xs/\n=xs.length)\/ ∃xs,eB X.K H p xs/\n=xs.length:=e
  rcases e' with⟨xs,hx,e'⟩|⟨xs,hx,e'⟩
  ·subst e'
   obtain⟨its,r',pl,hz⟩:=I.list hx
   have hlen:=r'.length
   exact Calls.call_len_list pl.isList (by simp only[List.size_toArray];omega) ⟨.int xs.length,H,I.tok _,⟨_,by simp only[List.size_toArray];rw[hlen]⟩,q⟩
  ·subst e'
   obtain⟨its,r',pl,hz⟩:=I.tuple hx
   have hlen:=r'.length
   exact len_tuple pl (by simp only[List.size_toArray];omega) ⟨.int xs.length,H,I.tok _,⟨_,by simp only[List.size_toArray];rw[hlen]⟩,q⟩
 |_=>exact(show False from e).elim
end
structure kX(h:Heap)(x dx C:Addr)(mA:Str->Option Value):Prop where
 obj:h.get? x=some (PySem.W.instObj C dx)
 ns:h.Ns1 dx mA
 ne:dx≠x
theorem b3k{h:Heap}{dx:Addr}{mA:Str->Option Value}(n:h.Ns1 dx mA):∃od,h.get? dx=some od/\∀name,PySem.W.lookIn name od=some (mA name):=by
 obtain⟨o,es,ep,ho,hd,hk,_,hm⟩:=n
 refine⟨o,ho,fun name=> ?_⟩
 have e:=hm name
 unfold nsFind findBy at e
 rw[<- Array.find?_toList]at e
 unfold PySem.W.lookIn
 rw[hd]
 dsimp only
 split
 ·rename_i y q
  rw[q]at e
  exact congrArg some e
 ·rename_i q
  rw[q]at e
  have a:es.toList.any (·.refKey)=false:=by
   rw[List.any_eq_false]
   intro y hy
   obtain⟨z,t,hkey⟩:=hk y (Array.mem_toList_iff.mp hy)
   simp[DictEntry.refKey,hkey]
  have a':¬es.toList.any (·.refKey)=true:=by rw[a];exact Bool.false_ne_true
  rw[if_neg a']
  exact congrArg some e
theorem kX.look{h:Heap}{x dx C:Addr}{mA:Str->Option Value}(I:kX h x dx C mA):∃od,PySem.W.InstAt h x (PySem.W.instObj C dx) C (some od)/\∀name,PySem.W.lookIn name od=some (mA name):=
 let ⟨od,ho,hl⟩:=b3k I.ns
 ⟨od,⟨I.obj,rfl,rfl,ho⟩,hl⟩
section
variable{prog:Program}{w:World}{A:Around}{E:Value->Shared->Prop}{s:Shared}{K:Fg}{x dx C f:Addr}{mA:Str->Option Value}{name:Str}{v:Value}
theorem b1Q{expr:Bool}{Q:Value->Shared->Prop}(X:K.In s.heap)(I:kX s.heap x dx C mA)(hg:PySem.W.plainGet K C name=true)(hh:PySem.W.hasDictIn K C=true)
 (ha:PySem.W.findIn K (.ref C) name=some none)(hv:mA name=some v)(hv':PySem.W.handedIn v=true)(h:Q v {s with toks:=s.toks+ 1}):
 wpAny (model prog w) A (getAttr (.ref x) name expr) Q E s:=by
 obtain⟨od,J,hl⟩:=I.look
 exact PySem.W.get_value X J (PySem.W.plainGet_of hg).1 (PySem.W.findObj_own hh ha rfl (by rw[hl,hv])) hv' h
theorem b3H{pl:Sem Bool}{Q:Value×List Value->Shared->Prop}(X:K.In s.heap)(I:kX s.heap x dx C mA)(hg:PySem.W.plainGet K C name=true)
 (hf:PySem.W.findIn K (.ref C) name=some (some (.ref f)))(ht:PySem.W.isFn K (.ref f)=true)(hv:mA name=none)(h:Q (.ref f,[.ref x]) s):
 wpAny (model prog w) A (getMethod (.ref x) name pl) Q E s:=by
 obtain⟨od,J,hl⟩:=I.look
 exact PySem.W.method_fn X J (PySem.W.plainGet_of hg).1 (PySem.W.plainGet_of hg).2 hf (beq_iff_eq.mp ht) (by show(PySem.W.lookIn name od).map (·.isSome)=some false;rw[hl,hv];rfl) h
theorem b1E{ns:List Str}{Q:Unit->Shared->Prop}(X:K.In s.heap)(I:kX s.heap x dx C mA)
 (hs:PySem.W.findIn K (.ref C) "__setattr__"=some (some (.builtin "object.__setattr__")))(hp:PySem.W.plainOver K C=true)(ht:PySem.W.takerIn K C name=some none)(hh:PySem.W.hasDictIn K C=true)
 (hw:PySem.Within mA ns)(hsz:ns.length<=sizeLine)
 (h:∀h',kX h' x dx C (fun y=>if y=name then some v else mA y)->Heap.SameBut dx s.heap h'->Q () {s with heap:=h',toks:=s.toks+ 2}):
 wpAny (model prog w) A (setAttr (.ref x) name v) Q E s:=by
 obtain⟨od,J,hl⟩:=I.look
 refine PySem.W.set_plain X J hs (PySem.W.osa_open (s:={s with toks:=s.toks+ 1}) (r:=none) X J hp ht fun b=> ?_)
 obtain⟨cd,hc,hd'⟩:=PySem.W.any_some hh
 have hx:s.heap.get? x=some ⟨.ref C,some dx,.plain,#[]⟩:=I.obj
 refine wpAny_bind (wpAny_pure (wpAny_bind (wpAny_bind (wpAny_loadPart hx (wpAny_bind (PySem.W.Looks.here (s:={s with toks:=s.toks+ 1}) (PySem.W.looks_clsIn X hc) ?_))))))
 rw[hd']
 refine wpAny_pure (a:=some dx) (wpAny_bind (wpAny_pure (wpAny_bind ?_)))
 refine wpAny_nsSet1 (s:={s with toks:=s.toks+ 1}) I.ns fun h' hn2 hs2=> ?_
 obtain⟨oD,esD,epD,hoD,hdD,hcD⟩:=hn2.count (PySem.Within.cons name v hw)
 refine wpAny_bind (wpAny_lookBehind hoD (by rw[hdD];exact pastItsLine_dict (Nat.le_trans hcD (by rw[List.length_cons];omega))) ?_)
 exact wpAny_pure (h _ ⟨(hs2.2 _ (Ne.symm I.ne)).trans I.obj,hn2,I.ne⟩ hs2)
theorem b5p{R:Result->Shared->Prop}{vs:List Value}{kw:List (Str×Value)}(X:K.In s.heap)(hm:PySem.W.makesIn K C=true)
 (hi:PySem.W.findIn K (.ref C) "__init__"=some (some (.ref f)))(hf:PySem.W.typeIn K (.ref f)=some (.type "function"))
 (h:codeAny (model prog w) (A.under (.builtin "type.__call__" ⟨.ref C::vs,kw⟩)) (.call (.ref f) ⟨.ref (s.heap.objs.size+ 1)::vs,kw⟩) (PySem.W.InitBack (s.heap.objs.size+ 1) R)
  {s with heap:=(s.heap.push PySem.W.emptyDict).push (PySem.W.instObj C s.heap.objs.size)}):
 codeAny (model prog w) A (.call (.ref C) ⟨vs,kw⟩) R s:=by
 obtain⟨hh,g,d,t,os⟩:=s
 exact PySem.W.make_core (PySem.W.makes_of X hm) (PySem.W.looks_findIn X hi) (fun self=>PySem.W.bind_fn X self hf) (.inl rfl) h
end
noncomputable def aF (f:Str) (v:V):List (Str×V)->List (Str×V)
 | []=> [(f,v)]
 |(g,x)::r=>if g=f then(g,v)::r else(g,x)::aF f v r
theorem a9q(f g:Str)(v:V):∀fs:List (Str×V),(aF f v fs).lookup g=if g=f then some v else fs.lookup g
 | []=>by
  show List.lookup g [(f,v)]=_
  by_cases h:g=f
  ·have hb:(g==f)=true:=beq_iff_eq.mpr h
   simp only[List.lookup,hb,if_pos h]
  ·have hb:(g==f)=false:=beq_eq_false_iff_ne.mpr h
   simp only[List.lookup,hb,if_neg h]
 |(k,x)::r=>by
  have ih:=a9q f g v r
  rw[show aF f v ((k,x)::r)=(if k=f then(k,v)::r else(k,x)::aF f v r) from rfl]
  by_cases hk:k=f
  ·rw[if_pos hk]
   by_cases h:g=k
   ·have hb:(g==k)=true:=beq_iff_eq.mpr h
    simp only[List.lookup,hb,if_pos (h.trans hk)]
   ·have hb:(g==k)=false:=beq_eq_false_iff_ne.mpr h
    simp only[List.lookup,hb,if_neg (fun e:g=f=>h (e.trans hk.symm))]
  ·rw[if_neg hk]
   by_cases h:g=k
   ·have hb:(g==k)=true:=beq_iff_eq.mpr h
    simp only[List.lookup,hb,if_neg (fun e:g=f=>hk (h.symm.trans e))]
   ·have hb:(g==k)=false:=beq_eq_false_iff_ne.mpr h
    simp only[List.lookup,hb]
    exact ih
theorem a0p(f:Str)(v:V):∀fs:List (Str×V),f∈(aF f v fs).map (·.1)/\∀g,g∈fs.map (·.1)->g∈(aF f v fs).map (·.1)
 | []=>⟨by simp[aF],fun g h=>by simp at h⟩
 |(k,x)::r=>by
  obtain⟨i1,i2⟩:=a0p f v r
  rw[show aF f v ((k,x)::r)=(if k=f then(k,v)::r else(k,x)::aF f v r) from rfl]
  by_cases hk:k=f
  ·rw[if_pos hk]
   subst hk
   exact⟨by simp,fun g h=>by simpa using h⟩
  ·rw[if_neg hk]
   refine⟨?_,fun g h=> ?_⟩
   ·rw[List.map_cons]
    exact List.mem_cons_of_mem _ i1
   ·rw[List.map_cons]at h|-
    rcases List.mem_cons.mp h with e|e
    ·exact List.mem_cons.mpr (.inl e)
    ·exact List.mem_cons_of_mem _ (i2 g e)
theorem b1d(f:Str)(v:V):∀fs:List (Str×V),(aF f v fs).length<=fs.length+ 1
 | []=>by simp[aF]
 |(k,x)::r=>by
  have ih:=b1d f v r
  rw[show aF f v ((k,x)::r)=(if k=f then(k,v)::r else(k,x)::aF f v r) from rfl]
  by_cases hk:k=f
  ·rw[if_pos hk,List.length_cons,List.length_cons];omega
  ·rw[if_neg hk,List.length_cons,List.length_cons];omega
theorem fF.some_of{v:V}{o:Option Value}(r:fF (some v) o):∃u,o=some u/\aW v u:=by
 cases o with
 |none=>exact(show False from r).elim
 |some u=>exact⟨u,rfl,r⟩
theorem fF.none_of{o:Option Value}(r:fF none o):o=none:=by
 cases o with
 |none=>rfl
 |some u=>exact(show False from r).elim
theorem b34{v:V}{u:Value}(r:aW v u):PySem.W.handedIn u=true:=by
 cases v with
 |non=>cases (show u=Value.none from r);rfl
 |bl b=>cases (show u=Value.bool b from r);rfl
 |int i=>obtain⟨t,e⟩:=(show∃t,u=Value.int i t from r);cases e;rfl
 |str x=>obtain⟨t,e⟩:=(show∃t,u=Value.str x t from r);cases e;rfl
 |byt b=>obtain⟨t,e⟩:=(show∃t,u=Value.bytes b t from r);cases e;rfl
 |flt b=>obtain⟨t,e⟩:=(show∃t,u=Value.float b t from r);cases e;rfl
 |ref a=>cases (show u=Value.ref a from r);rfl
 |ty n=>cases (show u=Value.type n from r);rfl
section
variable{P:Program}{w:World}{H H':Hp}{h h':Heap}{a C dx:Addr}{fs fs':List (Str×V)}
theorem sJ(hok:bY P w H h)(e:H a=some (.ins C dx fs)):∃mA,kX h a dx C mA/\(∀f,fF (fs.lookup f) (mA f))/\PySem.Within mA (fs.map (·.1))/\fs.length<=1000/\H dx=some (.own a):=by
 obtain⟨d,z,ne,ob,mA,n,r,q⟩:=(show cF P w H h a (.ins C dx fs) from hok a _ e)
 exact⟨mA,⟨ob,n,ne⟩,r,q,z,d⟩
end
structure bV(K:Fg)(C:Addr):Prop where
 pg:PySem.W.plainGet K C Str.empty=true
 hd:PySem.W.hasDictIn K C=true
 po:PySem.W.plainOver K C=true
 sa:PySem.W.findIn K (.ref C) "__setattr__"=some (some (.builtin "object.__setattr__"))
theorem bV.get{K:Fg}{C:Addr}(c:bV K C)(f:Str):PySem.W.plainGet K C f=true:=c.pg
def bI(K:Fg)(C:Addr)(f:Str):Prop:=PySem.W.findIn K (.ref C) f=some none
theorem bI.taker{K:Fg}{C:Addr}{f:Str}(n:bI K C f):PySem.W.takerIn K C f=some none:=by
 unfold PySem.W.takerIn
 rw[show PySem.W.findIn K (.ref C) f=some none from n]
 rfl
structure Con(K:Fg)(C:Addr)(f:Str)(v:V)(u:Value):Prop where
 at_:PySem.W.findIn K (.ref C) f=some (some u)
 rel:aW v u
 get:PySem.W.specialIn K u "__get__"=some none
 cp:PySem.W.copiedNames.contains f=false
structure oH(K:Fg)(C:Addr)(m:Str)(f:Addr):Prop where
 at_:PySem.W.findIn K (.ref C) m=some (some (.ref f))
 fn:PySem.W.isFn K (.ref f)=true
 kp:PySem.W.keepIn K (.ref f)=true
section
variable{X:Cx}{pins:List (Addr×Obj)}{σ:St}{H:Hp}{s:Shared}{a C dx:Addr}{fs:List (Str×V)}{f:Str}{v:V}{A:Around}{E:Value->Shared->Prop}
theorem b1Z{b:Bool}{Q:Value->Shared->Prop}(I:aB X pins σ H s)(e:H a=some (.ins C dx fs))(c:bV X.K C)(n:bI X.K C f)(l:fs.lookup f=some v)
 (h:∀u s',aB X pins σ H s'->aW v u->Q u s'):wpAny (model X.prog X.w) A (getAttr (.ref a) f b) Q E s:=by
 obtain⟨mA,O,r,_,_,_⟩:=sJ I.hok e
 obtain⟨u,hu,ru⟩:=fF.some_of (v:=v) (o:=mA f) (by rw[<- l];exact r f)
 exact b1Q I.kIn O (c.get f) c.hd n hu (b34 ru) (h u _ (I.tok _) ru)
theorem uU{m:Str}{g:Addr}{pl:Sem Bool}{Q:Value×List Value->Shared->Prop}(I:aB X pins σ H s)(e:H a=some (.ins C dx fs))(c:bV X.K C)(k:oH X.K C m g)(l:fs.lookup m=none)
 (h:Q (.ref g,[.ref a]) s):wpAny (model X.prog X.w) A (getMethod (.ref a) m pl) Q E s:=by
 obtain⟨mA,O,r,_,_,_⟩:=sJ I.hok e
 have hn:mA m=none:=fF.none_of (by rw[<- l];exact r m)
 exact b3H I.kIn O (c.get m) k.at_ k.fn hn h
theorem b2e{y:V}{u:Value}{Q:Unit->Shared->Prop}(I:aB X pins σ H s)(e:H a=some (.ins C dx fs))(c:bV X.K C)(n:bI X.K C f)(hl:fs.length<1000)(ry:aW y u)
 (h:∀s',aB X pins σ (upd H a (.ins C dx (aF f y fs))) s'->Q () s'):wpAny (model X.prog X.w) A (setAttr (.ref a) f u) Q E s:=by
 obtain⟨mA,O,r,wi,_,ho⟩:=sJ I.hok e
 have hz:(fs.map (·.1)).length<=sizeLine:=by rw[List.length_map,sizeLine_eq];omega
 refine b1E I.kIn O c.sa c.po n.taker c.hd wi hz fun h' O' sb=>h _ ?_
 have hd:∃o,h'.get? dx=some o:=let ⟨o,_,_,e',_⟩:=O'.ns;⟨o,e'⟩
 refine I.write (x:=a) (e:=dx) (by rw[e];exact True.intro) (.inr ho) (fun b q hb z=>(sb.2 b hb).trans z) hd ?_
 refine⟨by rw[aH O.ne];exact ho,?_,O.ne,O'.obj,_,O'.ns,fun g=> ?_,fun g hg=> ?_⟩
 ·have:=b1d f y fs;omega
 ·show fF ((aF f y fs).lookup g) (if g=f then some u else mA g)
  rw[a9q]
  by_cases q:g=f
  ·rw[if_pos q,if_pos q];exact ry
  ·rw[if_neg q,if_neg q];exact r g
 ·by_cases q:g=f
  ·rw[q];exact(a0p f y fs).1
  ·refine(a0p f y fs).2 g (wi g fun z=>hg ?_)
   show(if g=f then some u else mA g)=none
   rw[if_neg q];exact z
theorem aB.made(I:aB X pins σ H s):aB X pins σ (upd (upd H s.heap.objs.size (.own (s.heap.objs.size+ 1))) (s.heap.objs.size+ 1) (.ins C s.heap.objs.size []))
 {s with heap:=(s.heap.push PySem.W.emptyDict).push (PySem.W.instObj C s.heap.objs.size)}:=by
 have e1:(s.heap.push PySem.W.emptyDict).get? s.heap.objs.size=some PySem.W.emptyDict:=Heap.get?_push_size s.heap rfl
 have e2:((s.heap.push PySem.W.emptyDict).push (PySem.W.instObj C s.heap.objs.size)).get? (s.heap.objs.size+ 1)=some (PySem.W.instObj C s.heap.objs.size):=by
  have:=Heap.get?_push_size (s.heap.push PySem.W.emptyDict) (o:=PySem.W.instObj C s.heap.objs.size) rfl
  rwa [Heap.size_push]at this
 have e3:(s.heap.push PySem.W.emptyDict).Ns s.heap.objs.size (fun _=>none):=⟨PySem.W.emptyDict,#[],_,e1,rfl,(fun e he=>absurd he (by simp)),fun _=>rfl⟩
 have I1:=I.laid (a:=s.heap.objs.size) (o:=.own (s.heap.objs.size+ 1)) (h':=s.heap.push PySem.W.emptyDict) (t':=s.toks) (fun b u q=>Heap.get?_push_of_some _ q) (Nat.le_refl _) ⟨_,e1⟩
 refine I1.laid (a:=s.heap.objs.size+ 1) (o:=.ins C s.heap.objs.size []) (t':=s.toks) (fun b u q=>Heap.get?_push_of_some _ q) (Nat.le_of_eq (Heap.size_push _ _)) ?_
 have ne:s.heap.objs.size≠s.heap.objs.size+ 1:=Nat.ne_of_lt (Nat.lt_succ_self _)
 refine⟨by rw[aH ne,aG],Nat.zero_le _,ne,e2,fun _=>none,(Heap.Ns1.of_empty e3).at fun o q=>Heap.get?_push_of_some _ q,fun _=>True.intro,fun y hy=>absurd rfl hy⟩
theorem b4C{prog:Program}{w:World}{env:Env}{e:Expr}{f:Str}{pos:Pos}{s:Shared}{Q:Value->Shared->Prop}(hb:attributeBase e f env (eval e env)=eval e env)
 (h:wpAny (model prog w) A (eval e env) (fun o s₁=>wpAny (model prog w) A (getAttr o f true) Q E s₁) E s):wpAny (model prog w) A (eval (.Attribute e f pos) env) Q E s:=
 Attribute_any_ h (by rw[arm_eval_Attribute,hb])
end
def tFld(K:Fg)(ta:TE)(f:Str):TE:=fun σ H Q=>ta σ H fun x H1=>∃a C dx fs v,x= .ref a/\H1 a=some (.ins C dx fs)/\bV K C/\bI K C f/\fs.lookup f=some v/\Q v H1
def sFld(K:Fg)(ta tv:TE)(f:Str):TS:=fun D σ H=>tv σ H fun y H1=>ta σ H1 fun x H2=>∃a C dx fs,x= .ref a/\H2 a=some (.ins C dx fs)/\bV K C/\bI K C f/\fs.length<1000/\
 D.nx σ (upd H2 a (.ins C dx (aF f y fs)))
section
variable{X:Cx}{o e value:Expr}{f:Str}{pos pos' tpos:Pos}{ta tv:TE}
theorem bH(he:PE X e ta)(hb:attributeBase e f X.env (eval e X.env)=eval e X.env):PE X (.Attribute e f pos) (tFld X.K ta f):=by
 intro pins s σ H Q I h
 refine b4C hb (aN (he pins s σ H _ I h) fun u s1 ⟨x,H1,I1,rx,a,C,dx,fs,v,ex,ea,c,n,l,q⟩=> ?_)
 subst ex
 obtain rfl:u=Value.ref a:=rx
 exact b1Z I1 ea c n l fun u' s2 I2 ru=>⟨v,H1,I2,ru,q⟩
theorem bQ(ha:PE X o ta)(hv:PE X value tv)(hs:swapsWith value (some (.Attribute o f pos')) pos.line X.env=pure false):PS X (.Assign [.Attribute o f pos'] value pos) (sFld X.K ta tv f):=by
 intro pins s σ H D I h
 refine plainObj_wpAny_Assign_Attribute (aN (hv pins s σ H _ I h) fun u s1 ⟨y,H1,I1,ry,q⟩=>aN (ha pins s1 σ H1 _ I1 q) fun ov s2 ⟨x,H2,I2,rx,a,C,dx,fs,ex,ea,c,n,l,q2⟩=> ?_) hs
 subst ex
 obtain rfl:ov=Value.ref a:=rx
 exact b2e I2 ea c n l ry fun s3 I3=>⟨σ,_,I3,q2⟩
theorem methcall_of{pl:Sem Bool}{m:Str}{apos:Pos}{args:List Expr}{pins:List (Addr×Obj)}{s:Shared}{σ:St}{H:Hp}{Q:Value->Shared->Prop}{te:TE}(he:PE X e te)(I:aB X pins σ H s)
 (h:te σ H fun x H1=>∃a C dx fs g,x= .ref a/\H1 a=some (.ins C dx fs)/\bV X.K C/\oH X.K C m g/\fs.lookup m=none/\
  ∀s1,aB X pins σ H1 s1->wpAny (model X.prog X.w) X.A (callWith pos (.ref g) [.ref a] (backTo pos (starEach args X.env)) (backToKw pos (keywordEach [] X.env))) Q X.xe s1)
 (ht:eval (.Call (.Attribute e m apos) args [] pos) X.env=(do
  let ov<- eval e X.env
  standAt apos.atName
  let (f,first)<- holding [ov] (getMethod ov m pl)
  callWith pos f first (backTo pos (starEach args X.env)) (backToKw pos (keywordEach [] X.env)))):
 wpAny (model X.prog X.w) X.A (eval (.Call (.Attribute e m apos) args [] pos) X.env) Q X.xe s:=by
 refine PySem.W.methodCall_KW (pl:=pl) (aN (he pins s σ H _ I h) fun u s1 ⟨x,H1,I1,rx,a,C,dx,fs,g,ex,ea,c,k,l,q⟩=> ?_) ht
 subst ex
 obtain rfl:u=Value.ref a:=rx
 exact uU I1 ea c k l (q s1 I1)
end
section
variable{X:Cx}{pins:List (Addr×Obj)}{σ:St}{H:Hp}{s:Shared}{A:Around}{E:Value->Shared->Prop}{Q:Value->Shared->Prop}{c:Value}{b:Bool}
inductive fD(K:Fg)(H:Hp):V->Value->Prop where
 |non:fD K H .non (.type "NoneType")
 |bl (x:Bool):fD K H (.bl x) (.type "bool")
 |int (i:Int):fD K H (.int i) (.type "int")
 |str (x:Str):fD K H (.str x) (.type "str")
 |flt (x:UInt64):fD K H (.flt x) (.type "float")
 |lst {a:Addr} {xs:List V} (e:H a=some (.lst xs)):fD K H (.ref a) (.type "list")
 |frz {a:Addr} {o:Obj} {xs:List V} (e:H a=some (.frz o (.lst xs))):fD K H (.ref a) (.type "list")
 |tup {a:Addr} {xs:List V} (e:H a=some (.tup xs)):fD K H (.ref a) (.type "tuple")
 |dK {a:Addr} {kvs:List (aI×V)} (e:H a=some (.dK kvs)):fD K H (.ref a) (.type "dict")
 |dT {a:Addr} {kvs:List (List aI×V)} (e:H a=some (.dT kvs)):fD K H (.ref a) (.type "dict")
 |ins {a C dx:Addr} {fs:List (Str×V)} (e:H a=some (.ins C dx fs)) (cl:bV K C) (ha:PySem.W.findIn K (.ref C) "__class__"=some (some (.builtin "object.__class__")))
  (hn:PySem.W.specialIn K (.builtin "object.__class__") "__get__"=some (some (.builtin "getset_descriptor.__get__"))) (htk:PySem.W.takesIn K (.builtin "object.__class__")=some true)
  (hm:PySem.W.mroIn K C (.type "object")=some true):fD K H (.ref a) (.ref C)
theorem b0U{x:V}{u t:Value}(I:aB X pins σ H s)(rx:aW x u)(ty:fD X.K H x t)(e:PySem.W.kitOne X.K t c=some b)(h:∀tk,Q (.bool b) {s with toks:=tk}):
 wpAny (model X.prog X.w) A (call (.builtin "isinstance") [u,c]) Q E s:=by
 cases ty with
 |non=>cases (show u=Value.none from rx);exact PySem.W.kia_one PySem.W.kitx_none I.kIn True.intro e (fun z=>nomatch z) h
 |bl y=>cases (show u=Value.bool y from rx);exact PySem.W.kia_one PySem.W.kitx_bool I.kIn True.intro e (fun z=>nomatch z) h
 |int i=>obtain⟨t,q⟩:=(show∃t,u=Value.int i t from rx);cases q;exact PySem.W.kia_one PySem.W.kitx_int I.kIn True.intro e (fun z=>nomatch z) h
 |str y=>obtain⟨t,q⟩:=(show∃t,u=Value.str y t from rx);cases q;exact PySem.W.kia_one PySem.W.kitx_str I.kIn True.intro e (fun z=>nomatch z) h
 |flt y=>obtain⟨t,q⟩:=(show∃t,u=Value.float y t from rx);cases q;exact PySem.W.kia_one PySem.W.kitx_float I.kIn True.intro e (fun z=>nomatch z) h
 | @lst a xs ea=>
  cases (show u=Value.ref a from rx)
  obtain⟨_,_,n,_,h1⟩:=(show cF X.prog X.w H s.heap a (.lst xs) from I.hok a _ ea)
  exact PySem.W.kia_one PySem.W.kitx_list I.kIn ⟨_,h1,rfl⟩ e (fun z=>nomatch z) h
 | @frz a ob xs ea=>
  cases (show u=Value.ref a from rx)
  obtain⟨_,_,_,n,_,h1⟩:=(show cF X.prog X.w H s.heap a (.frz ob (.lst xs)) from I.hok a _ ea)
  exact PySem.W.kia_one PySem.W.kitx_list I.kIn ⟨_,h1,rfl⟩ e (fun z=>nomatch z) h
 | @tup a xs ea=>
  cases (show u=Value.ref a from rx)
  obtain⟨_,_,_,p⟩:=(show cF X.prog X.w H s.heap a (.tup xs) from I.hok a _ ea)
  obtain⟨o,h1,h2,_⟩:=p
  exact PySem.W.kia_one PySem.W.kitx_tuple I.kIn ⟨o,h1,h2⟩ e (fun z=>nomatch z) h
 | @dK a kvs ea=>
  cases (show u=Value.ref a from rx)
  obtain⟨_,_,vs,_,p⟩:=(show cF X.prog X.w H s.heap a (.dK kvs) from I.hok a _ ea)
  obtain⟨o,es,ep,h1,h2,_⟩:=p
  exact PySem.W.kia_one PySem.W.kitx_dict I.kIn ⟨o,h1,h2.1⟩ e (fun z=>nomatch z) h
 | @dT a kvs ea=>
  cases (show u=Value.ref a from rx)
  obtain⟨_,_,xs,_,o,es,ep,h1,h2,_⟩:=(show cF X.prog X.w H s.heap a (.dT kvs) from I.hok a _ ea)
  exact PySem.W.kia_one PySem.W.kitx_dict I.kIn ⟨o,h1,h2.1⟩ e (fun z=>nomatch z) h
 | @ins a C dx fs ea cl ha hn htk hm=>
  cases (show u=Value.ref a from rx)
  obtain⟨mA,O,_⟩:=sJ I.hok ea
  obtain⟨od,J,_⟩:=O.look
  exact PySem.W.kia_one (PySem.W.kitx_own (cl.get _) cl.hd ha hn htk hm) I.kIn J e (fun z=>nomatch z) h
end
structure bJ(k:Nat)(A:Around):Prop where
 hd:A.handled=none
 dp:A.depth+ 3* k+ 5<recursionLimit
 un:A.units+ 16* k+ 200<cLine
theorem bJ.mono{j k:Nat}{A:Around}(r:bJ k A)(h:j<=k):bJ j A:=⟨r.hd,by have:=r.dp;omega,by have:=r.un;omega⟩
theorem bJ.deeper{k:Nat}{A:Around}(r:bJ (k+ 1) A)(env:Env):bJ k (A.deeper env):=
 ⟨r.hd,by have:=r.dp;show A.depth+ 1+ 3* k+ 5<_;omega,by have:=r.un;show A.units+ 3+ 16* k+ 200<_;omega⟩
theorem b3c{A:Around}{C:Addr}{us:List Value}{kw:List (Str×Value)}:(A.under (.builtin "type.__call__" ⟨.ref C::us,kw⟩)).depth=A.depth+ 1:=by
 first|rfl|simp[Around.under,Code.weight,Code.isCreation,Code.isGuard,Code.isCaller,Code.frames,Code.isFrame,guardIds]
theorem b4J{A:Around}{C:Addr}{us:List Value}{kw:List (Str×Value)}:(A.under (.builtin "type.__call__" ⟨.ref C::us,kw⟩)).units=A.units+ 1:=by
 first|rfl|simp[Around.under,Code.cUnits,Code.frames,Code.isFrame]
theorem bJ.make{k:Nat}{A:Around}(r:bJ (k+ 1) A)(C:Addr)(us:List Value)(kw:List (Str×Value)):bJ k (A.under (.builtin "type.__call__" ⟨.ref C::us,kw⟩)):=
 ⟨r.hd,by have:=r.dp;rw[b3c];omega,by have:=r.un;rw[b4J];omega⟩
theorem bJ.depth{k:Nat}{A:Around}(r:bJ k A):A.depth<recursionLimit:=by have:=r.dp;omega
theorem bJ.units{k:Nat}{A:Around}(r:bJ k A):A.units+ 64<cLine:=by have:=r.un;omega
def kR:TA:=fun _ H Q=>Q [] H
def a7A(ta:TE)(tr:TA):TA:=fun σ H Q=>ta σ H fun x H1=>tr σ H1 fun xs H2=>Q (x::xs) H2
section
variable{X:Cx}{e:Expr}{es:List Expr}{te:TE}{t:TA}{pos:Pos}
theorem aE:PA X [] kR:=fun _ _ _ _ H Q I h=>Calls.spliced_nil ⟨[],H,I,.nil,h⟩
theorem aA(ha:PE X e te)(hr:PA X es t)(hs:starEach (e::es) X.env=(false,eval e X.env)::starEach es X.env:=by rfl):PA X (e::es) (a7A te t):=by
 intro pos pins s σ H Q I h
 rw[hs]
 show wpAny _ _ (spliced ((false,eval e X.env)::backTo pos (starEach es X.env))) _ _ s
 refine Calls.spliced_cons (aN (ha pins s σ H _ I h) fun u s1 ⟨x,H1,I1,r1,q1⟩=> ?_)
 exact aN (hr pos pins s1 σ H1 _ I1 q1) fun us s2 ⟨xs,H2,I2,r2,q2⟩=>⟨x::xs,H2,I2,.cons r1 r2,q2⟩
def tTup(t:TA):TE:=fun σ H Q=>t σ H fun xs H1=>xs.length<=sizeLine/\∀p,H1 p=none->Q (.ref p) (upd H1 p (.tup xs))
def tLst(t:TA):TE:=fun σ H Q=>t σ H fun xs H1=>xs.length<=sizeLine/\∀p,H1 p=none->Q (.ref p) (upd H1 p (.lst xs))
theorem fC{x1}(h:PA X es t):PE X (.Tuple es x1 pos) (tTup t):=by
 intro pins s σ H Q I hq
 refine wpAny_Tuple_spliced (aN (h pos pins s σ H _ I hq) fun us s1 ⟨xs,H1,I1,r,z,q⟩=>⟨by rw[<- r.length];exact z,?_⟩)
 have hf:H1 s1.heap.objs.size=none:=I1.hok.fresh (Nat.le_refl _)
 refine⟨.ref s1.heap.objs.size,upd H1 s1.heap.objs.size (.tup xs),I1.laid (t':=s1.toks) (fun b u e=>Heap.get?_push_of_some _ e) (Nat.le_refl _) ?_,rfl,q _ hf⟩
 exact⟨z,us,r,⟨_,Heap.get?_push_size _ rfl,rfl,_,rfl⟩⟩
theorem eI(h:PA X es t):PE X (.List es pos) (tLst t):=by
 intro pins s σ H Q I hq
 refine wpAny_List_spliced (aN (h pos pins s σ H _ I hq) fun us s1 ⟨xs,H1,I1,r,z,q⟩=>⟨by rw[<- r.length];exact z,?_⟩)
 have hf:H1 s1.heap.objs.size=none:=I1.hok.fresh (Nat.le_refl _)
 refine⟨.ref s1.heap.objs.size,upd H1 s1.heap.objs.size (.lst xs),I1.laid (t':=s1.toks) (fun b u e=>Heap.get?_push_of_some _ e) (Nat.le_refl _) ?_,rfl,q _ hf⟩
 exact⟨z,us,0,r,Heap.get?_push_size _ rfl⟩
end
abbrev Sp:=List V->Hp->VK->XK->Prop
abbrev cZ:=List Env->Hp->Shared->XK->Value->Shared->Prop
structure jQ(P:Program)(w:World)(K:Fg)(mg:Str->Option Value)(base:Heap)(A:Around)(outer:List Env)(s:Shared)(H:Hp):Prop where
 frames:A.frames=some outer
 mod:Mod K mg base
 bs:∀b o,base.get? b=some o->s.heap.get? b=some o/\H b=none
 bsz:base.objs.size<=s.heap.objs.size
 funs:s.heap.FunFrames base outer
 frf:∀b∈cW outer,H b=none
 hok:bY P w H s.heap
 bare:AllBare s.gens
def CE(outer:List Env)(P:Program)(w:World)(H:Hp)(s:Shared)(Q:VK)(u:Value)(s':Shared):Prop:=
 ∃v H',s'.os=s.os/\AllBare s'.gens/\Un (cW outer) [] H H' s.heap s'.heap/\bY P w H' s'.heap/\aW v u/\Q v H'
def CR(CX:cZ)(outer:List Env)(P:Program)(w:World)(H:Hp)(s:Shared)(Q:VK)(E:XK)(r:Result)(s':Shared):Prop:=
 match r with
 | .ok (.ret u)=>CE outer P w H s Q u s'
 | .ok _=>False
 | .error e=>CX outer H s E e s'
structure dW(P:Program)(w:World)(K:Fg)(mg:Str->Option Value)(base:Heap)(CX:cZ)(k:Nat)(f:Addr)(fd:FuncData)(ps:List Str)(sp:Sp):Prop where
 len:∀vs H Q E,sp vs H Q E->vs.length=ps.length
 run:∀(A:Around) (outer:List Env) (s:Shared) (H:Hp) (args:Args) (us:List Value) (vs:List V) (Q:VK) (E:XK),bJ k A->jQ P w K mg base A outer s H->BindsTo s fd args (ps.zip us)->aV vs us->sp vs H Q E->
  codeAny (model P w) A (.call (.ref f) args) (CR CX outer P w H s Q E) s
theorem dW.mono{P:Program}{w:World}{K:Fg}{mg:Str->Option Value}{base:Heap}{CX:cZ}{j k:Nat}{f:Addr}{fd:FuncData}{ps:List Str}{sp:Sp}(F:dW P w K mg base CX j f fd ps sp)(h:j<=k):
 dW P w K mg base CX k f fd ps sp:=⟨F.len,fun A outer s H args us vs Q E hr=>F.run A outer s H args us vs Q E (hr.mono h)⟩
theorem jQ.make{P:Program}{w:World}{K:Fg}{mg:Str->Option Value}{base:Heap}{A:Around}{outer:List Env}{s:Shared}{H:Hp}(e:jQ P w K mg base A outer s H)(C:Addr)(us:List Value)(kw:List (Str×Value)):
 jQ P w K mg base (A.under (.builtin "type.__call__" ⟨.ref C::us,kw⟩)) outer s H:=⟨by first|exact e.frames|(simpa [Around.under,Code.envs,Code.isFrame,pushEnvs] using e.frames),e.mod,e.bs,e.bsz,e.funs,e.frf,e.hok,e.bare⟩
section
variable{X:Cx}{pins:List (Addr×Obj)}{σ:St}{H:Hp}{s s':Shared}
theorem aB.env0(I:aB X pins σ H s):jQ X.prog X.w X.K X.mg X.base X.A X.stack s H:=
 ⟨I.ok.frames,I.ok.mod,I.bs,Nat.le_trans I.ok.bsz I.sz,I.stack,I.stkFree,I.hok,I.bare⟩
theorem aB.after{Q:VK}{u:Value}(I:aB X pins σ H s)(h:CE X.stack X.prog X.w H s Q u s'):EP X pins σ Q u s':=by
 obtain⟨v,H',os,bare,un,hok,r,q⟩:=h
 obtain⟨hh,g,d,t,os'⟩:=s'
 obtain rfl:os'=s.os:=os
 exact⟨v,H',I.call (h':=hh) (g':=g) (d':=d) (t':=t) (ch:=[]) un hok bare (fun b z=>absurd z (by simp)),r,q⟩
end
def b1p(sp:Sp)(dvs:List V)(E:XK)(t:TA):TE:=fun σ H Q=>t σ H fun vs H1=>sp (vs++ dvs) H1 Q E
def tW(C:Addr)(m:Str)(sp:Sp)(dvs:List V)(E:XK)(ta:TE)(t:TA):TE:=fun σ H Q=>ta σ H fun x H1=>∃a dx fs,x= .ref a/\H1 a=some (.ins C dx fs)/\fs.lookup m=none/\
 t σ H1 fun vs H2=>sp (x::(vs++ dvs)) H2 Q E
def tV(C:Addr)(sp:Sp)(dvs:List V)(E:XK)(t:TA):TE:=fun σ H Q=>t σ H fun vs H1=>∀x dx,H1 x=none->H1 dx=none->dx≠x->
 sp (.ref x::(vs++ dvs)) (upd (upd H1 dx (.own x)) x (.ins C dx [])) (fun v H2=>v= .non/\Q (.ref x) H2) E
def fW(K:Fg)(fd:FuncData)(ps:List Str)(ds:List Value):Prop:=
 ∀(s:Shared) (us:List Value),K.In s.heap->(us++ ds).length=ps.length->BindsTo s fd ⟨us,[]⟩ (ps.zip (us++ ds))
theorem fW.all{K:Fg}{fd:FuncData}{ps:List Str}(h:∀us:List Value,us.length=ps.length->bindArgs fd ⟨us,[]⟩=pure (ps.zip us)):fW K fd ps []:=fun s us _ hl=>by
 rw[List.append_nil]at hl|-
 exact .of_eq (h us hl)
def fI(CX:cZ)(X:Cx)(E:XK):Prop:=∀(pins:List (Addr×Obj)) (σ:St) (H:Hp) (s:Shared) (e:Value) (s':Shared),aB X pins σ H s->CX X.stack H s E e s'->X.xe e s'
section
variable{X:Cx}{CX:cZ}{k:Nat}{f C:Addr}{fd:FuncData}{ps:List Str}{sp:Sp}{dvs:List V}{ds:List Value}{E:XK}{x m:Str}{p pos apos:Pos}{e o:Expr}{es:List Expr}{ta:TE}{t:TA}
theorem uE{pins:List (Addr×Obj)}{σ:St}{H:Hp}{s:Shared}{Q:VK}{us:List Value}{vs:List V}(F:dW X.prog X.w X.K X.mg X.base CX k f fd ps sp)(hr:bJ k X.A)(hb:fW X.K fd ps ds)(hd:aV dvs ds)(hx:fI CX X E)
 (I:aB X pins σ H s)(r:aV vs us)(h:sp (vs++ dvs) H Q E):wpAny (model X.prog X.w) X.A (call (.ref f) us) (EP X pins σ Q) X.xe s:=by
 have r2:aV (vs++ dvs) (us++ ds):=r.append hd
 have hl:(us++ ds).length=ps.length:=by rw[<- r2.length];exact F.len _ _ _ _ h
 refine wpAny_call (codeAny_mono (F.run X.A X.stack s H ⟨us,[]⟩ (us++ ds) (vs++ dvs) Q E hr I.env0 (hb s us I.kIn hl) r2 h) fun r s' hq=> ?_)
 cases r with
 |error e=>exact hx pins σ H s e s' I hq
 |ok fl=>
  cases fl with
  |ret u=>exact I.after hq
  |next=>exact False.elim hq
  |brk=>exact False.elim hq
  |cont=>exact False.elim hq
theorem b5x(F:dW X.prog X.w X.K X.mg X.base CX k f fd ps sp)(hr:bJ k X.A)(hg:Gl X x)(hm:X.mg x=some (.ref f))(hk:PySem.W.keepIn X.K (.ref f)=true)(hb:fW X.K fd ps ds)(hd:aV dvs ds)(hx:fI CX X E)
 (ha:PA X (e::es) t)(hdb:(x==("__debug__":Str))=false:=by decide)(he:starEach (e::es) X.env=(false,eval e X.env)::starEach es X.env:=by rfl)(hpl:(backTo pos (starEach es X.env)).any (·.1)=false:=by rfl):
 PE X (.Call (.Name x p) (e::es) [] pos) (b1p sp dvs E t):=by
 intro pins s σ H Q I h
 refine wpAny_Call_Name_kw (kT I hg hm ?_ hdb)
 refine PySem.W.callWith_K (h₀:=X.base) I.ok.mod.kin hk (aN (ha pos pins s σ H _ I h) fun us s1 ⟨vs,H1,I1,r,q⟩=>⟨I1.kIn,?_⟩) he hpl
 exact uE F hr hb hd hx I1 r q
theorem b3e{pl:Sem Bool}(he:PE X o ta)(c:bV X.K C)(hm:oH X.K C m f)(F:dW X.prog X.w X.K X.mg X.base CX k f fd ps sp)(hr:bJ k X.A)(hb:fW X.K fd ps ds)(hd:aV dvs ds)(hx:fI CX X E)(ha:PA X (e::es) t)
 (hst:starEach (e::es) X.env=(false,eval e X.env)::starEach es X.env:=by rfl)(hpl:(backTo pos (starEach es X.env)).any (·.1)=false:=by rfl)
 (ht:eval (.Call (.Attribute o m apos) (e::es) [] pos) X.env=(do
  let ov<- eval o X.env
  standAt apos.atName
  let (f,first)<- holding [ov] (getMethod ov m pl)
  callWith pos f first (backTo pos (starEach (e::es) X.env)) (backToKw pos (keywordEach [] X.env))):=by rfl):
 PE X (.Call (.Attribute o m apos) (e::es) [] pos) (tW C m sp dvs E ta t):=by
 intro pins s σ H Q I h
 refine PySem.W.methodCall_KW (pl:=pl) (aN (he pins s σ H _ I h) fun u s1 ⟨x,H1,I1,rx,a,dx,fs,ex,ea,l,q⟩=> ?_) ht
 subst ex
 obtain rfl:u=Value.ref a:=rx
 refine uU I1 ea c hm l ?_
 refine PySem.W.callWith_K (first:=[.ref a]) (h₀:=X.base) I.ok.mod.kin hm.kp (aN (ha pos pins s1 σ H1 _ I1 q) fun us s2 ⟨vs,H2,I2,r,q2⟩=>⟨I2.kIn,?_⟩) hst hpl
 exact uE (us:=.ref a::us) (vs:=.ref a::vs) F hr hb hd hx I2 (.cons rfl r) q2
theorem b59{pl:Sem Bool}(he:PE X o ta)(c:bV X.K C)(hm:oH X.K C m f)(F:dW X.prog X.w X.K X.mg X.base CX k f fd ps sp)(hr:bJ k X.A)(hb:fW X.K fd ps ds)(hd:aV dvs ds)(hx:fI CX X E)
 (ht:eval (.Call (.Attribute o m apos) [] [] pos) X.env=(do
  let ov<- eval o X.env
  standAt apos.atName
  let (f,first)<- holding [ov] (getMethod ov m pl)
  callWith pos f first (backTo pos (starEach [] X.env)) (backToKw pos (keywordEach [] X.env))):=by rfl):
 PE X (.Call (.Attribute o m apos) [] [] pos) (tW C m sp dvs E ta kR):=by
 intro pins s σ H Q I h
 refine PySem.W.methodCall_KW (pl:=pl) (aN (he pins s σ H _ I h) fun u s1 ⟨x,H1,I1,rx,a,dx,fs,ex,ea,l,q⟩=> ?_) ht
 subst ex
 obtain rfl:u=Value.ref a:=rx
 refine uU I1 ea c hm l ?_
 exact PySem.W.callWith_K0 (first:=[.ref a]) I1.kIn hm.kp (uE (us:=[.ref a]) (vs:=[.ref a]) F hr hb hd hx I1 (.cons rfl .nil) q)
structure Mk(K:Fg)(C f:Addr):Prop where
 makes:PySem.W.makesIn K C=true
 init:PySem.W.findIn K (.ref C) "__init__"=some (some (.ref f))
 fn:PySem.W.isFn K (.ref f)=true
 kp:PySem.W.keepIn K (.ref C)=true
theorem b0P{pins:List (Addr×Obj)}{σ:St}{H:Hp}{s:Shared}{Q:VK}{us:List Value}{vs:List V}(M:Mk X.K C f)(F:dW X.prog X.w X.K X.mg X.base CX k f fd ps sp)(hr:bJ (k+ 1) X.A)(hb:fW X.K fd ps ds)(hd:aV dvs ds)
 (hx:fI CX X E)(I:aB X pins σ H s)(r:aV vs us)
 (h:∀x dx,H x=none->H dx=none->dx≠x->sp (.ref x::(vs++ dvs)) (upd (upd H dx (.own x)) x (.ins C dx [])) (fun v H2=>v= .non/\Q (.ref x) H2) E):
 wpAny (model X.prog X.w) X.A (call (.ref C) us) (EP X pins σ Q) X.xe s:=by
 have hq:=h (s.heap.objs.size+ 1) s.heap.objs.size (I.hok.fresh (Nat.le_succ _)) (I.hok.fresh (Nat.le_refl _)) (Nat.ne_of_lt (Nat.lt_succ_self _))
 have I2:=aB.made (C:=C) I
 have r2:aV (V.ref (s.heap.objs.size+ 1)::(vs++ dvs)) (Value.ref (s.heap.objs.size+ 1)::(us++ ds)):=.cons rfl (r.append hd)
 have hl:(Value.ref (s.heap.objs.size+ 1)::us++ ds).length=ps.length:=by
  have e:=r2.length
  rw[F.len _ _ _ _ hq]at e
  exact e.symm
 refine wpAny_call (b5p (f:=f) I.kIn M.makes M.init (beq_iff_eq.mp M.fn) (codeAny_mono (F.run _ X.stack _ _ ⟨Value.ref (s.heap.objs.size+ 1)::us,[]⟩ (Value.ref (s.heap.objs.size+ 1)::(us++ ds)) _ _ E (hr.make C us [])
  (I2.env0.make C us []) (hb _ (Value.ref (s.heap.objs.size+ 1)::us) I2.kIn hl) r2 hq) fun r s' hq'=> ?_))
 cases r with
 |error e=>exact hx pins σ _ _ e s' I2 hq'
 |ok fl=>
  cases fl with
  |ret u=>
   obtain⟨v,H',I3,rv,ev,q3⟩:=I2.after hq'
   subst ev
   exact⟨rv,⟨V.ref (s.heap.objs.size+ 1),H',I3,rfl,q3⟩⟩
  |next=>exact False.elim hq'
  |brk=>exact False.elim hq'
  |cont=>exact False.elim hq'
theorem b2s(M:Mk X.K C f)(F:dW X.prog X.w X.K X.mg X.base CX k f fd ps sp)(hr:bJ (k+ 1) X.A)(hg:Gl X x)(hm:X.mg x=some (.ref C))(hb:fW X.K fd ps ds)(hd:aV dvs ds)(hx:fI CX X E)
 (ha:PA X (e::es) t)(hdb:(x==("__debug__":Str))=false:=by decide)(he:starEach (e::es) X.env=(false,eval e X.env)::starEach es X.env:=by rfl)(hpl:(backTo pos (starEach es X.env)).any (·.1)=false:=by rfl):
 PE X (.Call (.Name x p) (e::es) [] pos) (tV C sp dvs E t):=by
 intro pins s σ H Q I h
 refine wpAny_Call_Name_kw (kT I hg hm ?_ hdb)
 refine PySem.W.callWith_K (h₀:=X.base) I.ok.mod.kin M.kp (aN (ha pos pins s σ H _ I h) fun us s1 ⟨vs,H1,I1,r,q⟩=>⟨I1.kIn,?_⟩) he hpl
 exact b0P M F hr hb hd hx I1 r q
theorem b5e(M:Mk X.K C f)(F:dW X.prog X.w X.K X.mg X.base CX k f fd ps sp)(hr:bJ (k+ 1) X.A)(hg:Gl X x)(hm:X.mg x=some (.ref C))(hb:fW X.K fd ps ds)(hd:aV dvs ds)(hx:fI CX X E)
 (hdb:(x==("__debug__":Str))=false:=by decide):PE X (.Call (.Name x p) [] [] pos) (tV C sp dvs E kR):=by
 intro pins s σ H Q I h
 refine wpAny_Call_Name_kw (kT I hg hm ?_ hdb)
 exact PySem.W.callWith_K0 I.kIn M.kp (b0P (us:=[]) M F hr hb hd hx I .nil h)
end
section
variable{X:Cx}{CX:cZ}{k:Nat}{f C:Addr}{fd:FuncData}{ps ks:List Str}{sp:Sp}{E:XK}{x m:Str}{p pos apos kpos:Pos}{e o:Expr}{es:List Expr}{kws:List Keyword}{te ta:TE}{t tk:TA}{nm:Option Str}
structure KBinds(K:Fg)(fd:FuncData)(ps ks:List Str)(g:List Value->List Value->List Value)(gV:List V->List V->List V):Prop where
 to:∀(s:Shared) (us ws:List Value),K.In s.heap->(g us ws).length=ps.length->BindsTo s fd ⟨us,ks.zip ws⟩ (ps.zip (g us ws))
 rel:∀{vs:List V} {us:List Value} {zs:List V} {ws:List Value},aV vs us->aV zs ws->aV (gV vs zs) (g us ws)
variable{g:List Value->List Value->List Value}{gV:List V->List V->List V}
end
structure bB(N P:List Str)(sc:Scope):Prop where
 kind:sc.kind= .function
 co:sc.isCoroutine=false
 gen:sc.isGenerator=false
 nd:N.Nodup
 pre:N.take P.length=P
 par:∀x∈P,sc.names.lookup x=some .local\/ sc.names.lookup x=some .cell
 nofree:∀y∈sc.names,y.2≠ .free
theorem a90{kindOf:Str->Option NameKind}{x:Str}:∀{binds:List (Str×Value)} {m:Str->Option Value},(∀v,(x,v)∉binds)->bindL kindOf binds m x=m x
 | [],_,_=>rfl
 |(n,v)::r,m,h=>by
  unfold bindL
  rw[a90 fun w hw=>h w (List.mem_cons_of_mem _ hw)]
  split
  ·have:x≠n:=by rintro rfl;exact h v List.mem_cons_self
   simp[this]
  ·rfl
theorem a91{kindOf:Str->Option NameKind}{x:Str}:∀{binds:List (Str×Value)} {m:Str->Option Value},(∀v,(x,v)∉binds)->bindC kindOf binds m x=m x
 | [],_,_=>rfl
 |(n,v)::r,m,h=>by
  unfold bindC
  rw[a91 fun w hw=>h w (List.mem_cons_of_mem _ hw)]
  split
  ·rfl
  ·have:x≠n:=by rintro rfl;exact h v List.mem_cons_self
   simp[this]
theorem a9A{kindOf:Str->Option NameKind}{x:Str}{v:Value}:∀{P:List Str} {vs:List Value} {i:Nat} {m:Str->Option Value},P.Nodup->P[i]?=some x->vs[i]?=some v->kindOf x=some .local->
 bindL kindOf (P.zip vs) m x=some v
 | [],_,_,_,_,h,_,_=>by simp at h
 |_::_,[],_,_,_,_,h,_=>by simp at h
 |p::P,w::vs,0,m,nd,h1,h2,hk=>by
  simp at h1 h2;subst h1;subst h2
  show bindL kindOf ((p,w)::P.zip vs) m p=_
  unfold bindL
  rw[a90 fun v hv=>(List.nodup_cons.mp nd).1 (List.of_mem_zip hv).1,if_pos hk]
  simp
 |p::P,w::vs,i+ 1,m,nd,h1,h2,hk=>by
  show bindL kindOf ((p,w)::P.zip vs) m x=_
  unfold bindL
  exact a9A (i:=i) (List.nodup_cons.mp nd).2 (by simpa using h1) (by simpa using h2) hk
theorem a94{kindOf:Str->Option NameKind}{x:Str}{v:Value}:∀{P:List Str} {vs:List Value} {i:Nat} {m:Str->Option Value},P.Nodup->P[i]?=some x->vs[i]?=some v->kindOf x≠some .local->
 bindC kindOf (P.zip vs) m x=some v
 | [],_,_,_,_,h,_,_=>by simp at h
 |_::_,[],_,_,_,_,h,_=>by simp at h
 |p::P,w::vs,0,m,nd,h1,h2,hk=>by
  simp at h1 h2;subst h1;subst h2
  show bindC kindOf ((p,w)::P.zip vs) m p=_
  unfold bindC
  rw[a91 fun v hv=>(List.nodup_cons.mp nd).1 (List.of_mem_zip hv).1,if_neg hk]
  simp
 |p::P,w::vs,i+ 1,m,nd,h1,h2,hk=>by
  show bindC kindOf ((p,w)::P.zip vs) m x=_
  unfold bindC
  exact a94 (i:=i) (List.nodup_cons.mp nd).2 (by simpa using h1) (by simpa using h2) hk
def gF(N:List Str)(vs:List V):St:=vs.map some++ List.replicate (N.length- vs.length) none
def dQ(CX:cZ)(P:Program)(w:World)(K:Fg)(mg:Str->Option Value)(base:Heap)(N:List Str)(qual:Str)(scope:Scope)(f:Addr)(cd:Value)(A:Around)(outer:List Env)(s:Shared)(H:Hp)(E:XK):Cx where
 prog:=P
 w:=w
 K:=K
 mg:=mg
 base:=base
 A:=A.deeper (envOfC qual scope s.heap.objs.size f cd)
 N:=N
 s₀:=s
 H₀:=H
 env:=envOfC qual scope s.heap.objs.size f cd
 outer:=outer
 stack:=envOfC qual scope s.heap.objs.size f cd::outer
 ex:=[]
 calm:=true
 fn:=fun _=>true
 pn:=[]
 xe:=fun e s'=>wpAny (model P w) (A.deeper (envOfC qual scope s.heap.objs.size f cd)) (leaving (envOfC qual scope s.heap.objs.size f cd) e) (fun _ s''=>CX outer H s E e s'') (fun e' s''=>CX outer H s E e' s'') s'
theorem b07{sc:Scope}{n:Nat}{x:Str}(h:sc.names.lookup x=some .cell):∃c,(cellsFrom n sc.names []).lookup x=some c:=by
 have q:=PySem.W.cellsFrom_some sc.names n [] (.inl h)
 exact Option.isSome_iff_exists.mp q
theorem b4L{CX:cZ}{P:Program}{w:World}{K:Fg}{mg:Str->Option Value}{base:Heap}{N ps:List Str}{qual:Str}{scope:Scope}{f:Addr}{cd:Value}{A:Around}{outer:List Env}{s s1:Shared}{H:Hp}{E:XK}{us:List Value}{vs:List V}
 (S:bB N ps scope)(hd:A.handled=none)(e0:jQ P w K mg base A outer s H)(hl:vs.length=ps.length)(r:aV vs us)
 (x:InCallC s s.heap.objs.size (bindL (envOfC qual scope s.heap.objs.size f cd).kindOf (ps.zip us) fun _=>none) (cellsFrom (s.heap.objs.size+ 1) scope.names []) (bindC (envOfC qual scope s.heap.objs.size f cd).kindOf (ps.zip us) fun _=>none) s1):
 aB (dQ CX P w K mg base N qual scope f cd A outer s H E) [] (gF N vs) H s1:=by
 have hpl:ps.length<=N.length:=by have:=congrArg List.length S.pre;rw[List.length_take]at this;omega
 obtain⟨h1,tk,rfl,hk⟩:=x.done
 have noA:∀b:Addr,b∉(dQ CX P w K mg base N qual scope f cd A outer s H E).ex:=fun b z=>absurd (show b∈([]:List Addr) from z) (by simp)
 refine⟨⟨e0.mod,S.kind,rfl,rfl,Nat.le_refl _,fun y z c h1 h2=> ?_,fun y hy=> ?_,fun y c _ h=> ?_,fun _=>hd,Around.frames_deeper e0.frames,.inr ⟨rfl,rfl⟩,fun b z=>absurd z (noA b),e0.bs,e0.bsz,fun b _ _=>noA b,fun b z=>absurd z (noA b),e0.funs,e0.frf⟩,
  rfl,e0.bare,Un.kept hk,⟨_,x.toInCall.ns,fun i y v h1 h2 h3=> ?_⟩,fun y c h=>⟨_,x.cell y c h⟩,e0.hok.fresh (Nat.le_refl _),fun y c h=> ?_,fun p hp=>absurd (show p∈([]:List (Addr×Obj)) from hp) (by simp),e0.hok.kept hk,?_⟩
 ·exact name_of_addr x.apart (PySem.mem_of_lookup h1) (PySem.mem_of_lookup h2)
 ·have hy:scope.names.lookup y=some .cell\/ scope.names.lookup y=some .free:=hy
  rcases hy with hy|hy
  ·exact b07 hy
  ·exact absurd rfl (S.nofree _ (PySem.mem_of_lookup hy))
 ·exact Nat.le_of_lt (x.above y c (PySem.mem_of_lookup h))
 ·have hi:i<vs.length:=by
   unfold gF at h2
   by_cases hi:i<vs.length
   ·exact hi
   ·rw[List.getElem?_append_right (by simpa using hi)]at h2
    rw[List.getElem?_replicate]at h2
    split at h2<;>cases h2
  have ha:vs[i]?=some v:=by
   unfold gF at h2
   rw[List.getElem?_append_left (by simpa using hi),List.getElem?_map]at h2
   cases e:vs[i]? with
   |none=>rw[e]at h2;cases h2
   |some a=>rw[e]at h2;cases h2;rfl
  obtain⟨u,hu,rv⟩:=r.get ha
  have hp:ps[i]?=some y:=by
   rw[<- S.pre,List.getElem?_take_of_lt (by omega)];exact h1
  have ndP:ps.Nodup:=by rw[<- S.pre];exact S.nd.sublist (List.take_sublist _ _)
  refine⟨u,rv,?_⟩
  rcases S.par y (List.mem_of_getElem? hp)with k|k
  ·exact .inl ⟨k,a9A ndP hp hu k⟩
  ·obtain⟨c,e⟩:=b07 (n:=s.heap.objs.size+ 1) k
   refine .inr ⟨.inl k,c,e,?_⟩
   have q:=x.cell y c e
   rw[a94 ndP hp hu (by show scope.names.lookup y≠_;rw[k];decide)]at q
   exact q
 ·exact e0.hok.fresh (Nat.le_of_lt (x.above y c (PySem.mem_of_lookup h)))
 ·unfold gF
  show _=N.length
  rw[List.length_append,List.length_map,List.length_replicate]
  omega
theorem b08{CX:cZ}{P:Program}{w:World}{K:Fg}{mg:Str->Option Value}{base:Heap}{k:Nat}{f:Addr}{name qual:Str}{params:Arguments}{body:List Stmt}{scope:Scope}{dV kV doc pm cdv ct oc:Value}{an od:Option Addr}
 {osl:Array (Option Value)}{N ps:List Str}{sp:Sp}(lk:K.lookup f=some ⟨oc,od,.func (PySem.W.fnOf name qual params body scope dV kV doc pm an cdv ct),osl⟩)(hcd:PySem.W.codeIn K cdv qual=true)(S:bB N ps scope)
 (len:∀vs H Q E,sp vs H Q E->vs.length=ps.length)
 (hbody:∀(A:Around) (outer:List Env) (s:Shared) (H:Hp) (vs:List V) (Q:VK) (E:XK),bJ k (A.deeper (envOfC qual scope s.heap.objs.size f cdv))->sp vs H Q E->
  ∃t,cD (dQ CX P w K mg base N qual scope f cdv A outer s H E) body t/\t {nx:=fun _ H'=>Q .non H',rt:=Q} (gF N vs) H):
 dW P w K mg base CX (k+ 1) f (PySem.W.fnOf name qual params body scope dV kV doc pm an cdv ct) ps sp:=by
 refine⟨len,fun A outer s H args us vs Q E hr e0 hb r hsp=> ?_⟩
 have hl:=len _ _ _ _ hsp
 have KX:K.In s.heap:=e0.mod.kin.keeps fun b o e=>(e0.bs b o e).1
 have lim:s.heap.NoLimit:=e0.mod.nolimit.keeps fun b o e=>(e0.bs b o e).1
 have hkind:∀y∈ps.zip us,scope.names.lookup y.1=some .local\/ (scope.names.lookup y.1=some .cell/\((cellsFrom (s.heap.objs.size+ 1) scope.names []).lookup y.1).isSome=true):=fun⟨n,v⟩ hy=>by
  rcases S.par n (List.of_mem_zip hy).1 with q|q
  ·exact .inl q
  ·exact .inr ⟨q,PySem.W.cellsFrom_some _ _ _ (.inl q)⟩
 refine codeAny_call_function hr.depth (KX _ _ lk) rfl S.co S.gen rfl (PySem.W.codeRec_of KX hcd) (hb _ _ _ _ ?_)
 refine wpAny_newFunctionEnv_cells S.kind hkind fun env he s1 x=> ?_
 subst he
 refine⟨lim.keeps x.toInCall.keep,codeAny_func ?_⟩
 obtain⟨t,ht,hq⟩:=hbody A outer s H vs Q E (hr.deeper _) hsp
 have I:aB (dQ CX P w K mg base N qual scope f cdv A outer s H E) [] (gF N vs) H s1:=b4L S hr.hd e0 hl r x
 refine wpAny_mono (ht [] s1 (gF N vs) H _ I hq) (fun fl s' hs=> ?_) fun e s' hs=>hs
 have fin:∀{σ':St} {H':Hp} {v:V} {u:Value},aB (dQ CX P w K mg base N qual scope f cdv A outer s H E) [] σ' H' s'->aW v u->Q v H'->CE outer P w H s Q u s':=
  fun{σ' H' v u} J rv q=>⟨v,H',J.os,J.bare,J.base,J.hok,rv,q⟩
 cases fl with
 |ret u=>
  obtain⟨v,σ',H',J,rv,q⟩:=hs
  exact fin J rv q
 |next=>
  obtain⟨σ',H',J,q⟩:=hs
  exact fin (v:=V.non) (u:=Value.none) J rfl q
 |brk=>
  obtain⟨_,_,_,q⟩:=hs
  exact False.elim q
 |cont=>
  obtain⟨_,_,_,q⟩:=hs
  exact False.elim q
section
variable{X:Cx}{x:Str}{p pos:Pos}{e:Expr}{es:List Expr}{t:TA}{id T:String}{r:List V->Hp->VK->Prop}
def tCB(r:List V->Hp->VK->Prop)(t:TA):TE:=fun σ H Q=>t σ H fun vs H1=>r vs H1 Q
theorem bN(hc:fO X (.builtin id) r)(hg:Gl X x)(hm:X.mg x=none)(hv:bootBuiltins x=some (.builtin id))(ha:PA X (e::es) t)(hn:x≠ "__name__":=by decide)(hdb:(x==("__debug__":Str))=false:=by decide)
 (he:starEach (e::es) X.env=(false,eval e X.env)::starEach es X.env:=by rfl)(hpl:(backTo pos (starEach es X.env)).any (·.1)=false:=by rfl):PE X (.Call (.Name x p) (e::es) [] pos) (tCB r t):=by
 intro pins s σ H Q I h
 refine wpAny_Call_Name_kw (a4u I hg hm hv ?_ hn hdb)
 exact PyProof.Rows.callWith_builtin1 (aN (ha pos pins s σ H _ I h) fun us s1 ⟨vs,H1,I1,r1,q1⟩=>hc pins s1 σ H1 vs us Q I1 r1 q1) he hpl
theorem kY(hc:fO X (.type T) r)(hg:Gl X x)(hm:X.mg x=none)(hv:bootBuiltins x=some (.type T))(ha:PA X (e::es) t)(hn:x≠ "__name__":=by decide)(hdb:(x==("__debug__":Str))=false:=by decide)
 (he:starEach (e::es) X.env=(false,eval e X.env)::starEach es X.env:=by rfl)(hpl:(backTo pos (starEach es X.env)).any (·.1)=false:=by rfl):PE X (.Call (.Name x p) (e::es) [] pos) (tCB r t):=by
 intro pins s σ H Q I h
 refine wpAny_Call_Name_kw (a4u I hg hm hv ?_ hn hdb)
 exact PyProof.Rows.callWith_type1 (aN (ha pos pins s σ H _ I h) fun us s1 ⟨vs,H1,I1,r1,q1⟩=>hc pins s1 σ H1 vs us Q I1 r1 q1) he hpl
end
end L2
namespace HT
open PySem PyProof.Rows
section
variable{prog:Program}{w:World}{A:Around}{E:Value->Shared->Prop}{s:Shared}
noncomputable def sIx(n d:Nat):Option Int->Nat
 |none=>d
 |some v=>if v<0 then(v+ (n:Int)).toNat else min v.toNat n
end
end HT
namespace L2
open PySem PySem.Spec PyProof.Rows
abbrev TO:=St->Hp->(Option Int->Hp->Prop)->Prop
def PO(X:Cx)(e:Option Expr)(t:TO):Prop:=
 ∀(pins:List (Addr×Obj)) (s:Shared) (σ:St) (H:Hp) (Q:Option Int->Hp->Prop),aB X pins σ H s->t σ H Q->
  wpAny (model X.prog X.w) X.A (evalPart e X.env) (fun u s'=>∃o H',aB X pins σ H' s'/\IsPart u o/\Q o H') X.xe s
noncomputable def b1F:TO:=fun _ H Q=>Q none H
noncomputable def b3X (t:TE):TO:=fun σ H Q=>t σ H fun x H1=>∃i,x= .int i/\Q (some i) H1
section
variable{X:Cx}{e:Expr}{te:TE}{lo hi:Option Expr}{tl th:TO}{pos p2:Pos}
theorem b3W:PO X none b1F:=by
 intro pins s σ H Q I h
 rw[evalPart_none]
 exact wpAny_pure ⟨none,H,I,.none,h⟩
theorem b6e(h:PE X e te):PO X (some e) (b3X te):=by
 intro pins s σ H Q I hw
 rw[evalPart_some]
 refine aN (h pins s σ H _ I hw) fun u s1 ⟨x,H1,I1,r1,q1⟩=> ?_
 obtain⟨i,rfl,q⟩:=q1
 obtain⟨t,rfl⟩:=r1
 exact⟨some i,H1,I1,.int i t,q⟩
def SlR(X:Cx)(r:V->Option Int->Option Int->Hp->VK->Prop):Prop:=
 ∀(pins:List (Addr×Obj)) (s:Shared) (σ:St) (H:Hp) (x:V) (v vl vu:Value) (lo hi:Option Int) (sl:Addr) (Q:VK),aB X pins σ H s->aW x v->s.heap.IsSliceOf sl vl vu .none->IsPart vl lo->IsPart vu hi->r x lo hi H Q->
  ∃T id,typeLookup (.type T) "__getitem__"=pure (some (.builtin id))/\s.TypeIs v T/\wpAny (model X.prog X.w) X.A (getItem v (.ref sl)) (EP X pins σ Q) X.xe s
def tSl(r:V->Option Int->Option Int->Hp->VK->Prop)(te:TE)(tl th:TO):TE:=fun σ H Q=>te σ H fun x H1=>tl σ H1 fun l H2=>th σ H2 fun u H3=>r x l u H3 Q
theorem b5O{r:V->Option Int->Option Int->Hp->VK->Prop}(hr:SlR X r)(he:PE X e te)(hl:PO X lo tl)(hu:PO X hi th):PE X (.Subscript e (.Slice lo hi none p2) pos) (tSl r te tl th):=by
 intro pins s σ H Q I h
 refine Subscript_ (aN (he pins s σ H _ I h) fun v s1 ⟨x,H1,I1,r1,q1⟩=> ?_)
 refine wpAny_Slice (aN (hl pins s1 σ H1 _ I1 q1) fun vl s2 ⟨l,H2,I2,pl,q2⟩=>aN (hu pins s2 σ H2 _ I2 q2) fun vu s3 ⟨u,H3,I3,pu,q3⟩=> ?_)
 rw[evalPart_none]
 refine wpAny_pure ?_
 have I4:aB X pins σ H3 {s3 with heap:=s3.heap.push {cls:=.type "slice",data:=.fields #[vl,vu,.none]}}:=I3.kept (t':=s3.toks) fun b ob q=>Heap.get?_push_of_some _ q
 obtain⟨T,id,hT,ht,hg⟩:=hr pins {s3 with heap:=s3.heap.push {cls:=.type "slice",data:=.fields #[vl,vu,.none]}} σ H3 x v vl vu l u s3.heap.objs.size Q I4 r1 (Heap.IsSliceOf.new ..) pl pu q3
 show wpAny (model X.prog X.w) X.A (subscriptTail e (.Slice lo hi none p2) v (.ref s3.heap.objs.size)) (EP X pins σ Q) X.xe {s3 with heap:=s3.heap.push {cls:=.type "slice",data:=.fields #[vl,vu,.none]}}
 exact tail_any (ops:=[.ref s3.heap.objs.size,v]) ht hT hg (by with_unfolding_all rfl)
noncomputable def mS (xs:List V) (lo hi:Option Int):List V:=(xs.drop (HT.sIx xs.length 0 lo)).take (HT.sIx xs.length xs.length hi- HT.sIx xs.length 0 lo)
theorem b5H(xs:List V)(lo hi:Option Int):(mS xs lo hi).length<=xs.length:=by
 unfold mS
 rw[List.length_take,List.length_drop]
 omega
end
noncomputable def mD (n:Nat) (i:Int):Option Nat:=if 0<=i then(if i<n then some i.toNat else none) else if-(n:Int)<=i then some (i+ n).toNat else none
noncomputable def gB {α:Type} (xs:List α) (i:Int):Option α:=(mD xs.length i).bind fun j=>xs[j]?
theorem b52{n:Nat}{i:Int}{j:Nat}(h:mD n i=some j):seqIndex? i n=some j/\j<n/\ -(n:Int)<=i/\i<n:=by
 unfold mD at h
 by_cases h0:0<=i
 ·rw[if_pos h0]at h
  by_cases h1:i<n
  ·rw[if_pos h1]at h
   have e:i.toNat=j:=Option.some.inj h
   exact⟨by rw[seqIndex_of h0 h1,e],by omega,by omega,h1⟩
  ·rw[if_neg h1]at h;cases h
 ·rw[if_neg h0]at h
  by_cases h1: -(n:Int)<=i
  ·rw[if_pos h1]at h
   have e:(i+ n).toNat=j:=Option.some.inj h
   exact⟨by rw[seqIndex_neg (by omega) h1,e],by omega,h1,by omega⟩
  ·rw[if_neg h1]at h;cases h
theorem b0G{α:Type}{xs:List α}{i:Int}{v:α}(h:gB xs i=some v):∃j,seqIndex? i xs.length=some j/\xs[j]?=some v/\j<xs.length/\ -(xs.length:Int)<=i/\i<xs.length:=by
 unfold gB at h
 cases e:mD xs.length i with
 |none=>rw[e]at h;cases h
 |some j=>
  rw[e]at h
  obtain⟨h1,h2,h3,h4⟩:=b52 e
  exact⟨j,h1,h,h2,h3,h4⟩
theorem b1O{α:Type}{xs:List α}{j:Nat}{v:α}(h:xs[j]?=some v):gB xs (j:Int)=some v:=by
 have hj:j<xs.length:=(List.getElem?_eq_some_iff.mp h).1
 have e:mD xs.length (j:Int)=some j:=by
  unfold mD
  rw[if_pos (by omega),if_pos (by omega)];simp
 unfold gB;rw[e];exact h
def b1k(b:Expr):Prop:=∀o i,subscripted b false o i=operate [o,i] (getItem o i)
def sP(X:Cx)(r:R2):Prop:=
 ∀(value slice:Expr) (pins:List (Addr×Obj)) (s:Shared) (σ:St) (H:Hp) (x y:V) (v u:Value) (Q:VK),aB X pins σ H s->aW x v->aW y u->r x y H Q->
  subscripted slice false v u=operate [v,u] (getItem v u)->wpAny (model X.prog X.w) X.A (subscriptTail value slice v u) (EP X pins σ Q) X.xe s
def MtR(X:Cx)(id:String)(r:V->List V->Hp->VK->Prop):Prop:=
 ∀(pins:List (Addr×Obj)) (s:Shared) (σ:St) (H:Hp) (x:V) (xs:List V) (v:Value) (us:List Value) (Q:VK),aB X pins σ H s->aW x v->aV xs us->r x xs H Q->
  wpAny (model X.prog X.w) X.A (call (.builtin id) (v::us)) (EP X pins σ Q) X.xe s
section
variable{X:Cx}{a b:Expr}{ta tb:TE}{pos:Pos}
theorem kB{r:R2}(hr:sP X r)(ha:PE X a ta)(hb:PE X b tb)(hs:b1k b):PE X (.Subscript a b pos) (iQ r ta tb):=by
 intro pins s σ H Q I h
 exact Subscript_ (yL ha hb I h fun v u s2 x y H2 I2 rx ry q=>hr a b pins s2 σ H2 x y v u Q I2 rx ry q (hs _ _))
noncomputable def rIxL (K:Fg):R2:=fun x y H Q=>∃p xs i v,x= .ref p/\y= .int i/\aS K H p xs/\gB xs i=some v/\Q v H
noncomputable def rIxT (K:Fg):R2:=fun x y H Q=>∃p xs i v,x= .ref p/\y= .int i/\eB K H p xs/\gB xs i=some v/\Q v H
theorem iV:sP X (rIxL X.K):=by
 intro value slice pins s σ H x y v u Q I rx ry h hs
 obtain⟨p,xs,i,z,rfl,rfl,hq,he,q⟩:=h
 cases rx
 obtain⟨t,rfl⟩:=ry
 obtain⟨its,r,pl,hz⟩:=I.list hq
 obtain⟨j,h1,h2,h3,h4,h5⟩:=b0G he
 obtain⟨w,ew,rw'⟩:=r.get h2
 have hl:=r.length
 have hn:=tN
 have fin:EP X pins σ Q w s:=⟨z,H,I,rw',q⟩
 by_cases h0:0<=i
 ·have hj:i.toNat=j:=by
   rw[seqIndex_of h0 h5]at h1
   exact Option.some.inj h1
  exact item_listR pl.isList h0 (by omega) (by rw[hj];simpa using ew) fin hs
 ·have hj:(i+ (its.toArray.size:Int)).toNat=j:=by
   rw[seqIndex_neg (by omega) h4]at h1
   rw[List.size_toArray,<- hl]
   exact Option.some.inj h1
  exact subscriptTail_builtinR (x:=w) pl.isList.typeIs slot_list_getitem.lookup
   (wpAny_getItem_list_neg (Q:=fun r s'=>r=w/\EP X pins σ Q r s') pl.isList (by omega) (by rw[List.size_toArray]<;>omega) (by omega) (by rw[hj];simpa using ew) ⟨rfl,fin⟩) hs
theorem a7H:sP X (rIxT X.K):=by
 intro value slice pins s σ H x y v u Q I rx ry h hs
 obtain⟨p,xs,i,z,rfl,rfl,hq,he,q⟩:=h
 cases rx
 obtain⟨t,rfl⟩:=ry
 obtain⟨its,r,pl,hz⟩:=I.tuple hq
 obtain⟨j,h1,h2,h3,h4,h5⟩:=b0G he
 obtain⟨w,ew,rw'⟩:=r.get h2
 have hl:=r.length
 have hn:=tN
 have fin:EP X pins σ Q w s:=⟨z,H,I,rw',q⟩
 exact subscriptTail_builtinR (x:=w) pl.typeIs slot_tuple_getitem.lookup
  (getItem_tuple (j:=j) (Q:=fun r s'=>r=w/\EP X pins σ Q r s') pl (by omega) (by omega) (by rw[List.size_toArray,<- hl];exact h1) (by simpa using ew) ⟨rfl,fin⟩) hs
theorem b3l(lo hi:Option Int)(n:Nat):(sliceBounds lo hi none n).1=((HT.sIx n 0 lo:Nat):Int)/\(sliceBounds lo hi none n).2.1=((HT.sIx n n hi:Nat):Int)/\(sliceBounds lo hi none n).2.2=1:=by
 refine⟨?_,?_,rfl⟩
 ·cases lo with
  |none=>simp[sliceBounds,HT.sIx]
  |some i=>
   simp only[sliceBounds,HT.sIx,Option.getD_none,show(1:Int)>0 by decide,if_true]
   by_cases h:i<0
   ·simp only[h,if_true]<;>omega
   ·simp only[h,if_false]<;>omega
 ·cases hi with
  |none=>simp[sliceBounds,HT.sIx]
  |some i=>
   simp only[sliceBounds,HT.sIx,Option.getD_none,show(1:Int)>0 by decide,if_true]
   by_cases h:i<0
   ·simp only[h,if_true]<;>omega
   ·simp only[h,if_false]<;>omega
theorem b25(its:List Value)(lo hi:Option Int):slicePick its.toArray lo hi none=((its.drop (HT.sIx its.length 0 lo)).take (HT.sIx its.length its.length hi- HT.sIx its.length 0 lo)).toArray:=by
 obtain⟨h1,h2,h3⟩:=b3l lo hi its.toArray.size
 unfold slicePick
 rw[h1,h2,h3]
 simp only[sliceRange_one,pick_run,List.size_toArray]<;>rfl
def rSlL(K:Fg):V->Option Int->Option Int->Hp->VK->Prop:=fun x lo hi H Q=>∃a xs,x= .ref a/\aS K H a xs/\∀p,H p=none->Q (.ref p) (upd H p (.lst (mS xs lo hi)))
theorem b5I:SlR X (rSlL X.K):=by
 intro pins s σ H x v vl vu lo hi sl Q I rx hs pl pu h
 obtain⟨a,xs,rfl,hx,q⟩:=h
 cases rx
 obtain⟨its,r,ht,hz⟩:=I.list hx
 have hlen:=r.length
 refine⟨"list",_,slot_list_getitem.lookup,ht.isList.typeIs,?_⟩
 refine wpAny_getItem_list_slice ht.isList hs pl pu .none (by simp) ?_ (by rw[List.size_toArray]<;>omega)
 rw[b25,<- hlen]
 refine⟨.ref s.heap.objs.size,_,I.laid (t':=s.toks) (o:=.lst (mS xs lo hi)) (fun b ob q=>Heap.get?_push_of_some _ q) (Nat.le_refl _) ?_,rfl,q _ (I.hok.fresh (Nat.le_refl _))⟩
 exact⟨Nat.le_trans (b5H xs lo hi) hz,_,0,(r.drop (HT.sIx xs.length 0 lo)).take (HT.sIx xs.length xs.length hi- HT.sIx xs.length 0 lo),Heap.get?_push_size _ rfl⟩
noncomputable def jH:V->Bool
 | .non=>true
 | .bl _=>true
 | .int _=>true
 | .str _=>true
 |_=>false
noncomputable def hJ:V->V->Bool
 | .non,.non=>true
 | .bl a,.bl b=>a==b
 | .bl a,.int b=>(if a then 1 else 0)==b
 | .int a,.bl b=>a==(if b then 1 else 0)
 | .int a,.int b=>a==b
 | .str a,.str b=>a==b
 |_,_=>false
theorem b5Q{A:Around}{s:Shared}{y x:V}{u v:Value}(ry:aW y u)(rx:aW x v)(fy:jH y=true)(fx:jH x=true):SeqAt.EqAt A s u v (hJ y x):=by
 cases y with
 |non=>
  cases ry
  cases x with
  |non=>cases rx;exact SeqAt.EqAt.same _
  |bl b=>cases rx;exact SeqAt.EqAt.none_bool b
  |int b=>obtain⟨t,rfl⟩:=rx;exact SeqAt.EqAt.none_int b t
  |str b=>obtain⟨t,rfl⟩:=rx;exact SeqAt.EqAt.none_str b t
  |_=>exact absurd (show false=true from fx) Bool.false_ne_true
 |bl a=>
  cases ry
  cases x with
  |non=>cases rx;exact SeqAt.EqAt.bool_none a
  |bl b=>cases rx;exact SeqAt.EqAt.bool_bool a b
  |int b=>obtain⟨t,rfl⟩:=rx;exact SeqAt.EqAt.bool_int a b t
  |str b=>obtain⟨t,rfl⟩:=rx;exact SeqAt.EqAt.bool_str a b t
  |_=>exact absurd (show false=true from fx) Bool.false_ne_true
 |int a=>
  obtain⟨t',rfl⟩:=ry
  cases x with
  |non=>cases rx;exact SeqAt.EqAt.int_none a t'
  |bl b=>cases rx;exact SeqAt.EqAt.int_bool a t' b
  |int b=>obtain⟨t,rfl⟩:=rx;exact SeqAt.EqAt.int_int a t' b t
  |str b=>obtain⟨t,rfl⟩:=rx;exact SeqAt.EqAt.int_str a t' b t
  |_=>exact absurd (show false=true from fx) Bool.false_ne_true
 |str a=>
  obtain⟨t',rfl⟩:=ry
  cases x with
  |non=>cases rx;exact SeqAt.EqAt.str_none a t'
  |bl b=>cases rx;exact SeqAt.EqAt.str_bool a t' b
  |int b=>obtain⟨t,rfl⟩:=rx;exact SeqAt.EqAt.str_int a t' b t
  |str b=>obtain⟨t,rfl⟩:=rx;exact SeqAt.EqAt.str_str a t' b t
  |_=>exact absurd (show false=true from fx) Bool.false_ne_true
 |_=>exact absurd (show false=true from fy) Bool.false_ne_true
noncomputable def fS (x:V) (u:Value):Bool:=match u with
 | .none=>hJ .non x
 | .bool b=>hJ (.bl b) x
 | .int i _=>hJ (.int i) x
 | .str z _=>hJ (.str z) x
 |_=>false
theorem a9M{x y:V}{u:Value}(r:aW y u)(f:jH y=true):fS x u=hJ y x:=by
 cases y with
 |non=>cases r;rfl
 |bl b=>cases r;rfl
 |int i=>obtain⟨t,rfl⟩:=r;rfl
 |str z=>obtain⟨t,rfl⟩:=r;rfl
 |_=>exact absurd (show false=true from f) Bool.false_ne_true
theorem rT{x:V}:∀{xs:List V} {us:List Value},aV xs us->xs.all jH=true->us.any (fS x)=xs.any fun y=>hJ y x
 |_,_,.nil,_=>rfl
 |y::xs,u::us,.cons r t,f=>by
  rw[List.all_cons,Bool.and_eq_true]at f
  rw[List.any_cons,List.any_cons,a9M r f.1,rT t f.2]
theorem qU{A:Around}{s:Shared}{x:V}{v:Value}(rx:aW x v)(fx:jH x=true):∀{xs:List V} {us:List Value},aV xs us->xs.all jH=true->∀u∈us,SeqAt.EqAt A s u v (fS x u)
 |_,_,.nil,_=>fun u hu=>by cases hu
 |y::xs,u::us,.cons r t,f=>fun u' hu=>by
  rw[List.all_cons,Bool.and_eq_true]at f
  rcases List.mem_cons.mp hu with rfl|hu
  ·rw[a9M r f.1];exact b5Q r rx f.1 fx
  ·exact qU rx fx t f.2 u' hu
noncomputable def cB (x:V) (xs:List V):Bool:=xs.any fun y=>hJ y x
noncomputable def vF (K:Fg) (neg:Bool):R2:=fun x y H Q=>∃p xs,y= .ref p/\(aS K H p xs\/ eB K H p xs)/\jH x=true/\xs.all jH=true/\Q (.bl (if neg then !cB x xs else cB x xs)) H
theorem kJ:dE X (compareOp .In) (vF X.K false):=by
 intro pins s σ H x y v u Q I rx ry h
 obtain⟨p,xs,rfl,hq,fx,fs,q⟩:=h
 cases ry
 rcases hq with hq|hq
 ·obtain⟨its,r,pl,hz⟩:=I.list hq
  refine SeqAt.in_listAt (fS x) pl.isList (fun w hw=>qU rx fx r fs w (by simpa using hw)) ⟨.bl _,H,I,rfl,?_⟩
  rw[show its.toArray.any (fS x)=its.any (fS x)by simp,rT r fs]
  exact q
 ·obtain⟨its,r,pl,hz⟩:=I.tuple hq
  refine SeqAt.in_tupleAt (fS x) pl (fun w hw=>qU rx fx r fs w (by simpa using hw)) ⟨.bl _,H,I,rfl,?_⟩
  rw[show its.toArray.any (fS x)=its.any (fS x)by simp,rT r fs]
  exact q
theorem rP:dE X (compareOp .NotIn) (vF X.K true):=by
 intro pins s σ H x y v u Q I rx ry h
 obtain⟨p,xs,rfl,hq,fx,fs,q⟩:=h
 cases ry
 rcases hq with hq|hq
 ·obtain⟨its,r,pl,hz⟩:=I.list hq
  refine SeqAt.notIn_listAt (fS x) pl.isList (fun w hw=>qU rx fx r fs w (by simpa using hw)) ⟨.bl _,H,I,rfl,?_⟩
  rw[show its.toArray.any (fS x)=its.any (fS x)by simp,rT r fs]
  exact q
 ·obtain⟨its,r,pl,hz⟩:=I.tuple hq
  refine SeqAt.notIn_tupleAt (fS x) pl (fun w hw=>qU rx fx r fs w (by simpa using hw)) ⟨.bl _,H,I,rfl,?_⟩
  rw[show its.toArray.any (fS x)=its.any (fS x)by simp,rT r fs]
  exact q
theorem sQ:fO X (.type "list") (fun xs H Q=>∃p ys,xs= [.ref p] /\(aS X.K H p ys\/ eB X.K H p ys)/\∀l,H l=none->Q (.ref l) (upd H l (.lst ys))):=by
 intro pins s σ H xs us Q I r h
 obtain⟨p,ys,rfl,hq,q⟩:=h
 obtain⟨u,rfl,rx⟩:=kD r
 cases rx
 have fin:∀(its:List Value),aV ys its->ys.length<=sizeLine->∀(h':Heap) (c':Nat),(∀b o',s.heap.get? b=some o'->h'.get? b=some o')->
  h'.get? s.heap.objs.size=some {cls:=.type "list",dict:=none,data:=.seq its.toArray c',slots:= #[]} ->EP X pins σ Q (.ref s.heap.objs.size) {s with heap:=h'}:=fun its r' hz h' c' kp e=>
  ⟨.ref s.heap.objs.size,_,I.laid (t':=s.toks) kp (Nat.le_refl _) (show cF X.prog X.w _ h' _ (.lst ys) from⟨hz,its,c',r',e⟩),rfl,q _ (I.hok.fresh (Nat.le_refl _))⟩
 rcases hq with hq|hq
 ·obtain⟨its,r',pl,hz⟩:=I.list hq
  have hlen:=r'.length
  obtain⟨o,ho,hc,n,hd⟩:=pl.isList
  exact call_list_seq p (.inl rfl) ho hc hd (fun h' c' kp e=>fin its r' hz h' c' kp e) (by simp only[List.size_toArray]<;>omega)
 ·obtain⟨its,r',pl,hz⟩:=I.tuple hq
  have hlen:=r'.length
  obtain⟨o,ho,hc,n,hd⟩:=pl
  exact call_list_seq p (.inr rfl) ho hc hd (fun h' c' kp e=>fin its r' hz h' c' kp e) (by simp only[List.size_toArray]<;>omega)
def tyV(K:Fg)(T:String)(x:V)(H:Hp):Prop:=match x with
 | .str _=>T= "str"
 | .int _=>T= "int"
 | .ref p=>(T= "list" /\∃xs,aS K H p xs)\/ (T= "tuple" /\∃o,K.lookup p=some o/\o.cls= .type "tuple" /\o.dict=none)\/
  (T= "dict" /\((∃kvs,H p=some (.dK kvs))\/ ∃kvs,H p=some (.dT kvs)))\/ (T= "set" /\∃S n,H p=some (.set S n))
 |_=>False
theorem b5h{pins:List (Addr×Obj)}{σ:St}{H:Hp}{s:Shared}{T:String}{x:V}{v:Value}(I:aB X pins σ H s)(r:aW x v)(ty:tyV X.K T x H):
 s.TypeIs v T/\∀a,v= .ref a->∃ob,s.heap.get? a=some ob/\ob.dict=none:=by
 cases x with
 |str z=>
  obtain⟨t,rfl⟩:=r
  cases (show T= "str" from ty)
  exact⟨typeIs_str s z t,fun _ e=>nomatch e⟩
 |int i=>
  obtain⟨t,rfl⟩:=r
  cases (show T= "int" from ty)
  exact⟨typeIs_int s i t,fun _ e=>nomatch e⟩
 |ref p=>
  cases r
  rcases ty with⟨rfl,xs,hq⟩|⟨rfl,o,hk,hc,hd⟩|⟨rfl,hk⟩|⟨rfl,S,n,hk⟩
  ·obtain⟨its,_,pl,_⟩:=I.list hq
   refine⟨pl.isList.typeIs,fun a e=> ?_⟩
   cases e
   obtain⟨o,n,e,c,hd,_⟩:=pl
   exact⟨o,e,hd⟩
  ·refine⟨⟨o,I.kIn p o hk,hc⟩,fun a e=> ?_⟩
   cases e
   exact⟨o,I.kIn _ o hk,hd⟩
  ·have z:∃o,s.heap.get? p=some o/\o.ExactDict:=by
    rcases hk with⟨kvs,hk⟩|⟨kvs,hk⟩
    ·obtain⟨_,_,_,_,o,_,_,e,ex,_⟩:=I.hok p _ hk
     exact⟨o,e,ex⟩
    ·obtain⟨_,_,_,_,o,_,_,e,ex,_⟩:=I.hok p _ hk
     exact⟨o,e,ex⟩
   obtain⟨o,e,ex⟩:=z
   refine⟨⟨o,e,ex.1⟩,fun a e2=> ?_⟩
   cases e2
   exact⟨o,e,ex.2.1⟩
  ·obtain⟨o,_,_,_,e,ex,_⟩:=I.hok p _ hk
   refine⟨⟨o,e,ex.1⟩,fun a e2=> ?_⟩
   cases e2
   exact⟨o,e,ex.2.1⟩
 |_=>exact False.elim ty
def tBM(K:Fg)(T:String)(r:V->List V->Hp->VK->Prop)(to:TE)(t:TA):TE:=fun σ H Q=>to σ H fun x H1=>tyV K T x H1/\t σ H1 fun xs H2=>r x xs H2 Q
variable{o e:Expr}{es:List Expr}{to:TE}{t:TA}{name:Str}{apos cpos:Pos}{T id:String}{r:V->List V->Hp->VK->Prop}
theorem b1t(pa:PlainAttrs T)(slot:Slot T name id)(hty:typeOf (.builtin id)=pure (.type "method_descriptor"))(hm:MtR X id r)(ho:PE X o to)(ha:PA X (e::es) t)
 (hbase:attributeBase o name X.env (eval o X.env)=eval o X.env:=by rfl)
 (hfew:((backTo cpos (starEach (e::es) X.env)).all (fun x=> !x.1)&&(backToKw cpos (keywordEach [] X.env)).all (fun x=>x.1.isSome)
  &&decide ((e::es).length+ ([]:List Keyword).length+ (if([]:List Keyword).isEmpty then 0 else 1)<30))=true:=by rfl)
 (hline:(apos.endLine==cpos.line)=true:=by rfl)(hs:starEach (e::es) X.env=(false,eval e X.env)::starEach es X.env:=by rfl)(hplain:(backTo cpos (starEach es X.env)).any (·.1)=false:=by rfl):
 PE X (.Call (.Attribute o name apos) (e::es) [] cpos) (tBM X.K T r to t):=by
 intro pins s σ H Q I h
 refine wpAny_Call_method_late hbase hfew hline rfl (aN (ho pins s σ H _ I h) fun v s1 ⟨x,H1,I1,r1,ty,q1⟩=> ?_)
 obtain⟨h1,h2⟩:=b5h I1 r1 ty
 refine⟨T,id,pa,slot,hty,h1,h2,?_⟩
 have hA:=ha cpos pins s1 σ H1 _ I1 q1
 rw[hs]at hA|-
 refine Calls.callWith_builtin (by show(false||(backTo cpos (starEach es X.env)).any (·.1))=false;rw[hplain]<;>rfl) (Calls.evalArgs_plain ?_)
 exact aN hA fun us s2 ⟨vs,H2,I2,r2,q2⟩=>hm pins s2 σ H2 x vs v us Q I2 r1 r2 q2
end
def MtM(X:Cx)(id:String)(r:V->List V->Hp->VK->Prop):Prop:=
 ∀(pins:List (Addr×Obj)) (s:Shared) (σ:St) (H:Hp) (x:V) (xs:List V) (v:Value) (us:List Value) (Q:VK),aB X pins σ H s->aW x v->aV xs us->r x xs H Q->
  wpAny (model X.prog X.w) X.A (call (.builtin id) (v::us)) (EP X pins σ Q) X.xe s
theorem aV.one:∀{x:V} {us:List Value},aV [x] us->∃u,us= [u] /\aW x u
 |_,_,.cons r .nil=>⟨_,rfl,r⟩
theorem aV.two:∀{x y:V} {us:List Value},aV [x,y] us->∃u v,us= [u,v] /\aW x u/\aW y v
 |_,_,_,.cons r (.cons q .nil)=>⟨_,_,rfl,r,q⟩
section
variable{X:Cx}{pins:List (Addr×Obj)}{σ:St}{H:Hp}{s:Shared}{l b:Addr}{xs ys zs:List V}
theorem aB.lset{its its':List Value}{n:Nat}{f:Array Value->Array Value}{t':Nat}(I:aB X pins σ H s)(hH:H l=some (.lst xs))
 (e:s.heap.get? l=some {cls:=.type "list",data:=.seq its.toArray n})(hf:f its.toArray=its'.toArray)(hv:aV ys its')(hz:ys.length<=sizeLine):
 aB X pins σ (upd H l (.lst ys)) {s with heap:=s.heap.update l (Obj.mapSeq f),toks:=t'}:=by
 have q:=PySem.IsL.update e f
 rw[hf]at q
 refine I.write (x:=l) (e:=l) (by rw[hH];exact trivial) (.inl rfl) (fun b' u hb hu=>(Heap.get?_update_other s.heap (Obj.mapSeq f) (Ne.symm hb)).trans hu) ⟨_,q⟩ ?_
 exact⟨hz,its',_,hv,q⟩
theorem aB.lnew{its:List Value}{t':Nat}(I:aB X pins σ H s)(hv:aV ys its)(hz:ys.length<=sizeLine):
 aB X pins σ (upd H s.heap.objs.size (.lst ys)) {s with heap:=s.heap.push {cls:=.type "list",data:=.seq its.toArray},toks:=t'}:=
 I.laid (fun _ _ q=>Heap.get?_push_of_some _ q) (Nat.le_refl _) ⟨hz,its,0,hv,Heap.get?_push_size _ rfl⟩
theorem aB.fresh(I:aB X pins σ H s):H s.heap.objs.size=none:=I.hok.fresh (Nat.le_refl _)
theorem aB.lstM(I:aB X pins σ H s)(hH:H l=some (.lst xs)):xs.length<=sizeLine/\∃(its:List Value) (n:Nat),aV xs its/\xs.length=its.length/\s.heap.get? l=some {cls:=.type "list",data:=.seq its.toArray n}:=by
 obtain⟨z,its,n,r,e⟩:=I.hok l _ hH
 exact⟨z,its,n,r,r.length,e⟩
theorem b37{n:Nat}(h:n<=sizeLine):Builtin.List.listTooLong n=false:=by
 unfold Builtin.List.listTooLong
 exact decide_eq_false (by omega)
end
section
variable{X:Cx}
def b2R:V->List V->Hp->VK->Prop:=fun x vs H Q=>∃l xs y,x= .ref l/\vs= [y] /\H l=some (.lst xs)/\xs.length<sizeLine/\Q .non (upd H l (.lst (xs++ [y])))
theorem uS:MtM X "list.append" b2R:=by
 intro pins s σ H x vs v us Q I rx rv h
 obtain⟨l,xs,y,rfl,rfl,hH,hz,q⟩:=h
 cases rx
 obtain⟨u,rfl,ru⟩:=rv.one
 obtain⟨z,its,n,r,hl,e⟩:=I.lstM hH
 refine call_meets F.slot_list_append ⟨_,e,rfl⟩ F.entry_list_append (F.args_list_append_2 _ _) (PySem.list_append l its.toArray n u (by rw[List.size_toArray];omega)) ⟨e,?_⟩
 refine⟨.non,_,I.lset (its':=its++ [u]) hH e (by simp) (r.append (.cons ru .nil)) ?_,rfl,q⟩
 rw[List.length_append,List.length_singleton]
 omega
def b3p:V->List V->Hp->VK->Prop:=fun x vs H Q=>∃l b xs zs,x= .ref l/\vs= [.ref b] /\H l=some (.lst xs)/\H b=some (.lst zs)/\xs.length+ zs.length<=sizeLine/\Q .non (upd H l (.lst (xs++ zs)))
theorem mt_extend:MtM X "list.extend" b3p:=by
 intro pins s σ H x vs v us Q I rx rv h
 obtain⟨l,b,xs,zs,rfl,rfl,hH,hB,hz,q⟩:=h
 cases rx
 obtain⟨u,rfl,ru⟩:=rv.one
 cases ru
 obtain⟨z,its,n,r,hl,e⟩:=I.lstM hH
 obtain⟨z2,its2,n2,r2,hl2,e2⟩:=I.lstM hB
 have hsz:its.toArray.size+ its2.toArray.size<=sizeLine:=by rw[List.size_toArray,List.size_toArray];omega
 have hlong:¬(!its.toArray.isEmpty&&Builtin.List.listTooLong (its.toArray.size+ its2.toArray.size))=true:=by
  rw[b37 hsz,Bool.and_false]
  exact Bool.false_ne_true
 refine call_meets F.slot_list_extend ⟨_,e,rfl⟩ F.entry_list_extend (F.args_list_extend_2 _ _)
  (AutoSeq1.list_extend_list_list_0 l its.toArray n b its2.toArray n2 hlong (by rw[List.size_toArray];omega) (by omega)) ⟨e,e2,?_⟩
 refine⟨.non,_,I.lset (its':=its++ its2) hH e (by simp) (r.append r2) ?_,rfl,q⟩
 rw[List.length_append]
 omega
noncomputable def rCat:R2:=fun x y H Q=>∃l b xs zs,x= .ref l/\y= .ref b/\H l=some (.lst xs)/\H b=some (.lst zs)/\xs.length+ zs.length<=sizeLine/\∀p,H p=none->Q (.ref p) (upd H p (.lst (xs++ zs)))
theorem gY:dE X (binaryOp .Add) rCat:=by
 intro pins s σ H x y v u Q I rx ry h
 obtain⟨l,b,xs,zs,rfl,rfl,hH,hB,hz,q⟩:=h
 cases rx
 cases ry
 obtain⟨z,its,n,r,hl,e⟩:=I.lstM hH
 obtain⟨z2,its2,n2,r2,hl2,e2⟩:=I.lstM hB
 refine PySem.P.add_list e e2 ?_ (by rw[List.size_toArray,List.size_toArray];omega)
 have ea:its.toArray++ its2.toArray=(its++ its2).toArray:=by simp
 rw[ea]
 exact⟨.ref _,_,I.lnew (t':=s.toks) (r.append r2) (by rw[List.length_append];omega),rfl,q _ I.fresh⟩
end
section
variable{κ:Type} [DecidableEq κ]
def cE(kvs:List (κ×V))(k:κ):Option V:=(kvs.find? fun kv=>decide (kv.1=k)).map (·.2)
noncomputable def cC (kvs:List (κ×V)) (k:κ) (v:V):List (κ×V):=
 if(kvs.any fun kv=>decide (kv.1=k))=true then kvs.map (fun kv=>if kv.1=k then(kv.1,v) else kv) else kvs++ [(k,v)]
theorem a4N{p:κ×V}{r:List (κ×V)}{k:κ}(e:p.1=k):cE (p::r) k=some p.2:=by simp[cE,List.find?_cons,e]
theorem lD{p:κ×V}{r:List (κ×V)}{k:κ}(e:¬p.1=k):cE (p::r) k=cE r k:=by simp[cE,List.find?_cons,e]
theorem a9O(k:κ):∀kvs:List (κ×V),(kvs.any fun kv=>decide (kv.1=k))=(cE kvs k).isSome
 | []=>rfl
 |p::r=>by
  rw[List.any_cons]
  by_cases e:p.1=k
  ·simp only[a4N e,decide_eq_true e,Bool.true_or,Option.isSome_some]
  ·rw[lD e,decide_eq_false e,Bool.false_or];exact a9O k r
theorem xU(kvs:List (κ×V))(k:κ)(v:V):(cC kvs k v).length<=kvs.length+ 1:=by
 unfold cC
 split
 ·rw[List.length_map];omega
 ·rw[List.length_append,List.length_cons,List.length_nil];omega
theorem fF.isSome_eq{o:Option V}{u:Option Value}(r:fF o u):o.isSome=u.isSome:=by
 cases o with
 |none=>cases u with
  |none=>rfl
  |some _=>exact(show False from r).elim
 |some _=>cases u with
  |none=>exact(show False from r).elim
  |some _=>rfl
theorem KV.val{kvs:List (κ×V)}{vs:List (κ×Value)}(r:KV kvs vs)(k:κ):fF (cE kvs k) (valueAt vs k):=by
 unfold KV at r
 induction r with
 |nil=>exact True.intro
 | @cons p q ps qs h t ih=>
  obtain⟨h1,h2⟩:=h
  by_cases e:p.1=k
  ·have e':q.1=k:=h1.symm.trans e
   have b:valueAt (q::qs) k=some q.2:=by simp[valueAt,List.find?_cons,e']
   rw[a4N e,b];exact h2
  ·have e':¬q.1=k:=fun z=>e (h1.trans z)
   have b:valueAt (q::qs) k=valueAt qs k:=by simp[valueAt,List.find?_cons,e']
   rw[lD e,b];exact ih
theorem KV.any{kvs:List (κ×V)}{vs:List (κ×Value)}(r:KV kvs vs)(k:κ):(kvs.any fun kv=>decide (kv.1=k))=vs.any fun kv=>decide (kv.1=k):=by
 unfold KV at r
 induction r with
 |nil=>rfl
 |cons h t ih=>rw[List.any_cons,List.any_cons,ih,h.1]
theorem KV.repl{kvs:List (κ×V)}{vs:List (κ×Value)}(r:KV kvs vs)(k:κ){y:V}{u:Value}(ry:aW y u):
 KV (kvs.map fun kv=>if kv.1=k then(kv.1,y) else kv) (vs.map fun kv=>if kv.1=k then(kv.1,u) else kv):=by
 unfold KV at r|-
 induction r with
 |nil=>exact .nil
 | @cons p q ps qs h t ih=>
  rw[List.map_cons,List.map_cons]
  refine .cons ?_ ih
  obtain⟨h1,h2⟩:=h
  by_cases e:p.1=k
  ·rw[if_pos e,if_pos (h1.symm.trans e)];exact⟨h1,ry⟩
  ·rw[if_neg e,if_neg (fun z=>e (h1.trans z))];exact⟨h1,h2⟩
theorem KV.put{kvs:List (κ×V)}{vs:List (κ×Value)}(r:KV kvs vs)(k:κ){y:V}{u:Value}(ry:aW y u):KV (cC kvs k y) (stored vs k u):=by
 unfold cC stored
 rw[r.any k]
 by_cases e:(vs.any fun kv=>decide (kv.1=k))=true
 ·rw[if_pos e,if_pos e];exact r.repl k ry
 ·rw[if_neg e,if_neg e];exact Paired.snoc r ⟨rfl,ry⟩
theorem KV.length{kvs:List (κ×V)}{vs:List (κ×Value)}(r:KV kvs vs):kvs.length=vs.length:=Paired.length r
end
theorem mC{P:Program}{w:World}{k:aI}{u:Value}(r:aW (kV k) u):(fG P w).is k u=true:=by
 cases k with
 |inl i=>obtain⟨t,e⟩:=(show∃t,u=Value.int i t from r);subst e;exact b2X P w i t
 |inr x=>obtain⟨t,e⟩:=(show∃t,u=Value.str x t from r);subst e;exact b3Q P w x t
theorem a9S{P:Program}{w:World}:∀{ks:List aI} {us:List Value},aV (ks.map kV) us->ItemsAre (fG P w) ks us
 | [],_,r=>by rw[List.map_nil]at r;cases r;exact .nil
 |k::ks,_,r=>by
  rw[List.map_cons]at r
  cases r with
  |cons h t=>exact .cons (mC h) (a9S t)
abbrev KT(H:Hp):List (List aI×V)->List (List aI×Addr×Value)->Prop:=Paired fun p q=>p.1=q.1/\H q.2.1=some (.tup (p.1.map kV))/\aW p.2 q.2.2
theorem KT.val{H:Hp}{kvs:List (List aI×V)}{xs:List (List aI×Addr×Value)}(r:KT H kvs xs)(k:List aI):fF (cE kvs k) ((atKey xs k).map (·.2)):=by
 induction r with
 |nil=>exact True.intro
 | @cons p q ps qs h t ih=>
  obtain⟨h1,_,h2⟩:=h
  by_cases e:p.1=k
  ·have e':q.1=k:=h1.symm.trans e
   have b:atKey (q::qs) k=some q.2:=by simp[atKey,List.find?_cons,e']
   rw[a4N e,b];exact h2
  ·have e':¬q.1=k:=fun z=>e (h1.trans z)
   have b:atKey (q::qs) k=atKey qs k:=by simp[atKey,List.find?_cons,e']
   rw[lD e,b];exact ih
theorem KT.repl{H:Hp}{kvs:List (List aI×V)}{xs:List (List aI×Addr×Value)}(r:KT H kvs xs)(k:List aI){y:V}{u:Value}(ry:aW y u):
 KT H (kvs.map fun kv=>if kv.1=k then(kv.1,y) else kv) (xs.map (putAt k u)):=by
 induction r with
 |nil=>exact .nil
 | @cons p q ps qs h t ih=>
  rw[List.map_cons,List.map_cons]
  refine .cons ?_ ih
  obtain⟨h1,h2,h3⟩:=h
  unfold putAt
  by_cases e:p.1=k
  ·rw[if_pos e,if_pos (h1.symm.trans e)];exact⟨h1,h2,ry⟩
  ·rw[if_neg e,if_neg (fun z=>e (h1.trans z))];exact⟨h1,h2,h3⟩
theorem KT.put{H:Hp}{kvs:List (List aI×V)}{xs:List (List aI×Addr×Value)}(r:KT H kvs xs)(k:List aI){b:Addr}{y:V}{u:Value}(hb:H b=some (.tup (k.map kV)))(ry:aW y u):
 KT H (cC kvs k y) (storedH xs k b u):=by
 have e:(kvs.any fun kv=>decide (kv.1=k))=(atKey xs k).isSome:=by
  rw[a9O,(r.val k).isSome_eq,Option.isSome_map]
 unfold cC storedH
 rw[e]
 by_cases q:(atKey xs k).isSome=true
 ·rw[if_pos q,if_pos q];exact r.repl k ry
 ·rw[if_neg q,if_neg q];exact Paired.snoc r ⟨rfl,hb,ry⟩
theorem KT.keeps{H H':Hp}{kvs:List (List aI×V)}{xs:List (List aI×Addr×Value)}(r:KT H kvs xs)(ht:∀b ys,H b=some (.tup ys)->H' b=some (.tup ys)):KT H' kvs xs:=
 Paired.mapP r fun _ _ z=>⟨z.1,ht _ _ z.2.1,z.2.2⟩
section
variable{P:Program}{w:World}{H:Hp}{h:Heap}{a:Addr}
theorem b1l{u:HO}(ok:bY P w H h)(e:Rd H a u):cF P w H h a u:=e.ok ok
theorem mZ{kvs:List (aI×V)}(ok:bY P w H h)(e:Rd H a (.dK kvs)):kvs.length<=sizeLine/\(a==sysModules)=false/\∃vs,KV kvs vs/\h.DictOf (fG P w) a vs:=
 show cF P w H h a (.dK kvs) from b1l ok e
theorem a9s{kvs:List (aI×V)}(ok:bY P w H h)(e:H a=some (.dK kvs)):kvs.length<=sizeLine/\(a==sysModules)=false/\∃vs,KV kvs vs/\h.DictOf (fG P w) a vs:=mZ ok (.inl e)
theorem nR{ks:List aI}(ok:bY P w H h)(e:H a=some (.tup (ks.map kV))):(tupleKind (fG P w)).is h ks a:=by
 obtain⟨_,its,r,o,h1,h2,n,h3⟩:=(show cF P w H h a (.tup (ks.map kV)) from ok a _ e)
 exact⟨o,its.toArray,n,h1,h2,h3,by simpa using a9S r⟩
theorem rV{kvs:List (List aI×V)}(ok:bY P w H h)(e:Rd H a (.dT kvs)):kvs.length<=sizeLine/\(a==sysModules)=false/\
 ∃xs,KT H kvs xs/\h.DictOfH (tupleKind (fG P w)) a xs:=by
 obtain⟨z,y,xs,r,o,es,ep,h1,h2,h3,h4,h5⟩:=(show cF P w H h a (.dT kvs) from b1l ok e)
 refine⟨z,y,xs,r,o,es,ep,h1,h2,h3,h4,fun x hx=> ?_,h5⟩
 have all:∀{l:List (List aI×V)} {m:List (List aI×Addr×Value)},KT H l m->∀x∈m,(tupleKind (fG P w)).is h x.1 x.2.1:=by
  intro l m q
  induction q with
  |nil=>intro x hx;exact nomatch hx
  | @cons p q ps qs hq t ih=>
   intro x hx
   rcases List.mem_cons.mp hx with e|hx
   ·subst e
    exact nR ok (by rw[<- hq.1];exact hq.2.1)
   ·exact ih x hx
 exact all r x hx
theorem b57{kvs:List (List aI×V)}(ok:bY P w H h)(e:H a=some (.dT kvs)):kvs.length<=sizeLine/\(a==sysModules)=false/\
 ∃xs,KT H kvs xs/\h.DictOfH (tupleKind (fG P w)) a xs:=rV ok (.inl e)
end
def cP(H:Hp)(a:Addr)(y:V)(r:Option V):Prop:=
 (∃kvs k,Rd H a (.dK kvs)/\y=kV k/\r=cE kvs k)\/ ∃kvs k b,Rd H a (.dT kvs)/\y= .ref b/\H b=some (.tup (k.map kV))/\r=cE kvs k
def lX(H:Hp)(a:Addr)(y v:V)(H':Hp):Prop:=
 (∃kvs k,H a=some (.dK kvs)/\y=kV k/\kvs.length<sizeLine/\H'=upd H a (.dK (cC kvs k v)))\/
 ∃kvs k b,H a=some (.dT kvs)/\y= .ref b/\H b=some (.tup (k.map kV))/\kvs.length<sizeLine/\H'=upd H a (.dT (cC kvs k v))
theorem cP.k{H:Hp}{a:Addr}{kvs:List (aI×V)}{k:aI}(e:H a=some (.dK kvs)):cP H a (kV k) (cE kvs k):=.inl ⟨kvs,k,.inl e,rfl,rfl⟩
theorem lX.k{H:Hp}{a:Addr}{kvs:List (aI×V)}{k:aI}{v:V}(e:H a=some (.dK kvs))(hl:kvs.length<sizeLine):lX H a (kV k) v (upd H a (.dK (cC kvs k v))):=.inl ⟨kvs,k,e,rfl,hl,rfl⟩
section
variable{X:Cx}{pins:List (Addr×Obj)}{σ:St}{H:Hp}{s:Shared}{a:Addr}{y v:V}{u r:Value}{o:Option V}{A:Around}{E:Value->Shared->Prop}
theorem aB.big(I:aB X pins σ H s):sysModules<s.heap.objs.size:=by
 have h:mainGlobals<s.heap.objs.size:=(I.mod.glob.keeps I.bk).lt
 exact Nat.lt_trans (by decide) h
theorem b5i{Q:Value->Shared->Prop}(hu:A.units+ 1<cLine)(I:aB X pins σ H s)(g:cP H a y (some v))(ry:aW y u)(h:∀w' s',aB X pins σ H s'->aW v w'->Q w' s'):
 wpAny (model X.prog X.w) A (getItem (.ref a) u) Q E s:=by
 rcases g with⟨kvs,k,e,ey,l⟩|⟨kvs,k,b,e,ey,eb,l⟩
 ·subst ey
  obtain⟨z,hd,vs,rel,dd⟩:=mZ I.hok e
  obtain⟨w',hw,rw'⟩:=fF.some_of (v:=v) (o:=valueAt vs k) (by rw[l];exact rel.val k)
  exact wpAny_getItem_of (mC ry) dd.mapOf hw (h w' _ (I.tok _) rw')
 ·subst ey
  cases (show u=Value.ref b from ry)
  obtain⟨z,hd,xs,rel,dd⟩:=rV I.hok e
  obtain⟨w',hw,rw'⟩:=fF.some_of (v:=v) (o:=(atKey xs k).map (·.2)) (by rw[l];exact rel.val k)
  obtain⟨p,hp,hp2⟩:=Option.map_eq_some_iff.mp hw
  refine wpAny_getItem_heap (tupleKind_room_in1 hu) (nR I.hok eb) dd hp ?_
  rw[hp2]
  exact h w' _ (I.tok _) rw'
theorem d_in{Q:Value->Shared->Prop}(hu:A.units+ 1<cLine)(I:aB X pins σ H s)(g:cP H a y o)(ry:aW y u)(h:∀s',aB X pins σ H s'->Q (.bool o.isSome) s'):
 wpAny (model X.prog X.w) A (compareOp .In u (.ref a)) Q E s:=by
 rcases g with⟨kvs,k,e,ey,l⟩|⟨kvs,k,b,e,ey,eb,l⟩
 ·subst ey
  obtain⟨z,hd,vs,rel,dd⟩:=mZ I.hok e
  refine wpAny_in_of (mC ry) hd dd.mapOf ?_
  rw[<- (rel.val k).isSome_eq,<- l]
  exact h _ (I.tok _)
 ·subst ey
  cases (show u=Value.ref b from ry)
  obtain⟨z,hd,xs,rel,dd⟩:=rV I.hok e
  refine wpAny_in_heap (tupleKind_room_in1 hu) (nR I.hok eb) hd dd ?_
  have q:=(rel.val k).isSome_eq
  rw[Option.isSome_map]at q
  rw[<- q,<- l]
  exact h _ (I.tok _)
theorem b6y{Q:Value->Shared->Prop}(hu:A.units+ 1<cLine)(I:aB X pins σ H s)(g:cP H a y o)(ry:aW y u)(h:∀s',aB X pins σ H s'->Q (.bool (!o.isSome)) s'):
 wpAny (model X.prog X.w) A (compareOp .NotIn u (.ref a)) Q E s:=by
 rcases g with⟨kvs,k,e,ey,l⟩|⟨kvs,k,b,e,ey,eb,l⟩
 ·subst ey
  obtain⟨z,hd,vs,rel,dd⟩:=mZ I.hok e
  refine wpAny_notIn_of (mC ry) hd dd.mapOf ?_
  rw[<- (rel.val k).isSome_eq,<- l]
  exact h _ (I.tok _)
 ·subst ey
  cases (show u=Value.ref b from ry)
  obtain⟨z,hd,xs,rel,dd⟩:=rV I.hok e
  refine wpAny_notIn_heap (tupleKind_room_in1 hu) (nR I.hok eb) hd dd ?_
  have q:=(rel.val k).isSome_eq
  rw[Option.isSome_map]at q
  rw[<- q,<- l]
  exact h _ (I.tok _)
theorem wY{h':Heap}{t':Nat}{ob:HO}(I:aB X pins σ H s)(mu:qM (H a))(hs:Heap.SameBut a s.heap h')(he:∃q,h'.get? a=some q)(new:cF X.prog X.w (upd H a ob) h' a ob):
 aB X pins σ (upd H a ob) {s with heap:=h',toks:=t'}:=
 I.write (x:=a) (e:=a) mu (.inl rfl) (fun b q hb z=>(hs.2 b hb).trans z) he new
theorem a9p{P:Program}{w:World}{H':Hp}{h':Heap}{kvs:List (aI×V)}{vs:List (aI×Value)}(z:kvs.length<=sizeLine)(hd:(a==sysModules)=false)(rel:KV kvs vs)(dd:h'.DictOf (fG P w) a vs):
 cF P w H' h' a (.dK kvs):=⟨z,hd,vs,rel,dd⟩
theorem b4T{H':Hp}{Q:Unit->Shared->Prop}(hu:A.units+ 1<cLine)(I:aB X pins σ H s)(g:lX H a y v H')(ry:aW y u)(rv:aW v r)(h:∀s',aB X pins σ H' s'->Q () s'):
 wpAny (model X.prog X.w) A (setItem (.ref a) u r) Q E s:=by
 rcases g with⟨kvs,k,e,ey,l,eH⟩|⟨kvs,k,b,e,ey,eb,l,eH⟩
 ·subst ey eH
  obtain⟨z,hd,vs,rel,dd⟩:=a9s I.hok e
  have hz:vs.length<=sizeLine:=by rw[<- rel.length];exact z
  have hl:(cC kvs k v).length<=sizeLine:=by have:=xU kvs k v;omega
  refine wpAny_setItem_pairs (hsz:=hz) (mC ry) dd fun h' dd' hs=>h _ ?_
  have he:∃q,h'.get? a=some q:=let ⟨q,_,_,hq,_⟩:=dd';⟨q,hq⟩
  exact wY I (by rw[e];exact True.intro) hs he (a9p hl hd (rel.put k rv) dd')
 ·subst ey eH
  cases (show u=Value.ref b from ry)
  obtain⟨z,hd,xs,rel,dd⟩:=b57 I.hok e
  have hz:xs.length<=sizeLine:=by rw[<- Paired.length rel];exact z
  have hl:(cC kvs k v).length<=sizeLine:=by have:=xU kvs k v;omega
  refine wpAny_setItem_heap (hsz:=hz) (tupleKind_room_in1 hu) (nR I.hok eb) dd fun h' dd' hs=>h _ ?_
  obtain⟨q,es,ep,hq,h2,h3,h4,_,h5⟩:=dd'
  refine wY I (by rw[e];exact True.intro) hs ⟨q,hq⟩ ⟨hl,hd,_,(rel.put k eb rv).keeps fun c ys ec=> ?_,q,es,ep,hq,h2,h3,h4,h5⟩
  rw[aH (b27 ec e (fun z=>nomatch z))]
  exact ec
end
section
variable{X:Cx}{pins:List (Addr×Obj)}{σ:St}{H:Hp}{s:Shared}{a:Addr}{kvs:List (aI×V)}{k:aI}{u:Value}{A:Around}{E:Value->Shared->Prop}
theorem b4p{Q:Value->Shared->Prop}(I:aB X pins σ H s)(e:Rd H a (.dK kvs))(h:∀t s',aB X pins σ H s'->Q (.int kvs.length t) s'):wpAny (model X.prog X.w) A (call (.builtin "len") [.ref a]) Q E s:=by
 obtain⟨z,hd,vs,rel,dd⟩:=mZ I.hok e
 refine call_len_dict hd dd (by rw[<- rel.length];rw[sizeLine_eq]at z;omega) ?_
 rw[<- rel.length]
 exact h _ _ (I.tok _)
end
def NoSl(i:Expr):Prop:=∀ov iv,subscripted i false ov iv=operate [ov,iv] (getItem ov iv)
theorem b4t{prog:Program}{w:World}{A:Around}{E:Value->Shared->Prop}{s:Shared}{env:Env}{value slice:Expr}{pos:Pos}{T id:String}{Q:Value->Shared->Prop}
 (hl:typeLookup (.type T) "__getitem__"=pure (some (.builtin id)))(hs:NoSl slice)
 (h:wpAny (model prog w) A (eval value env) (fun o s₁=>wpAny (model prog w) A (eval slice env) (fun i s₂=>s₂.TypeIs o T/\wpAny (model prog w) A (getItem o i) Q E s₂) E s₁) E s):
 wpAny (model prog w) A (eval (.Subscript value slice pos) env) Q E s:=by
 refine Subscript_ (wpAny_mono h (fun o s₁ h₁=>wpAny_mono h₁ (fun i s₂ h₂=> ?_) fun _ _ x=>x) fun _ _ x=>x)
 obtain⟨hT,h₂⟩:=h₂
 unfold subscriptTail
 refine wpAny_bind ?_
 rw[getitemInPython_of_ne hT.not_modules]
 refine wpAny_bind (wpAny_specialOf hT hl ?_)
 have fin:wpAny (model prog w) A (subscripted slice false o i) (fun r s₃=>wpAny (model prog w) A (letTemporaryGo value o r>>=fun _=>pure r) Q E s₃) E s₂:=by
  rw[hs o i]
  exact wpAny_operating (wpAny_mono h₂ (fun r s₃ h₃=>wpAny_bind (wpAny_letTemporaryGo (wpAny_pure h₃))) fun _ _ x=>x)
 first
  |exact wpAny_pure (wpAny_bind fin)
  |exact wpAny_bind (wpAny_pure (wpAny_bind fin))
  |exact wpAny_bind fin
theorem b2b{X:Cx}{pins:List (Addr×Obj)}{σ:St}{H:Hp}{s:Shared}{a:Addr}{y:V}{o:Option V}(I:aB X pins σ H s)(g:cP H a y o):s.TypeIs (.ref a) "dict":=by
 rcases g with⟨kvs,k,e,_,_⟩|⟨kvs,k,b,e,_,_,_⟩
 ·obtain⟨_,_,vs,_,dd⟩:=mZ I.hok e
  exact dd.typeIs
 ·obtain⟨_,_,xs,_,dd⟩:=rV I.hok e
  exact dd.typeIs
def b1L(td ty:TE):TE:=fun σ H Q=>td σ H fun x H1=>ty σ H1 fun y H2=>∃a v,x= .ref a/\cP H2 a y (some v)/\Q v H2
def tDIn(ty td:TE):TE:=fun σ H Q=>ty σ H fun y H1=>td σ H1 fun x H2=>∃a o,x= .ref a/\cP H2 a y o/\Q (.bl o.isSome) H2
def b2V(ty td:TE):TE:=fun σ H Q=>ty σ H fun y H1=>td σ H1 fun x H2=>∃a o,x= .ref a/\cP H2 a y o/\Q (.bl (!o.isSome)) H2
def b5j(td ty tv:TE):TS:=fun D σ H=>tv σ H fun v H1=>td σ H1 fun x H2=>ty σ H2 fun y H3=>∃a H4,x= .ref a/\lX H3 a y v H4/\D.nx σ H4
section
variable{X:Cx}{o i e value:Expr}{pos pos' tpos:Pos}{td ty tv:TE}
theorem gZ(hu:X.A.units+ 1<cLine)(ho:PE X o td)(hi:PE X i ty)(hs:NoSl i):PE X (.Subscript o i pos) (b1L td ty):=by
 intro pins s σ H Q I h
 refine b4t PySem.F.slot_dict_getitem.lookup hs (aN (ho pins s σ H _ I h) fun u s1 ⟨x,H1,I1,rx,q1⟩=>aN (hi pins s1 σ H1 _ I1 q1) fun iv s2 ⟨y,H2,I2,ry,a,v,ex,g,q2⟩=> ?_)
 subst ex
 obtain rfl:u=Value.ref a:=rx
 exact⟨b2b I2 g,b5i hu I2 g ry fun w' s3 I3 rw'=>⟨v,H2,I3,rw',q2⟩⟩
theorem a5N(hu:X.A.units+ 1<cLine)(hi:PE X i ty)(ho:PE X o td):PC X .In i o (tDIn ty td):=by
 intro pins s σ H Q I h
 refine aN (hi pins s σ H _ I h) fun iv s1 ⟨y,H1,I1,ry,q1⟩=>aN (ho pins s1 σ H1 _ I1 q1) fun u s2 ⟨x,H2,I2,rx,a,ov,ex,g,q2⟩=> ?_
 subst ex
 obtain rfl:u=Value.ref a:=rx
 exact d_in hu I2 g ry fun s3 I3=>⟨.bl ov.isSome,H2,I3,rfl,q2⟩
theorem oQ(hu:X.A.units+ 1<cLine)(hi:PE X i ty)(ho:PE X o td):PC X .NotIn i o (b2V ty td):=by
 intro pins s σ H Q I h
 refine aN (hi pins s σ H _ I h) fun iv s1 ⟨y,H1,I1,ry,q1⟩=>aN (ho pins s1 σ H1 _ I1 q1) fun u s2 ⟨x,H2,I2,rx,a,ov,ex,g,q2⟩=> ?_
 subst ex
 obtain rfl:u=Value.ref a:=rx
 exact b6y hu I2 g ry fun s3 I3=>⟨.bl (!ov.isSome),H2,I3,rfl,q2⟩
theorem b0m(hu:X.A.units+ 1<cLine)(ho:PE X o td)(hi:PE X i ty)(hv:PE X value tv)(hs:swapsWith value (some (.Subscript o i pos')) pos.line X.env=pure false):
 PS X (.Assign [.Subscript o i pos'] value pos) (b5j td ty tv):=by
 intro pins s σ H D I h
 refine wpAny_Assign_Subscript (aN (hv pins s σ H _ I h) fun r s1 ⟨v,H1,I1,rv,q1⟩=>aN (ho pins s1 σ H1 _ I1 q1) fun u s2 ⟨x,H2,I2,rx,q2⟩=>aN (hi pins s2 σ H2 _ I2 q2) fun iv s3 ⟨y,H3,I3,ry,a,H4,ex,g,q3⟩=> ?_) hs
 subst ex
 obtain rfl:u=Value.ref a:=rx
 exact b4T hu I3 g ry rv fun s4 I4=>⟨σ,H4,I4,q3⟩
end
theorem b0L{P:Program}{w:World}{H:Hp}(h:Heap)(hb:sysModules<h.objs.size):cF P w H (h.push {cls:=.type "dict",data:=.dict #[]}) h.objs.size (.dK []):=
 ⟨Nat.zero_le _,beq_eq_false_iff_ne.mpr (Ne.symm (Nat.ne_of_lt hb)),[],.nil,Heap.DictOf.new h⟩
theorem b44{P:Program}{w:World}{H:Hp}(h:Heap)(hb:sysModules<h.objs.size):cF P w H (h.push {cls:=.type "dict",data:=.dict #[]}) h.objs.size (.dT []):=
 ⟨Nat.zero_le _,beq_eq_false_iff_ne.mpr (Ne.symm (Nat.ne_of_lt hb)),[],.nil,_,#[],0,Heap.get?_push_size _ rfl,⟨rfl,rfl,rfl⟩,rfl,rfl,List.nodup_nil⟩
def b18:TE:=fun _ H Q=>∀p,H p=none->Q (.ref p) (upd H p (.dK []))
def b6z:TE:=fun _ H Q=>∀p,H p=none->Q (.ref p) (upd H p (.dT []))
section
variable{X:Cx}{pos:Pos}
theorem tX:PE X (.Dict [] [] pos) b18:=fun pins s σ H Q I h=>
 wpAny_Dict_empty ⟨.ref s.heap.objs.size,_,I.laid (a:=s.heap.objs.size) (o:=.dK []) (t':=s.toks) (fun _ _ q=>Heap.get?_push_of_some _ q) (Nat.le_refl _) (b0L s.heap I.big),rfl,h _ (I.hok.fresh (Nat.le_refl _))⟩
theorem a9u:PE X (.Dict [] [] pos) b6z:=fun pins s σ H Q I h=>
 wpAny_Dict_empty ⟨.ref s.heap.objs.size,_,I.laid (a:=s.heap.objs.size) (o:=.dT []) (t':=s.toks) (fun _ _ q=>Heap.get?_push_of_some _ q) (Nat.le_refl _) (b44 s.heap I.big),rfl,h _ (I.hok.fresh (Nat.le_refl _))⟩
end
def yG:List (TE×TE)->St->Hp->(List (V×V)->Hp->Prop)->Prop
 | [],_,H,Q=>Q [] H
 |(tk,tv)::r,σ,H,Q=>tk σ H fun x H1=>tv σ H1 fun y H2=>yG r σ H2 fun ps H3=>Q ((x,y)::ps) H3
abbrev VV:List (V×V)->List (Value×Value)->Prop:=Paired fun p q=>aW p.1 q.1/\aW p.2 q.2
def pH(X:Cx)(pos:Pos)(keys:List (Option Expr))(values:List Expr)(trs:List (TE×TE)):Prop:=
 ∀(pins:List (Addr×Obj)) (s:Shared) (σ:St) (H:Hp) (Q:List (V×V)->Hp->Prop),aB X pins σ H s->yG trs σ H Q->
  wpAny (model X.prog X.w) X.A (evalPairs (pairTrees keys values X.env pos)) (fun vs s'=>∃ps H',aB X pins σ H' s'/\VV ps vs/\Q ps H') X.xe s
theorem b1P{X:Cx}{pos:Pos}:pH X pos [] [] []:=fun pins s σ H Q I h=>pairTrees_nil_walk ⟨[],H,I,.nil,h⟩
theorem b5T{X:Cx}{pos:Pos}{k v:Expr}{ks:List (Option Expr)}{vs:List Expr}{tk tv:TE}{trs:List (TE×TE)}(hk:PE X k tk)(hv:PE X v tv)(hr:pH X pos ks vs trs):
 pH X pos (some k::ks) (v::vs) ((tk,tv)::trs):=fun pins s σ H Q I h=>
 pairTrees_cons_walk (aN (hk pins s σ H _ I h) fun u s1 ⟨x,H1,I1,rx,q1⟩=>aN (hv pins s1 σ H1 _ I1 q1) fun w2 s2 ⟨y,H2,I2,ry,q2⟩=>
  aN (hr pins s2 σ H2 _ I2 q2) fun ws s3 ⟨ps,H3,I3,rel,q3⟩=>⟨(x,y)::ps,H3,I3,.cons ⟨rx,ry⟩ rel,q3⟩)
noncomputable def mO (kvs more:List (aI×V)):List (aI×V):=more.foldl (fun acc kv=>cC acc kv.1 kv.2) kvs
theorem KV.merge:∀{more:List (aI×V)} {rs:List (aI×Value)} {kvs:List (aI×V)} {vs:List (aI×Value)},KV more rs->KV kvs vs->KV (mO kvs more) (merged vs rs):=by
 intro more rs kvs vs r
 unfold KV at r
 induction r generalizing kvs vs with
 |nil=>intro q;exact q
 | @cons p q ps qs h t ih=>
  intro r0
  have e:KV (cC kvs p.1 p.2) (stored vs q.1 q.2):=by
   have:=r0.put p.1 h.2
   rw[<- h.1];exact this
  exact ih e
theorem b09:∀(more kvs:List (aI×V)),(mO kvs more).length<=kvs.length+ more.length
 | [],kvs=>by show kvs.length<=kvs.length+ 0;omega
 |p::r,kvs=>by
  have h1:=b09 r (cC kvs p.1 p.2)
  have h2:=xU kvs p.1 p.2
  show(mO (cC kvs p.1 p.2) r).length<=_
  rw[List.length_cons];omega
theorem b0C{P:Program}{w:World}:∀{kvs:List (aI×V)} {ws:List (Value×Value)},VV (kvs.map fun kv=>(kV kv.1,kv.2)) ws->∃rs,Carries (fG P w) ws rs/\KV kvs rs
 | [],_,r=>by rw[List.map_nil]at r;cases r;exact⟨[],True.intro,.nil⟩
 |p::kvs,_,r=>by
  rw[List.map_cons]at r
  cases r with
  | @cons a b as bs h t=>
   obtain⟨rs,c,q⟩:=b0C (P:=P) (w:=w) t
   obtain⟨b1,b2⟩:=b
   exact⟨(p.1,b2)::rs,⟨mC h.1,rfl,c⟩,.cons ⟨rfl,h.2⟩ q⟩
def b1f(trs:List (TE×TE)):TE:=fun σ H Q=>∀p,H p=none->yG trs σ (upd H p (.dK [])) fun ps H2=>H2 p=some (.dK [])/\∃kvs:List (aI×V),ps=kvs.map (fun kv=>(kV kv.1,kv.2))/\kvs.length<=15/\Q (.ref p) (upd H2 p (.dK (mO [] kvs)))
theorem b4R{X:Cx}{pos:Pos}{keys:List (Option Expr)}{values:List Expr}{trs:List (TE×TE)}(h:pH X pos keys values trs)(hall:keys.all (·.isSome)=true)(hl:keys.length=values.length)(h0:keys≠ [])
 (h15:keys.length<=15):PE X (.Dict keys values pos) (b1f trs):=by
 intro pins s σ H Q I q
 have hn:=I.hok.fresh (Nat.le_refl s.heap.objs.size)
 have I1:=I.laid (a:=s.heap.objs.size) (o:=.dK []) (h':=s.heap.push {cls:=.type "dict",data:=.dict #[]}) (t':=s.toks) (fun _ _ q=>Heap.get?_push_of_some _ q) (Nat.le_refl _) (b0L s.heap I.big)
 refine wpAny_Dict_walk (knd:=fG X.prog X.w) hall hl h0 h15 (aN (h pins _ σ _ _ I1 (q _ hn)) fun ws s2 ⟨ps,H2,I2,rel,e,kvs,ep,lk,q2⟩=> ?_)
 subst ep
 obtain⟨rs,c,rk⟩:=b0C (P:=X.prog) (w:=X.w) rel
 obtain⟨z,hd,vs0,r0,dd⟩:=a9s I2.hok e
 cases r0
 refine⟨rs,c,dd,fun h' dd' hs=>⟨.ref s.heap.objs.size,_,?_,rfl,q2⟩⟩
 have hz:(mO [] kvs).length<=sizeLine:=by
  have h1:=b09 kvs []
  rw[List.length_nil]at h1
  rw[sizeLine_eq];omega
 have he:∃q,h'.get? s.heap.objs.size=some q:=let ⟨q,_,_,hq,_⟩:=dd';⟨q,hq⟩
 exact wY I2 (by rw[e];exact True.intro) hs he (a9p hz hd (rk.merge .nil) dd')
structure M1(X:Cx)(o:Expr)(m:Str)(apos:Pos)(e:Expr)(cpos:Pos):Prop where
 base:attributeBase o m X.env (eval o X.env)=eval o X.env
 few:((backTo cpos (starEach [e] X.env)).all (fun x=> !x.1)&&(backToKw cpos (keywordEach [] X.env)).all (fun x=>x.1.isSome)
  &&decide (([e]:List Expr).length+ ([]:List Keyword).length+ (if([]:List Keyword).isEmpty then 0 else 1)<30))=true
 line:(apos.endLine==cpos.line)=true
 trees:backTo cpos (starEach [e] X.env)= [(false,eval e X.env)]
structure M2(X:Cx)(o:Expr)(m:Str)(apos:Pos)(e f:Expr)(cpos:Pos):Prop where
 base:attributeBase o m X.env (eval o X.env)=eval o X.env
 few:((backTo cpos (starEach [e,f] X.env)).all (fun x=> !x.1)&&(backToKw cpos (keywordEach [] X.env)).all (fun x=>x.1.isSome)
  &&decide (([e,f]:List Expr).length+ ([]:List Keyword).length+ (if([]:List Keyword).isEmpty then 0 else 1)<30))=true
 line:(apos.endLine==cpos.line)=true
 trees:backTo cpos (starEach [e,f] X.env)= [(false,eval e X.env),(false,eval f X.env)]
end L2
namespace Att
open PySem PySem.W PySem.Calls PyProof.Rows
theorem b5g{P:Params}{h:Heap}:∀(ns:List Int) (vs:List Value),WellAll P h vs (ns.map WData.int)->IntsAre vs ns:=by
 intro ns
 induction ns with
 |nil=>
  intro vs w
  rw[List.map_nil]at w
  cases w
  exact .nil
 |cons n ns ih=>
  intro vs w
  rw[List.map_cons]at w
  cases w with
  |cons a b=>
   cases a
   exact .cons _ _ (ih _ b)
theorem b3A{l:OpenLaw}{n:Nat}(hn:l.most=some n){P:Params}{h:Heap}{args:List WData}{vals:List Value}
 (hpre:l.row.toRowW.claim.pre args=true)(hwl:WellAll P h vals args):
 ∃a vs ns,vals= [Value.ref a] /\args= [WData.list (ns.map WData.int)] /\h.get? a=some {cls:=.type "list",data:=.seq vs.toArray} /\IntsAre vs ns/\ns.length<=n:=by
 have hsh:WShape.hasAll [] args [.list .int]=true:=(pre_splitW hpre).1
 have hc:l.pre.holds [] {args:=args}=true:=(pre_splitW hpre).2
 obtain⟨d,r,rfl,h1,h2⟩:=hasAllW_cons hsh
 obtain rfl:=hasAllW_nil h2
 obtain⟨xs,rfl,h3⟩:=hasW_list h1
 obtain⟨ns,rfl⟩:=items_int h3
 have hlen:ns.length<=n:=by
  unfold OpenLaw.pre at hc
  have h4:(WTm.not (.lt (.lit (.int (n:Int))) (.len (.arg 0)))).holds [] {args:=[.list (ns.map .int)]}=true:=by
   have h4:=(holds_andW hc).1
   rw[hn]at h4
   exact h4
  have h5:=condW_of h4 (w_not (w_lt w_lit (w_len_list (w_arg rfl))))
  rw[List.length_map]at h5
  refine Nat.le_of_not_lt fun q=> ?_
  have q':(n:Int)<((ns.length:Nat):Int):=by omega
  first
   |(rw[decide_eq_true q']at h5;exact absurd h5 (by decide))
   |(simp at h5;omega)
 cases hwl with
 |cons w1 w2=>
  cases w2
  cases w1 with
  |list ho hall=>exact⟨_,_,ns,rfl,rfl,ho,b5g ns _ hall,hlen⟩
theorem b6l(l:OpenLaw)(args:List WData):l.row.toRowW.claim.post args (.bool true) args=true:=
 postW_of (r:=l.row.toRowW) (X:=(true==true))
  (show WShape.has [] (.bool true) .bool=true by first|rfl|decide|simp[WShape.has,WShape.arms,WShape.armsAll])
  (show(WTm.eq .res (.lit (.bool true))).value [] {args:=args,res:=some (.bool true),after:=args}=some (.bool (true==true)) from w_eq_bool (w_res rfl) w_lit) rfl
theorem attach_call{l:OpenLaw}{n:Nat}{q:Program}{loose:List Str}{XP:(Str->Option Value)->Heap->Prop}{YP:World->Heap->Prop}{d:DefRec}
 (hn:l.most=some n)(hdf:d.params.defaults= [])
 (call:∀(w:World) (s₀ s₁:Shared) (mg mb:Str->Option Value) (fa:Addr) (o:Obj) (pm cd doc:Value) (a:Addr) (vs:List Value) (ns:List Int),
  Ground q loose [] XP w s₀ mg mb s₁.heap->YP w s₁.heap->
  s₁.heap.get? fa=some o->o.data= .func (docDef d.name d.params d.body d.scope pm cd doc)->s₁.heap.CodeRec cd d.name->mg d.name=some (.ref fa)->
  s₁.heap.get? a=some {cls:=.type "list",data:=.seq vs.toArray} ->IntsAre vs ns->ns.length<=n->s₁.gens= #[] ->
  codeAny (model l.prog w) callerA (.call (.ref fa) ⟨[.ref a],[]⟩) (fun r s'=>r= .ok (.ret (.bool true))/\OldK s₁.heap s'.heap/\s'.os=s₁.os/\AllBare s'.gens) s₁):
 WalkO q loose XP YP l.row.toRowW d [] (fun f vs=>PySem.call f vs):=by
 intro w s₀ s₁ mg mb G Y fa o pm cd doc dV kV ho hd hcd hD hmg hg args vals as hpre hlay hrd hwl hlo
 obtain rfl:dV= .none:=Dflts.none hD hdf
 obtain rfl:kV= .none:=Dflts.noKw hD
 obtain⟨a,vs,ns,rfl,rfl,hobj,hints,hlen⟩:=b3A hn hpre hwl
 refine enter_call (codeAny_mono (call w s₀ s₁ mg mb fa o pm cd doc a vs ns G Y ho (fd_plain hd) hcd hmg hobj hints hlen hg) fun r s' hq=> ?_)
 obtain⟨rfl,h2,h3,h4⟩:=hq
 exact⟨.inl ⟨.bool true,.bool true,[],rfl,fun _=>rfl,.bool true,b6l l _,fun _=>⟨List.Pairwise.nil,fun _ hm=>(nomatch hm)⟩⟩,h2,h3,h4⟩
section
variable{prog:Program}{w:World}{A:Around}{E:Value->Shared->Prop}{s:Shared}{K:Frag}
noncomputable def ledger(h:Heap)(L d:Addr):List (Addr×Obj):=(List.range h.objs.size).filterMap fun a=>if a=L\/ a=d then none else(h.get? a).map fun o=>(a,o)
end
end Att
namespace L2
open PySem PySem.Spec PyProof.Rows
theorem b0d:∀{vs:List Value} {ns:List Int},IntsAre vs ns->aV (ns.map V.int) vs
 |_,_,.nil=> .nil
 |_,_,.cons n t h=> .cons ⟨t,rfl⟩ (b0d h)
def vU(H:Hp):Prop:=∀b,H b=none\/ ∃o xs,H b=some (.frz o (.lst xs))
theorem b3a{P:Program}{w:World}{K:Fg}{mg mb:Str->Option Value}{CX:cZ}{k:Nat}{fa a:Addr}{fd:FuncData}{x:Str}{sp:Sp}{s₁:Shared}{vs:List Value}{ns:List Int}
 (KX:K.In s₁.heap)(hns:s₁.heap.Ns mainGlobals mg)(hb:s₁.heap.Ns builtinsNs mb)(hbb:∀x:Str,x≠ "__name__" ->mb x=bootBuiltins x)(hlim:s₁.heap.NoLimit)(hg:s₁.gens= #[])
 (ha:s₁.heap.get? a=some {cls:=.type "list",data:=.seq vs.toArray})(hi:IntsAre vs ns)(hl:ns.length<=sizeLine)(hr:bJ k callerA)
 (F:∀base:Heap,K.In base->base.Ns mainGlobals mg->dW P w K mg base CX k fa fd [x] sp)(hbind:∀(s:Shared) (u:Value),BindsTo s fd ⟨[u],[]⟩ [(x,u)])
 (hsp:∀H:Hp,vU H->aS K H a (ns.map V.int)->sp [.ref a] H (fun v _=>v= .bl true) fun _ _ _=>False)
 (hCX:∀H e s',CX [] H s₁ (fun _ _ _=>False) e s'->False):
 codeAny (model P w) callerA (.call (.ref fa) ⟨[.ref a],[]⟩) (fun r s'=>r= .ok (.ret (.bool true))/\OldK s₁.heap s'.heap/\s'.os=s₁.os/\AllBare s'.gens) s₁:=by
 have rv:=b0d hi
 have lenV:=hi.length
 have core:∀H:Hp,vU H->aS K H a (ns.map V.int)->bY P w H s₁.heap->(∀b,H b≠none->b=a)->(H a≠none->K.lookup a=none)->
  codeAny (model P w) callerA (.call (.ref fa) ⟨[.ref a],[]⟩) (fun r s'=>r= .ok (.ret (.bool true))/\OldK s₁.heap s'.heap/\s'.os=s₁.os/\AllBare s'.gens) s₁:=by
  intro H hO hS hok hA hK
  have base_of:∀{b:Addr} {o:Obj},s₁.heap.get? b=some o->H b=none->(iN s₁.heap H).get? b=some o:=fun e n=>b39 e n
  have noA:∀{b:Addr} {o:Obj} {es:Array DictEntry} {ep:Nat},s₁.heap.get? b=some o->o.data= .dict es ep->H b=none:=fun{b o es ep} e d=>by
   cases q:H b with
   |none=>rfl
   |some u=>
    have e':b=a:=hA b (by rw[q];simp)
    subst e'
    rw[ha]at e;cases e
    have d':Data.seq vs.toArray _=Data.dict es ep:=d
    cases d'
  have nsK:∀{b:Addr} {m:Str->Option Value},s₁.heap.Ns b m->(iN s₁.heap H).Ns b m:=fun{b m} ⟨o,es,ep,e,d,r⟩=>⟨o,es,ep,base_of e (noA e d),d,r⟩
  have hKb:K.In (iN s₁.heap H):=fun b o e=>base_of (KX b o e) (by
   cases q:H b with
   |none=>rfl
   |some u=>
    have e':b=a:=hA b (by rw[q];simp)
    subst e'
    rw[hK (by rw[q];simp)]at e;cases e)
  have hM:Mod K mg (iN s₁.heap H):=⟨hKb,nsK hns,⟨mb,nsK hb,hbb⟩,let ⟨mc,h1,h2⟩:=hlim;⟨mc,nsK h1,h2⟩⟩
  have e0:jQ P w K mg (iN s₁.heap H) callerA [] s₁ H:=⟨rfl,hM,fun b o e=>b2Y e,Nat.le_of_eq (b6v _ _),trivial,fun b hb=>absurd (show b∈([]:List Addr) from hb) (by simp),hok,.of_eq hg⟩
  refine codeAny_mono ((F _ hKb (nsK hns)).run callerA [] s₁ H ⟨[.ref a],[]⟩ [.ref a] [.ref a] _ _ hr e0 (hbind s₁ (.ref a)) (.cons rfl .nil) (hsp H hO hS)) fun r s' h=> ?_
  cases r with
  |error e=>exact(hCX H e s' h).elim
  |ok fl=>
   cases fl with
   |next=>exact False.elim h
   |brk=>exact False.elim h
   |cont=>exact False.elim h
   |ret u=>
    obtain⟨v,H',os,bare,un,hok',r',q⟩:=h
    have q':v= .bl true:=q
    subst q'
    obtain rfl:u=Value.bool true:=r'
    refine⟨rfl,OldK.of_keep fun b o e=> ?_,os,bare⟩
    cases q:H b with
    |none=>exact un.keep b o e q (by intro z;exact absurd (show b∈([]:List Addr) from z) (by simp)) (by simp)
    |some u=>
     rcases hO b with z|⟨ob,xs,z⟩
     ·rw[q]at z;cases z
     ·have z2:=un.frzs b ob _ z
      obtain⟨e1,_⟩:=hok b _ z
      obtain⟨e2,_⟩:=hok' b _ z2
      rw[e]at e1;cases e1
      exact e2
 cases hk:K.lookup a with
 |some o=>
  have e:=KX a o hk
  rw[ha]at e
  cases e
  refine core (fun _=>none) (fun _=> .inl rfl) (.inr ⟨_,vs.toArray,_,hk,rfl,rfl,rfl,by rw[List.size_toArray,lenV];exact hl,by simpa using rv⟩) (fun b u z=>by have z':(none:Option HO)=some u:=z;cases z') (fun b z=>absurd rfl z) fun z=>absurd rfl z
 |none=>
  refine core (fun b=>if b=a then some (.frz {cls:=.type "list",data:=.seq vs.toArray} (.lst (ns.map V.int))) else none) (fun b=> ?_) (.inl (.inr ⟨{cls:=.type "list",data:=.seq vs.toArray},if_pos rfl⟩)) (fun b u z=> ?_) (fun b z=> ?_) fun _=>hk
  ·by_cases hb:b=a
   ·exact .inr ⟨_,_,if_pos hb⟩
   ·exact .inl (if_neg hb)
  ·by_cases hb:b=a
   ·have z':=(if_pos hb).symm.trans z
    cases z'
    subst hb
    exact⟨ha,by rw[List.length_map];exact hl,vs,_,rv,ha⟩
   ·have z':=(if_neg hb).symm.trans z
    cases z'
  ·by_cases hb:b=a
   ·exact hb
   ·exact absurd (if_neg hb) z
theorem b2Q{l:PySem.W.OpenLaw}{n k:Nat}{q:Program}{loose:List Str}{XP:(Str->Option Value)->Heap->Prop}{YP:World->Heap->Prop}{d:DefRec}{K:Params->Fg}{CX:World->cZ}{sp:World->Sp}{x:Str}
 (hn:l.most=some n)(hn2:n<=sizeLine)(hdf:d.params.defaults= [])(hr:bJ k callerA)
 (hY:∀(w:World) (h:Heap),YP w h->(K w.params).In h)
 (F:∀(w:World) (mg:Str->Option Value) (fa:Addr) (h:Heap),(K w.params).In h->h.Ns mainGlobals mg->mg d.name=some (.ref fa)->
  ∃fd:FuncData,(∀(s:Shared) (u:Value),BindsTo s fd ⟨[u],[]⟩ [(x,u)])/\
   ∀base:Heap,(K w.params).In base->base.Ns mainGlobals mg->dW l.prog w (K w.params) mg base (CX w) k fa fd [x] (sp w))
 (hsp:∀(w:World) (H:Hp) (a:Addr) (ns:List Int),ns.length<=n->vU H->aS (K w.params) H a (ns.map V.int)->sp w [.ref a] H (fun v _=>v= .bl true) fun _ _ _=>False)
 (hCX:∀(w:World) (H:Hp) (s:Shared) (e:Value) (s':Shared),CX w [] H s (fun _ _ _=>False) e s'->False):
 PySem.W.WalkO q loose XP YP l.row.toRowW d [] (fun f vs=>PySem.call f vs):=by
 refine Att.attach_call hn hdf fun w s₀ s₁ mg mb fa o pm cd doc a vs ns G Y ho hd hcd hmg hobj hints hlen hg=> ?_
 have KX:=hY w _ Y
 obtain⟨fd,hb,hF⟩:=F w mg fa _ KX G.T.g hmg
 exact b3a KX G.T.g G.T.b G.T.builtins G.T.nolimit hg hobj hints (Nat.le_trans hlen hn2) hr hF hb (fun H hO hS=>hsp w H a ns hlen hO hS) fun H e s'=>hCX w H s₁ e s'
def aP(s:Stmt):Arguments:=match s with
 | .FunctionDef _ a _ _ _ _ _ _ _ _=>a
 |_=>{posonlyargs:=[],args:=[],vararg:=none,kwonlyargs:=[],kw_defaults:=[],kwarg:=none,defaults:=[]}
def aL(s:Stmt):List Stmt:=match s with
 | .FunctionDef _ _ b _ _ _ _ _ _ _=>b
 |_=> []
def aC(s:Stmt):Scope:=match s with
 | .FunctionDef _ _ _ _ _ _ sc _ _ _=>sc
 |_=>{kind:=.function,names:=[],isGenerator:=false,isCoroutine:=false}
abbrev aJ:cZ:=fun _ _ _ _ _ _=>False
abbrev E0:XK:=fun _ _ _=>False
theorem bA{X:Cx}:fI aJ X E0:=fun _ _ _ _ _ _ _ h=>h.elim
structure gM(K:Fg)(x qual:Str)(st:Stmt)(f:Addr)(fd:FuncData):Prop where
 ex:∃(oc:Value) (od:Option Addr) (kV doc pm:Value) (an:Option Addr) (cdv ct:Value) (osl:Array (Option Value)),
  fd=PySem.W.fnOf x qual (aP st) (aL st) (aC st) .none kV doc pm an cdv ct/\K.lookup f=some ⟨oc,od,.func fd,osl⟩ /\PySem.W.codeIn K cdv qual=true
 kp:PySem.W.keepIn K (.ref f)=true
section
variable{P:Program}{w:World}{K:Fg}{mg:Str->Option Value}{base:Heap}
theorem gM.ok{x qual:Str}{st:Stmt}{f:Addr}{fd:FuncData}{N ps:List Str}{k:Nat}{sp:Sp}(F:gM K x qual st f fd)(S:bB N ps (aC st))(len:∀vs H Q E,sp vs H Q E->vs.length=ps.length)
 (hbody:∀(cdv:Value) (A:Around) (outer:List Env) (s:Shared) (H:Hp) (vs:List V) (Q:VK) (E:XK),bJ k (A.deeper (envOfC qual (aC st) s.heap.objs.size f cdv))->sp vs H Q E->
  ∃t,cD (dQ aJ P w K mg base N qual (aC st) f cdv A outer s H E).nox (aL st) t/\t {nx:=fun _ H'=>Q .non H',rt:=Q} (gF N vs) H):dW P w K mg base aJ (k+ 1) f fd ps sp:=by
 obtain⟨oc,od,kV,doc,pm,an,cdv,ct,osl,rfl,lk,hcd⟩:=F.ex
 refine b08 lk hcd S len fun A outer s H vs Q E hr hsp=> ?_
 obtain⟨t,h,q⟩:=hbody cdv A outer s H vs Q E hr hsp
 exact⟨t,h.nox,q⟩
theorem gM.binds{x qual:Str}{st:Stmt}{f:Addr}{fd:FuncData}{ps:List Str}(F:gM K x qual st f fd)
 (h:∀(kV doc pm:Value) (an:Option Addr) (cdv ct:Value) (us:List Value),us.length=ps.length->bindArgs (PySem.W.fnOf x qual (aP st) (aL st) (aC st) .none kV doc pm an cdv ct) ⟨us,[]⟩=pure (ps.zip us)):fW K fd ps []:=by
 obtain⟨oc,od,kV,doc,pm,an,cdv,ct,osl,rfl,lk,hcd⟩:=F.ex
 exact .all (h kV doc pm an cdv ct)
theorem a9x{x qual:Str}{st:Stmt}{f:Addr}{oc:Value}{od an:Option Addr}{osl:Array (Option Value)}{kV doc pm cdv ct:Value}(l:K.lookup f=some ⟨oc,od,.func (PySem.W.fnOf x qual (aP st) (aL st) (aC st) .none kV doc pm an cdv ct),osl⟩)
 (c:PySem.W.codeIn K cdv qual=true)(k:PySem.W.keepIn K (.ref f)=true):gM K x qual st f (PySem.W.fnOf x qual (aP st) (aL st) (aC st) .none kV doc pm an cdv ct):=⟨⟨oc,od,kV,doc,pm,an,cdv,ct,osl,rfl,l,c⟩,k⟩
end
theorem fB{A:Around}{k:Nat}(hr:bJ k A):A.units+ 1<cLine:=Nat.lt_of_le_of_lt (Nat.add_le_add_left (by decide:1<=64) _) hr.units
theorem dN{n:Nat}(h:n<=1000):n<sizeLine:=Nat.lt_of_le_of_lt h (by decide)
section
variable{X:Cx}
theorem pv(i:Nat){x:Str}{pos:Pos}(hN:X.N[i]?=some x:=by rfl)(hv:tH X.env.scope x:=by first|exact Or.inl rfl|exact Or.inr (Or.inl rfl)|exact Or.inr (Or.inr rfl))(hd:(x==("__debug__":Str))=false:=by decide)
 (hcd:(x==("__classdict__":Str))=false:=by decide):PE X (.Name x pos) (kZ i):=b2q hN hv hd hcd
theorem a9E:fO X (.builtin "len") (fun xs H Q=>∃a kvs,xs= [V.ref a] /\H a=some (.dK kvs)/\Q (.int kvs.length) H):=by
 intro pins s σ H xs us Q I r h
 obtain⟨a,kvs,rfl,ha,q⟩:=h
 obtain⟨u,rfl,ru⟩:=kD r
 cases ru
 exact b4p I (.inl ha) fun t s' I'=>⟨.int kvs.length,H,I',⟨t,rfl⟩,q⟩
end
theorem aZ{A B:Prop}(h:B):if false=true then A else B:=by
 rw[if_neg Bool.false_ne_true]
 exact h
theorem bC{A B:Prop}(h:A):if true=true then A else B:=by
 rw[if_pos rfl]
 exact h
theorem eM{c A B:Prop} [Decidable c](h1:c->A)(h2:¬c->B):if c then A else B:=by
 by_cases h:c
 ·rw[if_pos h]
  exact h1 h
 ·rw[if_neg h]
  exact h2 h
def aD(H H':Hp):Prop:=∀b o,H b=some o->H' b=some o
theorem aD.refl(H:Hp):aD H H:=fun _ _ h=>h
theorem aD.trans{H H1 H2:Hp}(a:aD H H1)(b:aD H1 H2):aD H H2:=fun c o h=>b c o (a c o h)
theorem aD.seq{K:Fg}{H H':Hp}{a:Addr}{xs:List V}(e:aD H H')(h:aS K H a xs):aS K H' a xs:=by
 rcases h with(h|⟨o,h⟩)|h
 ·exact .inl (.inl (e _ _ h))
 ·exact .inl (.inr ⟨o,e _ _ h⟩)
 ·exact .inr h
section
variable{X:Cx}{a b c:Expr}{ta tb tc:TE}{pos:Pos}
theorem rK{x:Str}{i:Int}(h:∃t,X.mg x=some (.int i t))(hg:Gl X x:=by rfl)(hd:(x==("__debug__":Str))=false:=by decide):PE X (.Name x pos) (tC (.int i)):=by
 obtain⟨t,h⟩:=h
 exact a36 hg h ⟨t,rfl⟩ hd
theorem b30{x z:Str}(h:∃t,X.mg x=some (.str z t))(hg:Gl X x:=by rfl)(hd:(x==("__debug__":Str))=false:=by decide):PE X (.Name x pos) (tC (.str z)):=by
 obtain⟨t,h⟩:=h
 exact a36 hg h ⟨t,rfl⟩ hd
theorem fQ{x:Str}{f:Addr}(h:X.mg x=some (.ref f))(hg:Gl X x:=by rfl)(hd:(x==("__debug__":Str))=false:=by decide):PE X (.Name x pos) (tC (.ref f)):=a36 hg h rfl hd
theorem gC{x:Str}{T:String}(hm:X.mg x=none)(hv:bootBuiltins x=some (.type T))(hg:Gl X x:=by rfl)(hn:x≠ "__name__":=by decide)(hd:(x==("__debug__":Str))=false:=by decide):PE X (.Name x pos) (tC (.ty T)):=b4N hg hm hv rfl hn hd
theorem b6q:fO X (.builtin "isinstance") (fun xs H Q=>∃x C t k,xs= [x,.ref C] /\fD X.K H x t/\PySem.W.kitOne X.K t (.ref C)=some k/\Q (.bl k) H):=by
 intro pins s σ H xs us Q I r h
 obtain⟨x,C,t,k,rfl,ty,e,q⟩:=h
 cases r with
 |cons r1 rr=>
  cases rr with
  |cons r2 rr=>
   cases rr
   cases r2
   exact b0U I r1 ty e fun tk=>⟨.bl k,H,I.tok tk,rfl,q⟩
end
mutual
inductive Dt(K:Fg)(H:Hp):V->PyData->Prop where
 |non:Dt K H .non .none
 |bl (b:Bool):Dt K H (.bl b) (.bool b)
 |int (i:Int):Dt K H (.int i) (.int i)
 |str (x:Str):Dt K H (.str x) (.str x)
 |lst {a:Addr} {xs:List V} {ds:List PyData}:aS K H a xs->cX K H xs ds->Dt K H (.ref a) (.list ds)
 |tup {a:Addr} {xs:List V} {ds:List PyData}:eB K H a xs->cX K H xs ds->Dt K H (.ref a) (.tuple ds)
 |dK {a:Addr} {kvs:List (aI×V)}:H a=some (.dK kvs)->Dt K H (.ref a) (.dict [])
 |dT {a:Addr} {kvs:List (List aI×V)}:H a=some (.dT kvs)->Dt K H (.ref a) (.dict [])
inductive cX(K:Fg)(H:Hp):List V->List PyData->Prop where
 |nil:cX K H [] []
 |cons {v:V} {d:PyData} {vs:List V} {ds:List PyData}:Dt K H v d->cX K H vs ds->cX K H (v::vs) (d::ds)
end
section
variable{X:Cx}{pins:List (Addr×Obj)}{σ:St}{H H':Hp}{s:Shared}
mutual
theorem Dt.reads(I:aB X pins σ H s):∀{v:V} {d:PyData} {u:Value},Dt X.K H v d->aW v u->d.canLay0=true->∃as,Reads s.heap u d as
 |_,_,_,.non,r,_=>by cases r;exact⟨_,.none⟩
 |_,_,_,.bl b,r,_=>by cases r;exact⟨_,.bool b⟩
 |_,_,_,.int i,r,_=>by obtain⟨t,rfl⟩:=r;exact⟨_,.int i t⟩
 |_,_,_,.str x,r,_=>by obtain⟨t,rfl⟩:=r;exact⟨_,.str x t⟩
 |_,_,_,.lst h hd,r,l=>by
  cases r
  obtain⟨its,rv,⟨o,n,e,hc,_,hs⟩,_⟩:=I.list h
  obtain⟨as,ra⟩:=cX.reads I hd rv (by rw[PyData.canLay0]at l;exact l)
  exact⟨_,.list e hc hs (by simpa using ra)⟩
 |_,_,_,.tup h hd,r,l=>by
  cases r
  obtain⟨its,rv,⟨o,e,hc,n,hs⟩,_⟩:=I.tuple h
  obtain⟨as,ra⟩:=cX.reads I hd rv (by rw[PyData.canLay0]at l;exact l)
  exact⟨_,.tuple e hc hs (by simpa using ra)⟩
 |_,_,_,.dK _,_,l=>by rw[PyData.canLay0]at l;cases l
 |_,_,_,.dT _,_,l=>by rw[PyData.canLay0]at l;cases l
theorem cX.reads(I:aB X pins σ H s):∀{vs:List V} {ds:List PyData} {us:List Value},cX X.K H vs ds->aV vs us->PyData.canLayAll0 ds=true->∃as,ReadsAll s.heap us ds as
 |_,_,_,.nil,r,_=>by cases r;exact⟨_,.nil⟩
 |_,_,_,.cons h hd,r,l=>by
  rw[PyData.canLayAll0,Bool.and_eq_true]at l
  cases r with
  |cons r1 rr=>
   obtain⟨as,ra⟩:=Dt.reads I h r1 l.1
   obtain⟨bs,rb⟩:=cX.reads I hd rr l.2
   exact⟨_,.cons ra rb⟩
end
theorem aD.seqT{K:Fg}{a:Addr}{xs:List V}(e:aD H H')(h:eB K H a xs):eB K H' a xs:=by
 rcases h with(h|⟨o,h⟩)|h
 ·exact .inl (.inl (e _ _ h))
 ·exact .inl (.inr ⟨o,e _ _ h⟩)
 ·exact .inr h
mutual
theorem Dt.same{K:Fg}(e:aD H H'):∀{v:V} {d:PyData},Dt K H v d->Dt K H' v d
 |_,_,.non=> .non
 |_,_,.bl b=> .bl b
 |_,_,.int i=> .int i
 |_,_,.str x=> .str x
 |_,_,.lst h hd=> .lst (e.seq h) (cX.same e hd)
 |_,_,.tup h hd=> .tup (aD.seqT e h) (cX.same e hd)
 |_,_,.dK h=> .dK (e _ _ h)
 |_,_,.dT h=> .dT (e _ _ h)
theorem cX.same{K:Fg}(e:aD H H'):∀{vs:List V} {ds:List PyData},cX K H vs ds->cX K H' vs ds
 |_,_,.nil=> .nil
 |_,_,.cons h hd=> .cons (Dt.same e h) (cX.same e hd)
end
theorem cX.get{K:Fg}:∀{vs:List V} {ds:List PyData} {i:Nat} {v:V},cX K H vs ds->vs[i]?=some v->∃d,ds[i]?=some d/\Dt K H v d
 |_,_,_,_,.nil,e=>by simp at e
 |_,_,0,_,.cons h _,e=>by simp at e;subst e;exact⟨_,rfl,h⟩
 |_,_,i+ 1,v,.cons _ t,e=>by
  obtain⟨d,h1,h2⟩:=cX.get (i:=i) (v:=v) t (by simpa using e)
  exact⟨d,by simpa using h1,h2⟩
theorem cX.length{K:Fg}:∀{vs:List V} {ds:List PyData},cX K H vs ds->vs.length=ds.length
 |_,_,.nil=>rfl
 |_,_,.cons _ t=>by rw[List.length_cons,List.length_cons,cX.length t]
theorem op_eqD(hu:X.A.units+ 64<cLine):dE X (compareOp .Eq) (fun x y H Q=>∃dx dy,Dt X.K H x dx/\Dt X.K H y dy/\dx.canLay0=true/\dy.canLay0=true/\dx.depth<=64/\Q (.bl (PyData.eqv dx dy)) H):=by
 intro pins s σ H x y v u Q I rx ry h
 obtain⟨dx,dy,hx,hy,lx,ly,hd,q⟩:=h
 obtain⟨as,ra⟩:=Dt.reads I hx rx lx
 obtain⟨bs,rb⟩:=Dt.reads I hy ry ly
 exact SeqAt.compareEq_reads ra rb lx ly (by have:=Nat.min_le_left dx.depth dy.depth;omega) ⟨.bl _,H,I,rfl,q⟩
theorem b1m(hu:X.A.units+ 64<cLine):dE X (compareOp .NotEq) (fun x y H Q=>∃dx dy,Dt X.K H x dx/\Dt X.K H y dy/\dx.canLay0=true/\dy.canLay0=true/\dx.depth<=64/\Q (.bl (!PyData.eqv dx dy)) H):=by
 intro pins s σ H x y v u Q I rx ry h
 obtain⟨dx,dy,hx,hy,lx,ly,hd,q⟩:=h
 obtain⟨as,ra⟩:=Dt.reads I hx rx lx
 obtain⟨bs,rb⟩:=Dt.reads I hy ry ly
 exact SeqAt.compareNe_reads ra rb lx ly (by have:=Nat.min_le_left dx.depth dy.depth;omega) ⟨.bl _,H,I,rfl,q⟩
end
noncomputable def sR (x:Str):It:=⟨fun i _=>i<x.cps.size,fun i H v H'=>H'=H/\∃c,x.cps[i]?=some c/\v= .str ⟨#[c]⟩,fun i _=>x.cps.size<=i⟩
theorem b6u{P:Program}{w:World}{K:Fg}{tg:Expr}(it:Addr)(x:Str)(t:Tok):∀ty:String,(ty= "str_ascii_iterator"\/ ty= "str_iterator")->pD P w K tg (sR x) [it] it (fun i h=>h.IsStrIter it ty x t i):=by
 intro ty hty
 refine⟨by simp,?_,?_,?_,?_,?_⟩
 ·intro i h st b hb
  have e:b=it:=by simpa using hb
  subst e
  obtain⟨o,e,c,d⟩:=st
  exact⟨o,e,fun v z=>by rw[d]at z;cases z⟩
 ·intro i h h' st k
  obtain⟨o,e,c,d⟩:=st
  exact⟨o,k it (by simp) o e,c,d⟩
 ·intro X hP hw hK hc i pins s σ H E I hf st hg
  subst hP hw hK
  obtain⟨f0,f1,f2,f3,f4,f5⟩:=hf it (by simp)
  have hi:i<x.cps.size:=hg
  have hx:x.cps[i]?=some x.cps[i]:=by simp[hi]
  have fin:∀h',h'.IsStrIter it ty x t (i+ 1)->Heap.SameBut it s.heap h'->∃u,some (Value.str ⟨#[x.cps[i]]⟩ s.toks)=some u/\
   wpAny (model X.prog X.w) X.A (letOwnedTupleGo tg (.ref it) u) (fun _ s2=>∃y H',aB X pins σ H' s2/\aW y u/\(sR x).yld i H y H'/\s2.heap.IsStrIter it ty x t (i+ 1)/\∀b∈ [it],H' b=none) E {s with heap:=h',toks:=s.toks+ 1}:=by
   intro h' st' sb
   have I1:aB X pins σ H {s with heap:=h',toks:=s.toks+ 1}:=I.turned (fun b o hb e=>(sb.2 b hb).trans e) f0 f1 f3 f4 f5
   obtain⟨o,e,c,d⟩:=id st'
   refine⟨_,rfl,b05 (s:={s with heap:=h',toks:=s.toks+ 1}) e c d ?_ ⟨.str ⟨#[x.cps[i]]⟩,H,I1,⟨_,rfl⟩,⟨rfl,_,hx,rfl⟩,st',fun b hb=>(hf b hb).1⟩⟩
   rcases hty with rfl|rfl<;>decide
  rcases hty with rfl|rfl
  ·exact wpAny_pyNext_ascii_item st hx fin
  ·exact wpAny_pyNext_wide_item st hx fin
 ·intro X hP hw hK hc i pins s σ H E I hf st hg
  subst hP hw hK
  obtain⟨f0,f1,f2,f3,f4,f5⟩:=hf it (by simp)
  have hi:x.cps.size<=i:=hg
  have hx:x.cps[i]?=none:=by simp[hi]
  have fin:∀h',Heap.ExtBut it s.heap h'->(none:Option Value)=none/\aB X pins σ H {s with heap:=h'}:=fun h' eb=>⟨rfl,I.turned (t':=s.toks) (fun b o hb e=>eb b o hb e) f0 f1 f3 f4 f5⟩
  rcases hty with rfl|rfl
  ·exact wpAny_pyNext_ascii_end (I.ok.hd hc) st hx fin
  ·exact wpAny_pyNext_wide_end (I.ok.hd hc) st hx fin
 ·intro A i s Q E st h
  rcases hty with rfl|rfl
  ·exact wpAny_pyIter_striter_ascii st h
  ·exact wpAny_pyIter_striter_wide st h
section
variable{X:Cx}{tg:Expr}
def iStr(tl:TE):TI:=fun σ H R=>tl σ H fun v H1=>∃x,v= .str x/\R (sR x) H1
theorem b5y{l:Expr}{tl:TE}(hl:PE X l tl):PI X tg l (iStr tl):=by
 intro pins s σ H R I h
 refine aN (hl pins s σ H _ I h) fun v s1 ⟨y,H1,I1,r1,q1⟩=> ?_
 obtain⟨x,e,q⟩:=q1
 subst e
 obtain⟨t,rfl⟩:=r1
 have fin:∀ty:String,(ty= "str_ascii_iterator"\/ ty= "str_iterator")->PIE X pins σ tg R (.ref s1.heap.objs.size) {s1 with heap:=s1.heap.push {cls:=.type ty,data:=.fields #[.str x t,.int 0 0]}}:=fun ty hty=>by
  refine⟨s1.heap.objs.size,[s1.heap.objs.size],_,_,H1,rfl,I1.kept (t':=s1.toks) fun b o e=>Heap.get?_push_of_some _ e,b6u _ x t ty hty,⟨_,Heap.get?_push_size _ rfl,rfl,rfl⟩,fun b hb=> ?_,q⟩
  have e:b=s1.heap.objs.size:=by simpa using hb
  subst e
  exact I1.fpOk (Nat.le_refl _) (I1.hok.fresh (Nat.le_refl _))
 cases ha:x.cps.all (·<128)
 ·exact wpAny_pyIter_wide ha (fin _ (.inr rfl))
 ·exact wpAny_pyIter_ascii ha (fin _ (.inl rfl))
end
section
variable{prog:Program}{w:World}{A:Around}{R:Result->Shared->Prop}{s:Shared}
theorem a97{elt target iter:Expr}{ifs:List Expr}{scope:Scope}{pos:Pos}{it acc:Value}{env:Env}(I:Nat->Shared->Prop)
 (turn:∀n s,I n s->wpAny (model prog w) A (pyNext it) (fun r s₁=>match r with
  |none=>R (.ok .next) s₁
  |some v=>wpAny (model prog w) A (letOwnedTupleGo target it v) (fun _ s₁'=>wpAny (model prog w) A (assign target env v) (fun _ s₂=>
   wpAny (model prog w) A (forIn ifs true fun c r=>if r=true then do let ok<- isTrue c env (eval c env);pure (ForInStep.yield ok) else pure (ForInStep.yield r)) (fun ok s₃=>
    if ok=true then wpAny (model prog w) A (eval elt env) (fun x s₄=>
     wpAny (model prog w) A (call (.builtin "list.append") [acc,x]) (fun _ s₅=>∃m,m<n/\I m s₅) (fun _ _=>False) s₄) (fun _ _=>False) s₃
    else∃m,m<n/\I m s₃) (fun _ _=>False) s₂) (fun _ _=>False) s₁') (fun _ _=>False) s₁) (fun _ _=>False) s)
 (n:Nat)(h:I n s):
 codeAny (model prog w) A (.compLoop (.ListComp elt [⟨target,iter,ifs,0⟩] scope pos) 0 it acc env) R s:=by
 refine codeAny_loop rfl I (fun n s hI=> ?_) n h
 show wpAny _ A ((compTurn (.ListComp elt [⟨target,iter,ifs,0⟩] scope pos) 0 it acc env).onRaise (fun x=>do noteFrame x env;theTreesLotGoes x)) _ _ s
 refine wpAny_noted ?_
 rw[compTurn_list]
 refine wpAny_bind (wpAny_standAt (wpAny_bind (wpAny_mono (turn n s hI) (fun r s₁ h₁=> ?_) fun _ _ h'=>h'.elim)))
 cases r with
 |none=>exact wpAny_pure h₁
 |some v=>
  refine wpAny_bind (wpAny_mono h₁ (fun _ s₁' h₁'=> ?_) fun _ _ h'=>h'.elim)
  refine wpAny_bind (wpAny_mono h₁' (fun _ s₂ h₂=>wpAny_bind (wpAny_mono h₂ (fun ok s₃ h₃=> ?_) fun _ _ h'=>h'.elim)) fun _ _ h'=>h'.elim)
  cases ok with
  |false=>exact wpAny_pure ⟨rfl,h₃⟩
  |true=>
   exact wpAny_bind (wpAny_bind (wpAny_mono h₃ (fun x s₄ h₄=>wpAny_bind (wpAny_mono h₄ (fun _ s₅ h₅=>wpAny_pure (wpAny_pure ⟨rfl,h₅⟩)) fun _ _ h'=>h'.elim)) fun _ _ h'=>h'.elim))
end
noncomputable def eO (X:Cx) (scope:Scope) (cl:List (Str×Addr)) (C:Addr) (N':List Str) (fp:List Addr) (pins:List (Addr×Obj)) (s:Shared) (H:Hp):Cx where
 prog:=X.prog
 w:=X.w
 K:=X.K
 mg:=X.mg
 base:=X.base
 A:=X.A
 N:=N'
 s₀:=s
 H₀:=H
 env:=compEnvC scope cl C X.env
 outer:=X.stack
 stack:=X.stack
 ex:=fp
 calm:=X.calm
 fn:=fun _=>false
 pn:=X.pn++ pins
 xe:=fun _ _=>False
structure jJ(X:Cx)(scope:Scope)(cl:List (Str×Addr))(cp:List (Nat×Str)):Prop where
 kind:scope.kind= .function
 nocell:∀y∈scope.names,y.2≠ .cell
 names:∀y∈scope.names,y.2= .local->scope.names.lookup y.1=some .local
 clos:closureFor scope X.env=pure cl
 sub:∀x c,cl.lookup x=some c->X.env.cells.lookup x=some c
 has:∀x,((relabel scope X.env).names.lookup x=some .cell\/ (relabel scope X.env).names.lookup x=some .free)->∃c,cl.lookup x=some c
 at':∀p∈cp,X.N[p.1]?=some p.2/\(X.env.scope.names.lookup p.2=some .cell\/ X.env.scope.names.lookup p.2=some .free)/\((relabel scope X.env).names.lookup p.2=some .cell\/ (relabel scope X.env).names.lookup p.2=some .free)
noncomputable def cO (cp:List (Nat×Str)) (σ:St):St:=cp.map fun p=>(σ[p.1]?).getD none
section
variable{X:Cx}{pins:List (Addr×Obj)}{σ:St}{H:Hp}{s:Shared}{scope:Scope}{cl:List (Str×Addr)}{cp:List (Nat×Str)}{fp:List Addr}{x:Str}
theorem b5Y(I:aB X pins σ H s)(c:jJ X scope cl cp)(hf:∀b∈fp,fR X pins H b)(hfo:∀b∈fp,b<s.heap.objs.size){h':Heap}{ty:String}{tk:Nat}{m:Str->Option Value}(hm:h'.Ns s.heap.objs.size m)
 (sb:Heap.SameBut s.heap.objs.size (s.heap.push {cls:=.type ty,data:=.dict #[]}) h'):
 aB (eO X scope cl s.heap.objs.size (x::cp.map (·.2)) fp pins s H) [] (none::cO cp σ) H {s with heap:=h',toks:=tk}:=by
 have old:∀b o,s.heap.get? b=some o->h'.get? b=some o:=fun b o e=>(sb.2 b (Nat.ne_of_lt (Heap.lt_size e))).trans (Heap.get?_push_of_some _ e)
 have hC:H s.heap.objs.size=none:=I.hok.fresh (Nat.le_refl _)
 refine⟨⟨I.ok.mod,c.kind,I.ok.glob,I.ok.blt,Nat.le_refl _,fun y z k h1 h2=>I.ok.inj y z k (c.sub _ _ h1) (c.sub _ _ h2),c.has,fun y k z=>(Bool.noConfusion z),I.ok.hd,I.ok.frames,.inl rfl,fun b hb=> ?_,fun b o e=>I.bs b o e,Nat.le_trans I.ok.bsz I.sz,fun b o e hb=> ?_,fun b hb hz=> ?_,I.stack,I.stkFree⟩,
  rfl,I.bare,Un.kept old,⟨m,hm,fun i y v h1 h2 h3=> ?_⟩,fun y k e=> ?_,hC,fun y k e=>I.freeC y k (c.sub y k e),fun p hp=> ?_,I.hok.kept old,?_⟩
 ·obtain⟨f0,f1,f2,f3,f4,f5⟩:=hf b hb
  exact⟨Nat.ne_of_lt (hfo b hb),fun y k e=>f4 y k (c.sub y k e)⟩
 ·obtain⟨f0,f1,f2,f3,f4,f5⟩:=hf b hb
  rcases f3 with z|z
  ·exact I.ok.noex b o e z
  ·exact absurd (Nat.lt_of_lt_of_le (Heap.lt_size (I.ok.bs b o e).1) z) (Nat.lt_irrefl _)
 ·obtain⟨f0,f1,f2,f3,f4,f5⟩:=hf b hb
  rcases List.mem_cons.mp (I.stkSub b hz)with e|e
  ·exact f1 e
  ·exact f2 e
 ·cases i with
  |zero=>simp at h2
  |succ i=>
   have h1':(cp.map (·.2))[i]?=some y:=by
    have z:(x::cp.map (·.2))[i+ 1]?=some y:=h1
    rw[List.getElem?_cons_succ]at z
    exact z
   have h2':(cO cp σ)[i]?=some (some v):=by simpa using h2
   unfold cO at h2'
   rw[List.getElem?_map]at h1' h2'
   cases e:cp[i]? with
   |none=>rw[e]at h1';cases h1'
   |some p=>
    rw[e]at h1' h2'
    simp only[Option.map_some,Option.some.injEq]at h1' h2'
    obtain⟨k1,k2,k3⟩:=c.at' p (List.mem_of_getElem? e)
    subst h1'
    have h2'':σ[p.1]?=some (some v):=by
     cases q:σ[p.1]? with
     |none=>rw[q]at h2';cases h2'
     |some z=>rw[q]at h2';simpa using h2'
    obtain⟨m0,hn0,hl0⟩:=I.loc
    obtain⟨u,r,l⟩:=hl0 p.1 p.2 v k1 h2'' (k2.elim (fun z=> .inr (.inl z)) fun z=> .inr (.inr z))
    refine⟨u,r,.inr ⟨k3,?_⟩⟩
    rcases l with⟨z,_⟩|⟨_,cc,e1,e2⟩
    ·have z':X.env.scope.names.lookup p.2=some .local:=z
     rcases k2 with k|k<;>(rw[z']at k;cases k)
    ·obtain⟨cc',e3⟩:=c.has p.2 k3
     have e4:=c.sub _ _ e3
     rw[e1]at e4
     cases e4
     obtain⟨o,ho,hd⟩:=e2
     exact⟨cc,e3,o,old _ _ ho,hd⟩
 ·obtain⟨v,o,ho,hd⟩:=I.cell y k (c.sub y k e)
  exact⟨v,o,old _ _ ho,hd⟩
 ·have hp':p∈X.pn++ pins:=by
   rcases List.mem_append.mp hp with z|z
   ·exact z
   ·cases z
  obtain⟨e,n,ne,nf,d⟩:=I.pin p hp'
  refine⟨old _ _ e,n,Nat.ne_of_lt (Heap.lt_size e),fun hz=> ?_,d⟩
  rcases List.mem_cons.mp (I.stkSub p.1 hz)with q|q
  ·exact ne q
  ·exact nf q
 ·show(none::cO cp σ).length=(x::cp.map (·.2)).length
  simp[cO]
theorem aB.uncomp{C:Addr}{N':List Str}{σ':St}{H':Hp}{s':Shared}{h'':Heap}(I:aB X pins σ H s)(hC:C=s.heap.objs.size)(hf:∀b∈fp,fR X pins H b)(J:aB (eO X scope cl C N' fp pins s H) [] σ' H' s')(sb:Heap.SameBut C s'.heap h''):
 aB X pins σ H' {s' with heap:=h''}:=by
 have ne:∀b o,s.heap.get? b=some o->b≠C:=fun b o e=>by rw[hC];exact Nat.ne_of_lt (Heap.lt_size e)
 have B:Un (cW X.stack) fp H H' s.heap s'.heap:=J.base
 refine I.call' (s':={s' with heap:=h''}) (ch:=fp) (show s'.os=s.os from J.os) ⟨fun b o e n hb hx=> ?_,fun b o e n hb hx=> ?_,B.free,fun b o e hx=> ?_,B.tups,B.frzs,B.tbls⟩ (fun b ob e=> ?_) J.bare fun b hb=> ?_
 ·exact(sb.2 b (ne b o e)).trans (B.keep b o e n hb hx)
 ·obtain⟨sl,q⟩:=B.slot b o e n hb hx
  exact⟨sl,(sb.2 b (ne b o e)).trans q⟩
 ·obtain⟨o',q⟩:=B.there b o e hx
  exact⟨o',(sb.2 b (ne b o e)).trans q⟩
 ·have hfree:H' C=none:=J.free
  refine(J.hok b ob e).stay (fun k w' hk q=>(sb.2 k ?_).trans q) (fun _ q=>q) fun _ _ q=>q
  rintro rfl
  rcases hk with rfl|hk
  ·rw[hfree]at e;cases e
  ·rw[hfree]at hk;cases hk
 ·obtain⟨f0,f1,f2,f3,f4,f5⟩:=hf b hb
  exact⟨f3,f1,f4,f5⟩
end
def lH(X:Cx)(ifs:List Expr)(t:TT):Prop:=
 ∀(pins:List (Addr×Obj)) (s:Shared) (σ:St) (H:Hp) (Q:Bool->Hp->Prop),aB X pins σ H s->t σ H Q->
  wpAny (model X.prog X.w) X.A (forIn ifs true fun c r=>if r=true then do let ok<- isTrue c X.env (eval c X.env);pure (ForInStep.yield ok) else pure (ForInStep.yield r)) (TP X pins σ Q) X.xe s
def sA:TT:=fun _ H Q=>Q true H
theorem sY{X:Cx}:lH X [] sA:=fun _ _ _ H _ I h=>wpAny_tests_nil ⟨H,I,h⟩
theorem a3E{X:Cx}{c:Expr}{t:TT}(h:PT X c t):lH X [c] t:=fun pins s σ H Q I q=>wpAny_tests_one (h pins s σ H Q I q)
def mL(cp:List (Nat×Str))(tt:TT)(te:TE)(σ:St)(J:It)(D:Addr)(Q:VK)(H1:Hp):Prop:=
 ∃W:Nat->Nat->Hp->Prop,(∃m,W 0 m (upd H1 D (.lst [])))/\∀i m H2,W i m H2->(J.stop i H2/\Q (.ref D) H2)\/
  (J.go i H2/\∃(N:VK) (N':Hp->Prop),(∀y H5,N y H5->∃ys m',H5 D=some (.lst ys)/\ys.length<sizeLine/\m'<m/\W (i+ 1) m' (upd H5 D (.lst (ys++ [y]))))/\(∀H4,N' H4->∃m',m'<m/\W (i+ 1) m' H4)/\
   ∀v H3,J.yld i H2 v H3->tt (some v::cO cp σ) H3 fun b H4=>if b=true then te (some v::cO cp σ) H4 N else N' H4)
def b5R(cp:List (Nat×Str))(wi:TI)(tt:TT)(te:TE):TE:=fun σ H Q=>wi σ H fun J H1=>∀D,H1 D=none->mL cp tt te σ J D Q H1
section
variable{X:Cx}{scope:Scope}{cl:List (Str×Addr)}{cp:List (Nat×Str)}{x:Str}{px pos:Pos}{elt iter:Expr}{ifs:List Expr}{wi:TI}{tt:TT}{te:TE}
theorem b2r{pins:List (Addr×Obj)}{σ:St}{H2:Hp}{s2:Shared}{it:Addr}{fp:List Addr}{tn:Nat->Heap->Prop}{J:It}{Q:VK}{R:Addr->Result->Shared->Prop}{E:Value->Shared->Prop}(c:jJ X scope cl cp)(hcalm:X.calm=true)(hx:scope.names.lookup x=some .local)(hnd:(x::cp.map (·.2)).Nodup)
 (ht:∀C fp pins s H,lH (eO X scope cl C (x::cp.map (·.2)) fp pins s H) ifs tt)(he:∀C fp pins s H,PE (eO X scope cl C (x::cp.map (·.2)) fp pins s H) elt te)
 (I2:aB X pins σ H2 s2)(T:pD X.prog X.w X.K (.Name x px) J fp it tn)(st2:tn 0 s2.heap)(f2:∀b∈fp,fR X pins H2 b)(q:mL cp tt te σ J s2.heap.objs.size Q H2)
 (hR:∀(C:Addr) (H':Hp) (s':Shared),(∃m,s'.heap.Ns C m)->X.s₀.heap.objs.size<=C->H' C=none->C≠X.env.locals->(∀x c,X.env.cells.lookup x=some c->c≠C)->(∀p∈X.pn++ pins,p.1≠C)->(∀h'',Heap.SameBut C s'.heap h''->aB X pins σ H' {s' with heap:=h''})->Q (.ref s2.heap.objs.size) H'->R C (.ok .next) s'):
 wpAny (model X.prog X.w) X.A (newList []) (fun acc s₃=>wpAny (model X.prog X.w) X.A (newFunctionEnv scope X.env.globals cl [] X.env.qual none .none (some X.env)) (fun cenv s₄=>
  acc= .ref s2.heap.objs.size/\codeAny (model X.prog X.w) X.A (.compStart (.ListComp elt [⟨.Name x px,iter,ifs,0⟩] scope pos) 0 (.ref it) acc {cenv with scope:=relabel scope X.env}) (R cenv.locals) s₄) E s₃) E s2:=by
 obtain⟨W,⟨m0,w0⟩,turn⟩:=q
 refine wpAny_newObj_type ?_
 have I3:aB X pins σ (upd H2 s2.heap.objs.size (.lst [])) {s2 with heap:=s2.heap.push {cls:=.type "list",dict:=none,data:=.seq ([]:List Value).toArray}}:=
  I2.lnew (t':=s2.toks) (ys:=[]) (its:=[]) .nil (Nat.zero_le _)
 have fpo:∀b∈fp,b<s2.heap.objs.size:=fun b hb=>by
  obtain⟨o,e,_⟩:=T.obj _ _ st2 b hb
  exact Heap.lt_size e
 have f3:∀b∈fp,fR X pins (upd H2 s2.heap.objs.size (.lst [])) b:=fun b hb=>⟨by rw[aH (Nat.ne_of_lt (fpo b hb))];exact(f2 b hb).1,(f2 b hb).2⟩
 generalize hs3:({s2 with heap:=s2.heap.push {cls:=.type "list",dict:=none,data:=.seq ([]:List Value).toArray}}:Shared)=s3 at I3
 have e3:s3.heap=s2.heap.push {cls:=.type "list",dict:=none,data:=.seq ([]:List Value).toArray}:=by rw[<- hs3]
 have sz3:s2.heap.objs.size<s3.heap.objs.size:=by rw[e3,Heap.size_push];exact Nat.lt_succ_self _
 refine wpAny_newFunctionEnv c.nocell (by intro y hy;cases hy) (fun h₁ hns sb=> ?_) c.kind
 have J3:=b5Y (x:=x) (tk:=s3.toks+ ([]:List (Str×Value)).length) I3 c f3 (fun b hb=>Nat.lt_trans (fpo b hb) sz3) hns sb
 refine⟨rfl,?_⟩
 have st3:tn 0 h₁:=T.keep _ _ _ st2 fun b hb o e=>(sb.2 b (Nat.ne_of_lt (Nat.lt_trans (fpo b hb) sz3))).trans (Heap.get?_push_of_some _ (by rw[e3];exact Heap.get?_push_of_some _ e))
 generalize hX:eO X scope cl s3.heap.objs.size (x::cp.map (·.2)) fp pins s3 (upd H2 s2.heap.objs.size (.lst []))=X' at J3
 have eA:X'.A=X.A:=by rw[<- hX];rfl
 have eP:X'.prog=X.prog:=by rw[<- hX];rfl
 have ew:X'.w=X.w:=by rw[<- hX];rfl
 have eK:X'.K=X.K:=by rw[<- hX];rfl
 have ec:X'.calm=true:=by rw[<- hX];exact hcalm
 have ee:X'.env=compEnvC scope cl s3.heap.objs.size X.env:=by rw[<- hX];rfl
 have ex:X'.xe=fun _ _=>False:=by rw[<- hX];rfl
 have fpX:∀{H':Hp},(∀b∈fp,H' b=none)->∀b∈fp,fR X' [] H' b:=fun hn b hb=>by
  obtain⟨f0,f1,f2',f3',f4,f5⟩:=f3 b hb
  subst hX
  refine⟨hn b hb,Nat.ne_of_lt (Nat.lt_trans (fpo b hb) sz3),fun hz=> ?_,.inl hb,fun y k e=>f4 y k (c.sub y k e),fun p hp=> ?_⟩
  ·rcases List.mem_cons.mp (I3.stkSub b hz)with e|e
   ·exact f1 e
   ·exact f2' e
  ·rcases List.mem_append.mp hp with z|z
   ·exact f5 p z
   ·cases z
 have pT:=ht s3.heap.objs.size fp pins s3 (upd H2 s2.heap.objs.size (.lst []))
 have pE:=he s3.heap.objs.size fp pins s3 (upd H2 s2.heap.objs.size (.lst []))
 have pG:PG X' (.Name x px) (iJ 0):=by
  subst hX
  exact lI hnd rfl (.inl (lookup_relabel_local hx)) (.inr (lookup_relabel_local hx))
 rw[hX]at pT pE
 have loop:codeAny (model X.prog X.w) X.A (.compLoop (.ListComp elt [⟨.Name x px,iter,ifs,0⟩] scope pos) 0 (.ref it) (.ref s2.heap.objs.size) (compEnvC scope cl s3.heap.objs.size X.env)) (R s3.heap.objs.size) {s3 with heap:=h₁,toks:=s3.toks+ ([]:List (Str×Value)).length}:=by
  refine a97 (fun n s'=>∃i o H',aB X' [] (o::cO cp σ) H' s'/\tn i s'.heap/\(∀b∈fp,H' b=none)/\W i n H') ?_ m0 ⟨0,none,_,J3,st3,fun b hb=>(f3 b hb).1,w0⟩
  rintro n s5 ⟨i,o,H5,J5,st5,fr5,w5⟩
  rcases turn i n H5 w5 with⟨stop,qn⟩|⟨go,N,N',hN,hN',step⟩
  ·have z:=T.done X' eP ew eK ec i [] s5 _ H5 (fun _ _=>False) J5 (fpX fr5) st5 stop
   rw[eA]at z
   refine aN z fun r s6 ⟨hr,J6⟩=> ?_
   subst hr
   subst hX
   obtain⟨m6,hn6,_⟩:=J6.loc
   refine hR s3.heap.objs.size H5 s6 ⟨m6,hn6⟩ I3.sz J6.free (Nat.ne_of_gt I3.lt) (fun y k e z=> ?_) (fun p hp z=> ?_) (fun h'' sb'=>I3.uncomp rfl f3 J6 sb') qn
   ·obtain⟨v,w'⟩:=I3.cell y k e
    exact absurd w'.lt (by rw[z];exact Nat.lt_irrefl _)
   ·exact absurd (Heap.lt_size (I3.pin p hp).1) (by rw[z];exact Nat.lt_irrefl _)
  ·have z:=T.item X' eP ew eK ec i [] s5 _ H5 (fun _ _=>False) J5 (fpX fr5) st5 go
   rw[eA]at z
   refine aN z fun r s6 ⟨u,hr,h6⟩=> ?_
   subst hr
   refine aN h6 fun _ s7 ⟨v,H7,J7,r7,y7,st7,fr7⟩=> ?_
   have J7':=J7.pinned (fpX fr7) (T.obj _ _ st7)
   have z8:=pG _ s7 _ H7 v u (fun σ' H'=>σ'=some v::cO cp σ/\H'=H7) J7' r7 ⟨rfl,rfl⟩
   rw[eA,eP,ew,ee,ex]at z8
   refine aN z8 fun _ s8 ⟨σ8,H8,J8,e8,e8'⟩=> ?_
   subst e8 e8'
   have z9:=pT _ s8 _ H8 _ J8 (step v H8 y7)
   rw[eA,eP,ew,ee,ex]at z9
   refine aN z9 fun ok s9 ⟨H9,J9,q9⟩=> ?_
   have fin:∀{H':Hp} {s':Shared},aB X' ([] ++ lN fp s7.heap) (some v::cO cp σ) H' s'->(∃m',m'<n/\W (i+ 1) m' H')->∃m,m<n/\∃i o H',aB X' [] (o::cO cp σ) H' s'/\tn i s'.heap/\(∀b∈fp,H' b=none)/\W i m H':=fun{H' s'} K' ⟨m',hm,w'⟩=>by
    refine⟨m',hm,i+ 1,some v,H',K'.unpinned,T.keep _ _ _ st7 fun b hb ob e=>(K'.pin (b,ob) (List.mem_append_right _ (List.mem_append_right _ (mH hb e)))).1,fun b hb=> ?_,w'⟩
    obtain⟨ob,e,d⟩:=T.obj _ _ st7 b hb
    exact(K'.pin (b,ob) (List.mem_append_right _ (List.mem_append_right _ (mH hb e)))).2.1
   cases ok with
   |false=>
    rw[if_neg Bool.false_ne_true]at q9|-
    exact fin J9 (hN' _ q9)
   |true=>
    rw[if_pos rfl]at q9|-
    have z10:=pE _ s9 _ H9 _ J9 q9
    rw[eA,eP,ew,ee,ex]at z10
    refine aN z10 fun u10 s10 ⟨y,H10,J10,r10,n10⟩=> ?_
    obtain⟨ys,m',hD,hz,hm,w'⟩:=hN y H10 n10
    have z11:=uS (X:=X') _ s10 _ H10 (.ref s2.heap.objs.size) [y] (.ref s2.heap.objs.size) [u10] (fun _ H'=>H'=upd H10 s2.heap.objs.size (.lst (ys++ [y]))) J10 rfl (.cons r10 .nil) ⟨_,ys,y,rfl,rfl,hD,hz,rfl⟩
    rw[eA,eP,ew,ex]at z11
    refine aN z11 fun u11 s11 ⟨y',H11,J11,r11,e11⟩=> ?_
    subst e11
    exact fin J11 ⟨m',hm,w'⟩
 exact codeAny_compStart_list loop (T.self _ 0 _ _ _ st3 loop)
theorem lU(c:jJ X scope cl cp)(hcalm:X.calm=true)(hx:scope.names.lookup x=some .local)(hnd:(x::cp.map (·.2)).Nodup)(hi:PI X (.Name x px) iter wi)
 (ht:∀C fp pins s H,lH (eO X scope cl C (x::cp.map (·.2)) fp pins s H) ifs tt)(he:∀C fp pins s H,PE (eO X scope cl C (x::cp.map (·.2)) fp pins s H) elt te)
 (hs:∀v,foldedSetIterable iter X.env v=pure v:=by intro _;rfl):PE X (.ListComp elt [⟨.Name x px,iter,ifs,0⟩] scope pos) (b5R cp wi tt te):=by
 intro pins s σ H Q I h
 rw[eval_ListComp]
 refine wpAny_comprehension_free (use:=none) (g:=⟨.Name x px,iter,ifs,0⟩) (gs:=[]) (cl:=cl) rfl hs c.clos c.kind c.names ?_
 refine aN (hi pins s σ H _ I h) fun v s1 h1=>aN h1 fun itv s2 h2=> ?_
 obtain⟨it,fp,tn,J,H2,e,I2,T,st2,f2,q⟩:=h2
 subst e
 refine aN (b2r (iter:=iter) (pos:=pos) (R:=fun C=>compPost (model X.prog X.w) X.A X.xe none (EP X pins σ Q) (.ref s2.heap.objs.size) C) c hcalm hx hnd ht he I2 T st2 f2 (q _ (I2.hok.fresh (Nat.le_refl _))) ?_) fun acc s3 h3=>aN h3 fun cenv s4 h4=> ?_
 ·rintro C H' s' ⟨m,hn⟩ _ _ _ _ _ hI hq
  exact⟨m,hn,fun h'' sb=>⟨.ref s2.heap.objs.size,H',hI h'' sb,rfl,hq⟩⟩
 ·obtain⟨e,h4⟩:=h4
  subst e
  exact h4
end
theorem a98:∀{bs:List Bool} {us:List Value},aV (bs.map V.bl) us->∀(i:Nat) (v:Value),us[i]?=some v->∃b:Bool,bs[i]?=some b/\v=Value.bool b
 | [],_,.nil,i,v,h=>by simp at h
 |b::bs,u::us,.cons r t,0,v,h=>by
  simp at h
  subst h
  cases r
  exact⟨b,rfl,rfl⟩
 |b::bs,u::us,.cons r t,i+ 1,v,h=>by
  obtain⟨b',e1,e2⟩:=a98 t i v (by simpa using h)
  exact⟨b',by simpa using e1,e2⟩
section
variable{X:Cx}
theorem b0u(hc:X.calm=true):fO X (.builtin "all") (fun xs H Q=>∃(a:Addr) (bs:List Bool),xs= [.ref a] /\aS X.K H a (bs.map V.bl)/\Q (.bl (bs.all id)) H):=by
 intro pins s σ H xs us Q I r h
 obtain⟨a,bs,rfl,hq,q⟩:=h
 obtain⟨u,rfl,ru⟩:=r.one
 cases ru
 obtain⟨its,rv,pl,hz⟩:=I.list hq
 have hl:s.heap.IsList a its.toArray:=pl.isList
 have hlt:a<s.heap.objs.size:=by obtain⟨_,e,_⟩:=hl;exact Heap.lt_size e
 refine call_all_walk (wpAny_pyIter_list hl ?_)
 refine⟨s.heap.objs.size,[s.heap.objs.size,a],[s.heap.objs.size],its.toArray.size,_,_,fun i=>(bs[i]?).getD true,rfl,Walks.list (A:=X.A.in1) (I.ok.hd hc) _ a (Nat.ne_of_lt hlt) its.toArray,
  ⟨⟨_,Heap.get?_push_size _ rfl,rfl,rfl⟩,hl.push _⟩,fun i v s' Q' E' hP hQ=> ?_,fun h' tk hk=> ?_⟩
 ·obtain⟨b,e,rfl⟩:=a98 rv i v (by simpa using hP)
  simp only[e,Option.getD_some]at hQ
  exact wpAny_truthy_bool hQ
 ·have e:((List.range its.toArray.size).all fun i=>(bs[i]?).getD true)=bs.all id:=by
   have:=rv.length
   rw[List.length_map]at this
   rw[List.size_toArray,<- this]
   exact PyProof.Rows.LSm.range_all bs
  rw[e]
  refine⟨.bl _,H,I.kept (t':=tk) fun b o e'=>hk b o (fun hm=> ?_) (Heap.get?_push_of_some _ e'),rfl,q⟩
  rw[List.mem_singleton.mp hm]at e'
  exact Nat.lt_irrefl _ (Heap.lt_size e')
end
structure bG(P:Program)(w:World)(K:Fg)(mg:Str->Option Value)(base:Heap)(CX:cZ)(k:Nat)(x:Str)(ps:List Str)(sp:Sp):Prop where
 ex:∃f fd,dW P w K mg base CX k f fd ps sp/\mg x=some (.ref f)/\PySem.W.keepIn K (.ref f)=true/\fW K fd ps []
section
variable{X:Cx}{CX:cZ}{k:Nat}{ps:List Str}{sp:Sp}{E:XK}{x:Str}{p pos:Pos}{e:Expr}{es:List Expr}{t:TA}
theorem bZ(G:bG X.prog X.w X.K X.mg X.base CX k x ps sp)(hr:bJ k X.A)(hx:fI CX X E)(ha:PA X (e::es) t)(hg:Gl X x:=by rfl)(hdb:(x==("__debug__":Str))=false:=by decide)
 (he:starEach (e::es) X.env=(false,eval e X.env)::starEach es X.env:=by rfl)(hpl:(backTo pos (starEach es X.env)).any (·.1)=false:=by rfl):PE X (.Call (.Name x p) (e::es) [] pos) (b1p sp [] E t):=by
 obtain⟨f,fd,F,hm,hk,hb⟩:=G.ex
 exact b5x F hr hg hm hk hb .nil hx ha hdb he hpl
end
def kN(D:Addr)(Pv:Nat->List V->Hp->Prop)(i:Nat)(ys:List V):VK:=fun y H5=>H5 D=some (.lst ys)/\ys.length<sizeLine/\Pv (i+ 1) (ys++ [y]) (upd H5 D (.lst (ys++ [y])))
theorem a9F{cp:List (Nat×Str)}{te:TE}{σ:St}{J:It}{n:Nat}{D:Addr}{Q:VK}{H1:Hp}(Pv:Nat->List V->Hp->Prop)(h0:Pv 0 [] (upd H1 D (.lst [])))
 (hg:∀i ys H,H D=some (.lst ys)->Pv i ys H->(i<n->J.go i H)/\(i=n->J.stop i H))
 (hs:∀i ys H v H',i<n->H D=some (.lst ys)->Pv i ys H->J.yld i H v H'->te (some v::cO cp σ) H' (kN D Pv i ys))
 (hd:∀ys H,H D=some (.lst ys)->Pv n ys H->Q (.ref D) H):mL cp sA te σ J D Q H1:=by
 refine⟨fun i m H=>m=n- i/\i<=n/\∃ys,H D=some (.lst ys)/\Pv i ys H,⟨n,by simp,Nat.zero_le _,[],aG,h0⟩,?_⟩
 rintro i m H ⟨rfl,hi,ys,hD,p⟩
 by_cases hlt:i<n
 ·refine .inr ⟨(hg i ys H hD p).1 hlt,kN D Pv i ys,fun _=>False,fun y H5 ⟨h1,h2,h3⟩=>⟨ys,n- (i+ 1),h1,h2,by omega,rfl,hlt,_,aG,h3⟩,fun _ z=>z.elim,fun v H' y=> ?_⟩
  exact hs i ys H v H' hlt hD p y
 ·have e:i=n:=by omega
  subst e
  exact .inl ⟨(hg i ys H hD p).2 rfl,hd ys H hD p⟩
theorem b4K{cp:List (Nat×Str)}{te:TE}{σ:St}{x:Str}{D:Addr}{Q:VK}{H1:Hp}(Pv:Nat->List V->Hp->Prop)(h0:Pv 0 [] (upd H1 D (.lst [])))
 (hs:∀i c ys H,x.cps[i]?=some c->H D=some (.lst ys)->Pv i ys H->te (some (.str ⟨#[c]⟩)::cO cp σ) H (kN D Pv i ys))
 (hd:∀ys H,H D=some (.lst ys)->Pv x.cps.size ys H->Q (.ref D) H):mL cp sA te σ (sR x) D Q H1:=
 a9F (n:=x.cps.size) Pv h0 (fun i ys H _ _=>⟨fun h=>h,fun h=>by subst h;exact Nat.le_refl _⟩) (fun i ys H v H' hi hD p y=>by
  obtain⟨e,c,hc,rfl⟩:=y
  subst e
  exact hs i c ys _ hc hD p) hd
theorem a8b{K:Fg}{cp:List (Nat×Str)}{te:TE}{σ:St}{a:Addr}{xs:List V}{D:Addr}{Q:VK}{H1:Hp}(Pv:Nat->List V->Hp->Prop)(h0:Pv 0 [] (upd H1 D (.lst [])))
 (hl:∀i ys H,H D=some (.lst ys)->Pv i ys H->aS K H a xs)
 (hs:∀i x ys H,xs[i]?=some x->H D=some (.lst ys)->Pv i ys H->te (some x::cO cp σ) H (kN D Pv i ys))
 (hd:∀ys H,H D=some (.lst ys)->Pv xs.length ys H->Q (.ref D) H):mL cp sA te σ (kC K a) D Q H1:=
 a9F (n:=xs.length) Pv h0 (fun i ys H hD p=>⟨fun h=>⟨xs,xs[i],hl i ys H hD p,by simp[h]⟩,fun h=>by subst h;exact⟨xs,hl _ ys H hD p,Nat.le_refl _⟩⟩) (fun i ys H v H' hi hD p y=>by
  obtain⟨e,y⟩:=y
  subst e
  exact hs i v ys _ (y xs (hl i ys _ hD p)) hD p) hd
inductive Kd where
 |non|bl|int|str|lst|tup|dct
 deriving DecidableEq
def Kd.nm:Kd->String
 | .non=> "NoneType"| .bl=> "bool"| .int=> "int"| .str=> "str"| .lst=> "list"| .tup=> "tuple"| .dct=> "dict"
theorem rM(K:Fg)(a:Kd):PySem.W.kitOne K (.type a.nm) (.type "int")=some (decide (a= .int\/ a= .bl)):=by cases a<;>kernel_rfl
theorem a4a(K:Fg)(a:Kd):PySem.W.kitOne K (.type a.nm) (.type "bool")=some (decide (a= .bl)):=by cases a<;>kernel_rfl
theorem eT(K:Fg)(a:Kd):PySem.W.kitOne K (.type a.nm) (.type "str")=some (decide (a= .str)):=by cases a<;>kernel_rfl
theorem b0g(K:Fg)(a:Kd):PySem.W.kitOne K (.type a.nm) (.type "list")=some (decide (a= .lst)):=by cases a<;>kernel_rfl
theorem b5m(K:Fg)(a:Kd):PySem.W.kitOne K (.type a.nm) (.type "tuple")=some (decide (a= .tup)):=by cases a<;>kernel_rfl
noncomputable def gA:PyData->Kd
 | .none=> .non| .bool _=> .bl| .int _=> .int| .str _=> .str| .list _=> .lst| .tuple _=> .tup| .dict _=> .dct
theorem gO{X:Cx}:fO X (.builtin "isinstance") (fun xs H Q=>∃x T d k,xs= [x,.ty T] /\Dt X.K H x d/\PySem.W.kitOne X.K (.type (gA d).nm) (.type T)=some k/\Q (.bl k) H):=by
 intro pins s σ H xs us Q I r h
 obtain⟨x,T,d,k,rfl,hd,e,q⟩:=h
 obtain⟨u,c,rfl,r1,r2⟩:=r.two
 cases r2
 have fin:∀tk,EP X pins σ Q (.bool k) {s with toks:=tk}:=fun tk=>⟨.bl k,H,I.tok tk,rfl,q⟩
 cases hd with
 |non=>cases r1;exact PySem.W.kia_one PySem.W.kitx_none I.kIn True.intro e (fun z=>nomatch z) fin
 |bl b=>cases r1;exact PySem.W.kia_one PySem.W.kitx_bool I.kIn True.intro e (fun z=>nomatch z) fin
 |int i=>obtain⟨t,rfl⟩:=r1;exact PySem.W.kia_one PySem.W.kitx_int I.kIn True.intro e (fun z=>nomatch z) fin
 |str z=>obtain⟨t,rfl⟩:=r1;exact PySem.W.kia_one PySem.W.kitx_str I.kIn True.intro e (fun z=>nomatch z) fin
 |lst hq _=>
  cases r1
  obtain⟨its,_,⟨o,n,eo,hc,_,_⟩,_⟩:=I.list hq
  exact PySem.W.kia_one PySem.W.kitx_list I.kIn ⟨o,eo,hc⟩ e (fun z=>nomatch z) fin
 |tup hq _=>
  cases r1
  obtain⟨its,_,⟨o,eo,hc,_⟩,_⟩:=I.tuple hq
  exact PySem.W.kia_one PySem.W.kitx_tuple I.kIn ⟨o,eo,hc⟩ e (fun z=>nomatch z) fin
 |dK ea=>
  cases r1
  obtain⟨_,_,vs,_,o,es,ep,h1,h2,_⟩:=I.hok _ _ ea
  exact PySem.W.kia_one PySem.W.kitx_dict I.kIn ⟨o,h1,h2.1⟩ e (fun z=>nomatch z) fin
 |dT ea=>
  cases r1
  obtain⟨_,_,zs,_,o,es,ep,h1,h2,_⟩:=I.hok _ _ ea
  exact PySem.W.kia_one PySem.W.kitx_dict I.kIn ⟨o,h1,h2.1⟩ e (fun z=>nomatch z) fin
theorem a3G{X:Cx}{scope:Scope}(kind:scope.kind= .function:=by rfl)(plain:∀y∈scope.names,y.2= .local\/ y.2= .globalImplicit:=by decide)(names:∀y∈scope.names,y.2= .local->scope.names.lookup y.1=some .local:=by decide+kernel):jJ X scope [] [] where
 kind:=kind
 nocell:=fun y hy z=>by rcases plain y hy with h|h<;>rw[h]at z<;>cases z
 names:=names
 clos:=closureFor_none fun y hy z=>by rcases plain y hy with h|h<;>rw[h]at z<;>cases z
 sub:=fun x c e=>by cases e
 has:=fun x h=>by
  have hm:∀(k:NameKind),(relabel scope X.env).names.lookup x=some k->k= .local\/ k= .globalImplicit:=fun k e=>by
   have m:=PySem.mem_of_lookup e
   unfold relabel at m
   obtain⟨⟨n,k'⟩,hy,e'⟩:=List.mem_map.mp m
   have q:=plain _ hy
   have nf:(k'==NameKind.free)=false:=by rcases q with h|h<;>(have h':k'=_:=h;subst h';rfl)
   simp only[nf,Bool.false_and,Bool.false_eq_true,if_false]at e'
   have:k'=k:=congrArg (·.2) e'
   rw[<- this]
   exact q
  rcases h with h|h
  ·rcases hm _ h with z|z<;>cases z
  ·rcases hm _ h with z|z<;>cases z
 at':=fun p hp=>by cases hp
structure dJ(K:Fg)(mg:Str->Option Value)(x:Str)(st:Stmt):Prop where
 ex:∃f fd,gM K x x st f fd/\mg x=some (.ref f)
section
variable{P:Program}{w:World}{K:Fg}{mg:Str->Option Value}{base:Heap}
theorem eU{h:Heap}{x:Str}{st:Stmt}{f:Addr}{oc:Value}{od an:Option Addr}{osl:Array (Option Value)}{kV doc pm cdv ct:Value}(X:K.In h)(G:h.Ns mainGlobals mg)(a:PySem.W.nsIn K mainGlobals x=some (some (.ref f)))
 (l:K.lookup f=some ⟨oc,od,.func (PySem.W.fnOf x x (aP st) (aL st) (aC st) .none kV doc pm an cdv ct),osl⟩)(c:PySem.W.codeIn K cdv x=true)(k:PySem.W.keepIn K (.ref f)=true):dJ K mg x st:=
 ⟨f,_,a9x l c k,PySem.W.mg_of X G a⟩
theorem dJ.known{x:Str}{st:Stmt}{N ps:List Str}{k:Nat}{sp:Sp}(D:dJ K mg x st)(S:bB N ps (aC st))
 (hb:∀(kV doc pm:Value) (an:Option Addr) (cdv ct:Value) (us:List Value),us.length=ps.length->bindArgs (PySem.W.fnOf x x (aP st) (aL st) (aC st) .none kV doc pm an cdv ct) ⟨us,[]⟩=pure (ps.zip us))
 (len:∀vs H Q E,sp vs H Q E->vs.length=ps.length)
 (hbody:∀(f:Addr) (cdv:Value) (A:Around) (outer:List Env) (s:Shared) (H:Hp) (vs:List V) (Q:VK) (E:XK),bJ k (A.deeper (envOfC x (aC st) s.heap.objs.size f cdv))->sp vs H Q E->
  ∃t,cD (dQ aJ P w K mg base N x (aC st) f cdv A outer s H E).nox (aL st) t/\t {nx:=fun _ H'=>Q .non H',rt:=Q} (gF N vs) H):bG P w K mg base aJ (k+ 1) x ps sp:=by
 obtain⟨f,fd,F,hm⟩:=D.ex
 exact⟨f,fd,F.ok S len fun cdv A outer s H vs Q E hr h=>hbody f cdv A outer s H vs Q E hr h,hm,F.kp,F.binds hb⟩
end
theorem aD.new{H:Hp}{D:Addr}{o:HO}(h:H D=none):aD H (upd H D o):=fun b u e=>by rw[aH (aU e h)];exact e
theorem aD.on{H H2:Hp}{D:Addr}{o:HO}(e:aD H H2)(h:H D=none):aD H (upd H2 D o):=fun b u z=>by rw[aH (aU z h)];exact e b u z
abbrev one(c:Nat):Str:=⟨#[c]⟩
theorem b06{α:Type}(xs:List α)(i:Int)(h0:0<=i)(h:i<xs.length):∃v,gB xs i=some v/\xs[i.toNat]?=some v:=by
 have e:i=(i.toNat:Int):=by omega
 have hl:i.toNat<xs.length:=by omega
 generalize i.toNat=j at e hl
 subst e
 exact⟨_,b1O (List.getElem?_eq_getElem hl),List.getElem?_eq_getElem hl⟩
theorem lG{K:Fg}{H:Hp}:∀zs:List Str,cX K H (zs.map V.str) (zs.map PyData.str)
 | []=> .nil
 |z::r=> .cons (.str z) (lG r)
theorem sl{n:Nat}(h:n<=1000:=by simp):n<=sizeLine:=Nat.le_of_lt (dN h)
theorem b03:bootBuiltins "all"=some (.builtin "all"):=by kernel_rfl
theorem cL:bootBuiltins "isinstance"=some (.builtin "isinstance"):=by kernel_rfl
theorem b3z:bootBuiltins "abs"=some (.builtin "abs"):=by kernel_rfl
theorem gX:bootBuiltins "len"=some (.builtin "len"):=by kernel_rfl
theorem a9z:bootBuiltins "int"=some (.type "int"):=by kernel_rfl
theorem b0c:bootBuiltins "bool"=some (.type "bool"):=by kernel_rfl
theorem lO:bootBuiltins "str"=some (.type "str"):=by kernel_rfl
theorem kW:bootBuiltins "list"=some (.type "list"):=by kernel_rfl
theorem b5z:bootBuiltins "tuple"=some (.type "tuple"):=by kernel_rfl
def mB(h:Heap)(ea T:Addr)(C:Value):Prop:=
 ∃oe vs oT ts,h.get? ea=some oe/\oe.cls=C/\oe.dict=none/\oe.data= .fields vs/\vs[1]?=some (.ref T)/\T≠ea/\h.get? T=some oT/\oT.data= .fields ts/\ts[3]?=some .none
structure iP(fs own:List Addr)(h h':Heap):Prop where
 keep:∀b o,b∉own->b∉fs->h.get? b=some o->h'.get? b=some o
 slot:∀b o,b∉own->h.get? b=some o->∃sl,h'.get? b=some {o with slots:=sl}
theorem b20(o:Obj)(g:Array Value->Array Value):(o.mapFields g).dict=o.dict:=by
 obtain⟨c,d,dt,sl⟩:=o
 cases dt<;>rfl
section
variable{M:Model}{A:Around}{E:Value->Shared->Prop}{s:Shared}{base:Heap}{env:Env}{outer:List Env}{L ea T:Addr}{C:Value}
theorem a9t{oe:Obj}{vs:Array Value}{head:Value}{hadNext:Bool}{Q:Unit->Shared->Prop}(hfr:A.frames=some (env::outer))(hl:s.heap.FunFrames base (env::outer))(hf:env.frame=some L)
 (he:s.heap.get? ea=some oe)(hdn:oe.dict=none)(hd:oe.data= .fields vs)(hsz:1<vs.size)
 (k:∀h' T',s.heap.objs.size<=T'->mB h' ea T' oe.cls->iP (cW (env::outer)) [ea] s.heap h'->Q () {s with heap:=h'}):
 wpAny M A (do let a<- frameOf env;let pl<- entryPlaceOf L hadNext;let b<- EntryCells.newEntry head a .none (rawInt L) .none pl;setField (.ref ea) 1 b) (fun _ s'=>wpAny M A (setFlight (.ref ea) none) Q E s') E s:=by
 have nfr:ea∉cW (env::outer):=fun hm=>by
  obtain⟨_,o,ho,hnf⟩:=hl.mem hm
  rw[he]at ho
  cases ho
  exact hnf vs hd
 refine wpAny_bind (wpAny_frameOf_fun hfr hl hf fun g so=> ?_)
 refine wpAny_bind (wpAny_entryPlaceOf fun pl hpl=> ?_)
 unfold EntryCells.newEntry newFields
 refine wpAny_bind (wpAny_newObj_type ?_ (hpl.sizeOk5 _ _ _ _ _))
 have hts:3<([head,.ref L,.none,rawInt L,.none] ++ (if pl.isEmpty then List.replicate 6 Value.none else pl)).toArray.size:=by
  rw[List.size_toArray,List.length_append]
  exact Nat.lt_of_lt_of_le (by decide:3<5) (Nat.le_add_right _ _)
 generalize ([head,.ref L,.none,rawInt L,.none] ++ (if pl.isEmpty then List.replicate 6 Value.none else pl)).toArray=ts at hts
 have g1:g.get? ea=some oe:=(so.2.1 ea nfr).trans he
 have gT:g.objs.size=s.heap.objs.size:=so.1
 have neT:g.objs.size≠ea:=Nat.ne_of_gt (Heap.lt_size g1)
 have g2:=Heap.get?_push_of_some (h:=g) ({cls:=.type "traceback",dict:=none,data:=.fields ts}:Obj) g1
 refine wpAny_setField g2 hd hsz ?_
 have d3:=Obj.data_mapFields hd (·.setIfInBounds 1 (Value.ref g.objs.size))
 have g3:=Heap.get?_update_self (Obj.mapFields (·.setIfInBounds 1 (Value.ref g.objs.size))) g2 (Obj.isFreed_of_fields d3)
 have t3:((g.push ({cls:=.type "traceback",dict:=none,data:=.fields ts}:Obj)).update ea (Obj.mapFields (·.setIfInBounds 1 (Value.ref g.objs.size)))).get? g.objs.size=some {cls:=.type "traceback",dict:=none,data:=.fields ts}:=
  (Heap.get?_update_other _ _ (Ne.symm neT)).trans (Heap.get?_push_size g rfl)
 unfold setFlight
 refine wpAny_bind (wpAny_field g3 d3 (x:=.ref g.objs.size) (by simp[hsz]) ?_)
 rw[if_pos (show(Value.ref g.objs.size !=Value.none)=true from by simp)]
 refine wpAny_setField t3 rfl hts ?_
 have d4:=Obj.data_mapFields (o:=({cls:=.type "traceback",dict:=none,data:=.fields ts}:Obj)) (vs:=ts) rfl (·.setIfInBounds 3 ((none:Option Addr).elim Value.none fun f=>rawInt f))
 refine k _ g.objs.size (by rw[gT];exact Nat.le_refl _) ⟨_,_,_,_,(Heap.get?_update_other _ _ neT).trans g3,Obj.cls_mapFields _ _,(b20 _ _).trans hdn,d3,by simp[hsz],neT,Heap.get?_update_self _ t3 (Obj.isFreed_of_fields d4),d4,by simp[hts]⟩ ?_
 have up:∀b o,b≠ea->g.get? b=some o->(((g.push ({cls:=.type "traceback",dict:=none,data:=.fields ts}:Obj)).update ea (Obj.mapFields (·.setIfInBounds 1 (Value.ref g.objs.size)))).update g.objs.size (Obj.mapFields (·.setIfInBounds 3 ((none:Option Addr).elim Value.none fun f=>rawInt f)))).get? b=some o:=fun b o nb hb=>
  (Heap.get?_update_other _ _ (Nat.ne_of_gt (Heap.lt_size hb))).trans ((Heap.get?_update_other _ _ (Ne.symm nb)).trans (Heap.get?_push_of_some _ hb))
 refine⟨fun b o nb nf hb=>up b o (fun z=>nb (by simp[z])) ((so.2.1 b nf).trans hb),fun b o nb hb=> ?_⟩
 obtain⟨sl,hs⟩:=so.2.2 b o hb
 exact⟨sl,up b _ (fun z=>nb (by simp[z])) hs⟩
theorem b4s{oe:Obj}{vs:Array Value}{Q:Unit->Shared->Prop}(hfr:A.frames=some (env::outer))(hl:s.heap.FunFrames base (env::outer))(hf:env.frame=some L)
 (he:s.heap.get? ea=some oe)(hdn:oe.dict=none)(hd:oe.data= .fields vs)(h1:vs[1]?=some .none)
 (k:∀h' T',s.heap.objs.size<=T'->mB h' ea T' oe.cls->iP (cW (env::outer)) [ea] s.heap h'->Q () {s with heap:=h'}):wpAny M A (leaving env (.ref ea)) Q E s:=by
 unfold leaving noteFrame
 simp only[hf]
 refine wpAny_bind (wpAny_bind (wpAny_field he hd h1 ?_))
 rw[if_neg (by decide)]
 exact a9t hfr hl hf he hdn hd (Array.getElem?_eq_some_iff.mp h1).1 k
theorem a9W{Q:Unit->Shared->Prop}(hfr:A.frames=some (env::outer))(hl:s.heap.FunFrames base (env::outer))(hf:env.frame=some L)(hx:mB s.heap ea T C)
 (k:∀h' T',s.heap.objs.size<=T'->mB h' ea T' C->iP (cW (env::outer)) [ea,T] s.heap h'->Q () {s with heap:=h'}):
 wpAny M A (noteFrame (.ref ea) env) (fun _ s'=>wpAny M A (setFlight (.ref ea) none) Q E s') E s:=by
 obtain⟨oe,vs,oT,ts,he,hc,hdn,hd,h1,hTe,hT,hdT,h3⟩:=hx
 subst hc
 unfold noteFrame
 simp only[hf]
 refine wpAny_bind (wpAny_field he hd h1 ?_)
 rw[if_pos (show(Value.ref T !=Value.none)=true from by simp)]
 refine wpAny_bind (wpAny_field hT hdT h3 ?_)
 rw[if_neg (show¬((Value.none==rawInt L)=true) from by simp[rawInt])]
 refine wpAny_bind (wpAny_setField hT hdT (Array.getElem?_eq_some_iff.mp h3).1 ?_)
 have far:∀b,b≠T->(s.heap.update T (Obj.mapFields (·.setIfInBounds 3 Value.none))).get? b=s.heap.get? b:=fun b nb=>Heap.get?_update_other _ _ (Ne.symm nb)
 have nT:T∉cW (env::outer):=fun hm=>by
  obtain⟨_,o,ho,hnf⟩:=hl.mem hm
  rw[hT]at ho
  cases ho
  exact hnf ts hdT
 have hl2:(s.heap.update T (Obj.mapFields (·.setIfInBounds 3 Value.none))).FunFrames base (env::outer):=hl.of_keeps fun b o hb hnf=>⟨o,(far b fun z=>by
  rw[z,hT]at hb
  cases hb
  exact hnf ts hdT).trans hb,rfl⟩
 refine a9t (s:={s with heap:=s.heap.update T (Obj.mapFields (·.setIfInBounds 3 Value.none))}) hfr hl2 hf ((far ea (Ne.symm hTe)).trans he) hdn hd (Array.getElem?_eq_some_iff.mp h1).1 fun h' T' hT' hfly hflew=> ?_
 refine k h' T' (by simpa using hT') hfly ⟨fun b o nb nf hb=>hflew.keep b o (fun z=>nb (by simp at z;simp[z])) nf ((far b fun z=>nb (by simp[z])).trans hb),fun b o nb hb=>hflew.slot b o (fun z=>nb (by simp at z;simp[z])) ((far b fun z=>nb (by simp[z])).trans hb)⟩
end
theorem cF.there{P:Program}{w:World}{H:Hp}{h:Heap}{a:Addr}{o:HO}(x:cF P w H h a o):∃ob,h.get? a=some ob:=by
 cases o with
 |lst xs=>obtain⟨_,_,_,_,e⟩:=x;exact⟨_,e⟩
 |tup xs=>obtain⟨_,_,_,o,e,_⟩:=x;exact⟨_,e⟩
 |dK kvs=>obtain⟨_,_,_,_,o,_,_,e,_⟩:=x;exact⟨_,e⟩
 |dT kvs=>obtain⟨_,_,_,_,o,_,_,e,_⟩:=x;exact⟨_,e⟩
 |set S n=>obtain⟨o,_,_,_,e,_⟩:=x;exact⟨_,e⟩
 |ins C dx fs=>obtain⟨_,_,_,e,_⟩:=x;exact⟨_,e⟩
 |own y=>exact x
 |xd fs=>obtain⟨_,⟨_,_,_,e,_⟩,_⟩:=x;exact⟨_,e⟩
 |rng lo hi=>obtain⟨_,_,_,e⟩:=x;exact⟨_,e⟩
 |frz ob u=>obtain⟨e,_⟩:=x;exact⟨_,e⟩
 |tbl ps=>exact⟨_,x⟩
 |met f y=>exact⟨_,x⟩
 |ext φ=>obtain⟨_,e,_⟩:=x;exact e
def bR(P:Program)(w:World):cZ:=fun outer H s E e s'=>∃(ea T:Addr) (C:Value) (H':Hp),e= .ref ea/\s'.os=s.os/\AllBare s'.gens/\Un (cW outer) [] H H' s.heap s'.heap/\bY P w H' s'.heap/\
 mB s'.heap ea T C/\s.heap.get? ea=none/\s.heap.get? T=none/\H' ea=none/\H' T=none/\E C none H'
theorem b48{P:Program}{w:World}{outer:List Env}{H:Hp}{s s':Shared}{e:Value}(h:bR P w outer H s E0 e s'):False:=by
 obtain⟨_,_,_,_,_,_,_,_,_,_,_,_,_,_,q⟩:=h
 exact q
theorem a7t{P:Program}{w:World}{X:Cx}:fI (bR P w) X E0:=fun _ _ _ _ _ _ _ h=>(b48 h).elim
section
variable{P:Program}{w:World}{K:Fg}{mg:Str->Option Value}{base:Heap}{N:List Str}{qual:Str}{scope:Scope}{f:Addr}{cd:Value}{A:Around}{outer:List Env}{s:Shared}{H:Hp}{E:XK}
abbrev dO(P:Program)(w:World)(K:Fg)(mg:Str->Option Value)(base:Heap)(N:List Str)(qual:Str)(scope:Scope)(f:Addr)(cd:Value)(A:Around)(outer:List Env)(s:Shared)(H:Hp)(E:XK):Cx:=dQ (bR P w) P w K mg base N qual scope f cd A outer s H E
theorem iP.un{fs own:List Addr}{H0 H2:Hp}{h0 h2 h3:Heap}{L:Addr}{os:List Addr}(u:Un os [] H0 H2 h0 h2)(fl:iP fs own h2 h3)(hfs:∀b∈fs,b=L\/ b∈os)(hL:h0.objs.size<=L)(hown:∀b∈own,h0.get? b=none):Un os [] H0 H2 h0 h3:=by
 have no:∀b o,h0.get? b=some o->b∉own:=fun b o e z=>by rw[hown b z]at e;cases e
 have nL:∀b o,h0.get? b=some o->b≠L:=fun b o e=>Nat.ne_of_lt (Nat.lt_of_lt_of_le (Heap.lt_size e) hL)
 refine⟨fun b o e n hb hx=>fl.keep b o (no b o e) (fun z=>(hfs b z).elim (nL b o e) hb) (u.keep b o e n hb hx),fun b o e n hb hx=> ?_,u.free,fun b o e hx=> ?_,u.tups,u.frzs,u.tbls⟩
 ·obtain⟨sl,e1⟩:=u.slot b o e n hb hx
  obtain⟨sl',e2⟩:=fl.slot b _ (no b o e) e1
  exact⟨sl',e2⟩
 ·obtain⟨o',e1⟩:=u.there b o e hx
  obtain⟨sl',e2⟩:=fl.slot b _ (no b o e) e1
  exact⟨_,e2⟩
theorem iP.hok{fs own:List Addr}{H2:Hp}{h2 h3:Heap}(x:bY P w H2 h2)(fl:iP fs own h2 h3)(hfs:∀b∈fs,H2 b=none)(hown:∀b∈own,H2 b=none):bY P w H2 h3:=fun b o e=>
 (x b o e).stay (fun c u hc q=>fl.keep c u (fun z=>by
  rcases hc with rfl|hc
  ·rw[hown _ z]at e;cases e
  ·rw[hown _ z]at hc;cases hc) (fun z=>by
  rcases hc with rfl|hc
  ·rw[hfs _ z]at e;cases e
  ·rw[hfs _ z]at hc;cases hc) q) (fun _ q=>q) fun _ _ q=>q
theorem b02{pins:List (Addr×Obj)}{σ:St}{H2:Hp}{s2:Shared}{h3:Heap}{own:List Addr}{ea T3:Addr}{C:Value}(I2:aB (dO P w K mg base N qual scope f cd A outer s H E) pins σ H2 s2)(fly:mB h3 ea T3 C)
 (fl:iP (cW ((dO P w K mg base N qual scope f cd A outer s H E).env::outer)) own s2.heap h3)(hown:∀b∈own,s.heap.get? b=none/\H2 b=none)(hea:s.heap.get? ea=none/\H2 ea=none)(hT:s2.heap.objs.size<=T3)(q:E C none H2):
 bR P w outer H s E (.ref ea) {s2 with heap:=h3}:=by
 have B:Un (cW outer) [] H H2 s.heap s2.heap:=I2.base
 have hfs:∀b∈cW ((dO P w K mg base N qual scope f cd A outer s H E).env::outer),b=(dO P w K mg base N qual scope f cd A outer s H E).env.locals\/ b∈cW outer:=fun b hb=>List.mem_cons.mp (I2.stkSub b hb)
 refine⟨ea,T3,C,H2,rfl,I2.os,I2.bare,fl.un B hfs (Nat.le_refl _) (fun b hb=>(hown b hb).1),fl.hok I2.hok (fun b hb=>I2.stkFree b hb) (fun b hb=>(hown b hb).2),fly,hea.1,?_,hea.2,I2.hok.fresh hT,q⟩
 exact Heap.get?_none_of_le (Nat.le_trans I2.sz hT)
theorem fH:fI (bR P w) (dO P w K mg base N qual scope f cd A outer s H E) E:=by
 intro pins σ H1 s1 e s2 I hq
 obtain⟨ea,T,C,H2,rfl,os,bare,un,hok,fly,n1,n2,f1,f2,q⟩:=hq
 have I2:aB (dO P w K mg base N qual scope f cd A outer s H E) pins σ H2 s2:=I.call' os un hok bare (fun b z=>absurd z (by simp))
 have old:∀b,s1.heap.get? b=none->s.heap.get? b=none:=fun b e=>by
  cases z:s.heap.get? b with
  |none=>rfl
  |some o=>
   obtain⟨o',e'⟩:=I.base.there b o z (by intro hz;cases hz)
   rw[e]at e'
   cases e'
 show wpAny (model P w) (dO P w K mg base N qual scope f cd A outer s H E).A (leaving (dO P w K mg base N qual scope f cd A outer s H E).env (.ref ea)) _ _ s2
 unfold leaving
 refine wpAny_bind (a9W (base:=base) I.ok.frames I2.stack rfl fly fun h3 T3 hT3 fly3 flew=> ?_)
 refine b02 I2 fly3 flew (fun b hb=> ?_) ⟨old ea n1,f1⟩ hT3 q
 simp only[List.mem_cons,List.not_mem_nil,or_false]at hb
 rcases hb with rfl|rfl
 ·exact⟨old _ n1,f1⟩
 ·exact⟨old _ n2,f2⟩
end
abbrev jM:List Value:=[.type "ValueError",.type "Exception",.type "BaseException",.type "object"]
theorem b1B{K:Fg}{h:Heap}{mg:Str->Option Value}{x:Str}{C:Addr}{bmB:List Value}{newId:String}(X:K.In h)(hm:mg x=some (.ref C))(q:PySem.W.excIn K C bmB newId=true):OwnCls x C bmB newId mg h:=by
 refine⟨hm,?_⟩
 unfold PySem.W.excIn at q
 split at q
 ·rename_i dd cdt sl ho
  split at q
  ·rename_i C' bm k0 k1 k2 k3 n k5 hmr hs
   simp only[Bool.and_eq_true,beq_iff_eq,Bool.not_eq_true']at q
   obtain⟨⟨⟨⟨⟨q1,q2⟩,q3⟩,q4⟩,q5⟩,q6⟩:=q
   subst q1 q2
   obtain⟨nm,bs,mro,ns,qn,hd,sn,sub,ab,col,del⟩:=cdt
   obtain⟨l⟩:=sl
   dsimp only at hmr hs q3 q5 q6
   subst hmr hs q3
   exact⟨bm,ns,nm,qn,bs,hd,sn,sub,ab,col,dd,k0,k1,k2,k3,k5,_,X _ _ ho,.of_isNs (PySem.W.isNs_of_in X q5),PySem.W.nsMap_none_of_in X q5 q6,PySem.W.tail_of_in X q4⟩
  ·cases q
 ·cases q
section
variable{P:Program}{w:World}{K:Fg}{mg:Str->Option Value}{base:Heap}{N:List Str}{qual:Str}{scope:Scope}{f:Addr}{cd:Value}{A:Around}{outer:List Env}{s:Shared}{H:Hp}{E:XK}
def b5s(E:XK)(C:Addr)(ta:TA):TS:=fun _ σ H=>ta σ H fun vs H1=>vs.length<=sizeLine/\E (.ref C) none H1
theorem vC{x:Str}{np cpos pos:Pos}{C:Addr}{e:Expr}{es:List Expr}{ta:TA}(hm:mg x=some (.ref C))(hq:PySem.W.excIn K C jM "ValueError.__new__"=true)(ha:PA (dO P w K mg base N qual scope f cd A outer s H E) (e::es) ta)
 (hg:Gl (dO P w K mg base N qual scope f cd A outer s H E) x:=by rfl)(hdb:(x==("__debug__":Str))=false:=by decide)
 (he:starEach (e::es) (dO P w K mg base N qual scope f cd A outer s H E).env=(false,eval e (dO P w K mg base N qual scope f cd A outer s H E).env)::starEach es (dO P w K mg base N qual scope f cd A outer s H E).env:=by rfl)
 (hpl:(backTo cpos (starEach es (dO P w K mg base N qual scope f cd A outer s H E).env)).any (·.1)=false:=by rfl):
 PS (dO P w K mg base N qual scope f cd A outer s H E) (.Raise (some (.Call (.Name x np) (e::es) [] cpos)) none pos) (b5s E C ta):=by
 intro pins s1 σ H1 D I h
 have O:=b1B I.ok.mod.kin hm hq
 obtain⟨tl,Nn,nm,q,bs,hdct,sn,sub,ab,col,dd,k0,k1,k2,k3,k5,mN,hC,hN,hni,TT'⟩:=O.obj
 refine wpAny_Raise_call_subT (C:=C) (nm:=nm) (q:=q) (N:=Nn) (bs:=bs) (bm:=tl) (hdct:=hdct) (sn:=sn) (sub:=sub) (ab:=ab) (col:=col) (dd:=dd) (k0:=k0) (k1:=k1) (k2:=k2) (k3:=k3) (k5:=k5)
  F.excBase_ValueError (mN:=mN) (TT'.hasType F.excBase_ValueError.hasBase) (I.ok.hd rfl) ?_ hni ?_
 ·rw[he]
  show(false||(backTo cpos (starEach es _)).any (·.1))=false
  rw[hpl]
  rfl
 refine kT I hg hm ⟨rfl,?_⟩ hdb
 have hA:=ha cpos pins s1 σ H1 _ I h
 rw[he]at hA|-
 refine Calls.evalArgs_plain (aN hA fun us s2 ⟨vs,H2,I2,r2,hl2,q2⟩=>⟨rfl,by rw[<- r2.length];exact hl2,I2.bk _ _ hC,hN.keeps I2.bk,TT'.keeps I2.bk,fun h' ea hmade=> ?_⟩)
 have I3:aB (dO P w K mg base N qual scope f cd A outer s H E) pins σ H2 {s2 with heap:=h'}:=I2.kept (t':=s2.toks) hmade.keeps
 obtain⟨t,ht,_,_⟩:=hmade.there
 have old:s.heap.get? ea=none:=by
  cases z:s.heap.get? ea with
  |none=>rfl
  |some o=>
   obtain⟨o',e'⟩:=I2.base.there ea o z (by intro hz;cases hz)
   rw[hmade.new]at e'
   cases e'
 have fr:H2 ea=none:=by
  cases z:H2 ea with
  |none=>rfl
  |some o=>
   obtain⟨oo,e'⟩:=(I2.hok ea o z).there
   rw[hmade.new]at e'
   cases e'
 show wpAny (model P w) (dO P w K mg base N qual scope f cd A outer s H E).A (leaving (dO P w K mg base N qual scope f cd A outer s H E).env (.ref ea)) _ _ {s2 with heap:=h'}
 refine b4s (s:={s2 with heap:=h'}) (base:=base) I.ok.frames I3.stack rfl ht rfl rfl rfl fun h3 T3 hT3 fly flew=> ?_
 refine b02 I3 fly flew (fun b hb=> ?_) ⟨old,fr⟩ hT3 q2
 simp only[List.mem_cons,List.not_mem_nil,or_false]at hb
 subst hb
 exact⟨old,fr⟩
theorem gM.okE{x qual:Str}{st:Stmt}{f:Addr}{fd:FuncData}{N ps:List Str}{k:Nat}{sp:Sp}(F:gM K x qual st f fd)(S:bB N ps (aC st))(len:∀vs H Q E,sp vs H Q E->vs.length=ps.length)
 (hbody:∀(cdv:Value) (A:Around) (outer:List Env) (s:Shared) (H:Hp) (vs:List V) (Q:VK) (E:XK),bJ k (A.deeper (envOfC qual (aC st) s.heap.objs.size f cdv))->sp vs H Q E->
  ∃t,cD (dO P w K mg base N qual (aC st) f cdv A outer s H E) (aL st) t/\t {nx:=fun _ H'=>Q .non H',rt:=Q} (gF N vs) H):dW P w K mg base (bR P w) (k+ 1) f fd ps sp:=by
 obtain⟨oc,od,kV,doc,pm,an,cdv,ct,osl,rfl,lk,hcd⟩:=F.ex
 exact b08 lk hcd S len fun A outer s H vs Q E hr hsp=>hbody cdv A outer s H vs Q E hr hsp
theorem dJ.knownE{x:Str}{st:Stmt}{N ps:List Str}{k:Nat}{sp:Sp}(D:dJ K mg x st)(S:bB N ps (aC st))
 (hb:∀(kV doc pm:Value) (an:Option Addr) (cdv ct:Value) (us:List Value),us.length=ps.length->bindArgs (PySem.W.fnOf x x (aP st) (aL st) (aC st) .none kV doc pm an cdv ct) ⟨us,[]⟩=pure (ps.zip us))
 (len:∀vs H Q E,sp vs H Q E->vs.length=ps.length)
 (hbody:∀(f:Addr) (cdv:Value) (A:Around) (outer:List Env) (s:Shared) (H:Hp) (vs:List V) (Q:VK) (E:XK),bJ k (A.deeper (envOfC x (aC st) s.heap.objs.size f cdv))->sp vs H Q E->
  ∃t,cD (dO P w K mg base N x (aC st) f cdv A outer s H E) (aL st) t/\t {nx:=fun _ H'=>Q .non H',rt:=Q} (gF N vs) H):bG P w K mg base (bR P w) (k+ 1) x ps sp:=by
 obtain⟨f,fd,F,hm⟩:=D.ex
 exact⟨f,fd,F.okE S len fun cdv A outer s H vs Q E hr h=>hbody f cdv A outer s H vs Q E hr h,hm,F.kp,F.binds hb⟩
end
noncomputable def lF (ea:Addr) (C:Value):HO:=.ext fun h=>∃o,h.get? ea=some o/\o.cls=C/\o.dict=none/\PySem.W.notCls o=true
section
variable{X:Cx}{pins:List (Addr×Obj)}{σ:St}{H:Hp}{s:Shared}
theorem aB.flew{own:List Addr}{h3:Heap}{t':Nat}(I:aB X pins σ H s)(fl:iP (cW X.stack) own s.heap h3)
 (hown:∀b∈own,X.s₀.heap.get? b=none/\H b=none/\b≠X.env.locals/\(∀x c,X.env.cells.lookup x=some c->c≠b)/\∀p∈X.pn++ pins,p.1≠b):aB X pins σ H {s with heap:=h3,toks:=t'}:=by
 have no:∀b o,X.s₀.heap.get? b=some o->b∉own:=fun b o e z=>by rw[(hown b z).1]at e;cases e
 have nL:∀b o,X.s₀.heap.get? b=some o->b≠X.env.locals:=fun b o e=>Nat.ne_of_lt (Nat.lt_of_lt_of_le (Heap.lt_size e) I.ok.above)
 have cellK:∀x c,X.env.cells.lookup x=some c->∀v,s.heap.IsCell c v->h3.IsCell c v:=fun x c e v ⟨o,ho,hd⟩=>by
  obtain⟨sl,q⟩:=fl.slot c o (fun z=>(hown c z).2.2.2.1 x c e rfl) ho
  exact⟨_,q,hd⟩
 refine⟨I.ok,I.os,I.bare,⟨fun b o e n hb hx=> ?_,fun b o e n hb hx=> ?_,I.base.free,fun b o e hx=> ?_,I.base.tups,I.base.frzs,I.base.tbls⟩,?_,fun x c e=> ?_,I.free,I.freeC,fun p hp=> ?_,fl.hok I.hok (fun b hb=>I.stkFree b hb) (fun b hb=>(hown b hb).2.1),I.len⟩
 ·exact fl.keep b o (no b o e) (fun z=>(List.mem_cons.mp (I.stkSub b z)).elim (nL b o e) hb) (I.base.keep b o e n hb hx)
 ·obtain⟨sl,e1⟩:=I.base.slot b o e n hb hx
  obtain⟨sl',e2⟩:=fl.slot b _ (no b o e) e1
  exact⟨sl',e2⟩
 ·obtain⟨o',e1⟩:=I.base.there b o e hx
  obtain⟨sl',e2⟩:=fl.slot b _ (no b o e) e1
  exact⟨_,e2⟩
 ·obtain⟨m,⟨o,es,ep,ho,r⟩,hl⟩:=I.loc
  obtain⟨sl,hL⟩:=fl.slot _ o (fun z=>(hown _ z).2.2.1 rfl) ho
  refine⟨m,⟨_,es,ep,hL,r⟩,fun i x v e1 e2 e3=> ?_⟩
  obtain⟨u,rv,l⟩:=hl i x v e1 e2 e3
  refine⟨u,rv,?_⟩
  rcases l with l|⟨k,c,e,z⟩
  ·exact .inl l
  ·exact .inr ⟨k,c,e,cellK x c e _ z⟩
 ·obtain⟨v,z⟩:=I.cell x c e
  exact⟨v,cellK x c e v z⟩
 ·obtain⟨e,n,ne,nf,d⟩:=I.pin p hp
  exact⟨fl.keep _ _ (fun z=>(hown _ z).2.2.2.2 p hp rfl) (fun z=>(List.mem_cons.mp (I.stkSub _ z)).elim ne nf) e,n,ne,nf,d⟩
theorem aB.adopt{a:Addr}{o:HO}(I:aB X pins σ H s)(hn:H a=none)(h0:X.s₀.heap.get? a=none)(hL:a≠X.env.locals)(hc:∀x c,X.env.cells.lookup x=some c->c≠a)(hp:∀p∈X.pn++ pins,p.1≠a)
 (new:cF X.prog X.w (upd H a o) s.heap a o):aB X pins σ (upd H a o) s:=by
 have ne:∀b u,H b=some u->b≠a:=fun b u e=>aU e hn
 refine⟨I.ok,I.os,I.bare,⟨I.base.keep,I.base.slot,fun b u e n hx=> ?_,I.base.there,fun b xs e=> ?_,fun b u xs e=> ?_,fun b ps e=> ?_⟩,I.loc,I.cell,?_,fun x c e=> ?_,fun p hq=> ?_,fun b u e=> ?_,I.len⟩
 ·rw[aH (fun z=>by rw[z,h0]at e;cases e)]
  exact I.base.free b u e n hx
 ·have q:=I.base.tups b xs e
  rw[aH (ne _ _ q)]
  exact q
 ·have q:=I.base.frzs b u xs e
  rw[aH (ne _ _ q)]
  exact q
 ·obtain⟨more,q⟩:=I.base.tbls b ps e
  exact⟨more,by rw[aH (ne _ _ q)];exact q⟩
 ·rw[aH (Ne.symm hL)]
  exact I.free
 ·rw[aH (hc x c e)]
  exact I.freeC x c e
 ·obtain⟨e,n,r⟩:=I.pin p hq
  exact⟨e,by rw[aH (hp p hq)];exact n,r⟩
 ·by_cases hb:b=a
  ·subst hb
   rw[aG]at e
   cases e
   exact new
  ·rw[aH hb]at e
   exact(I.hok b u e).stay (fun _ _ _ q=>q) (fun c q=>by rw[aH (ne _ _ q)];exact q) fun c xs q=>by rw[aH (ne _ _ q)];exact q
theorem aB.unname{j:Nat}{n:Str}{h':Heap}{m:Str->Option Value}{v:Option Value}{t':Nat}(I:aB X pins σ H s)(hN:X.N.Nodup)(hj:X.N[j]?=some n)(hm:s.heap.Ns X.env.locals m)
 (hl:∀(i:Nat) (x:Str) (v:V),X.N[i]?=some x->σ[i]?=some (some v)->tH X.env.scope x->∃u,aW v u/\Look X.env s.heap m x u)(hn:h'.Ns X.env.locals (fun x=>if x=n then v else m x))(sb:Heap.SameBut X.env.locals s.heap h'):
 aB X pins (σ.set j none) H {s with heap:=h',toks:=t'}:=by
 have hjσ:j<σ.length:=by rw[I.len];exact(List.getElem?_eq_some_iff.mp hj).1
 have nL:∀b o,X.s₀.heap.get? b=some o->b≠X.env.locals:=fun b o e=>Nat.ne_of_lt (Nat.lt_of_lt_of_le (Heap.lt_size e) I.ok.above)
 refine⟨I.ok,I.os,I.bare,⟨fun b o e n hb hx=>(sb.2 b (nL b o e)).trans (I.base.keep b o e n hb hx),fun b o e n hb hx=> ?_,I.base.free,fun b o e hx=> ?_,I.base.tups,I.base.frzs,I.base.tbls⟩,⟨_,hn,fun i y w' e1 e2 e3=> ?_⟩,fun y c e=> ?_,I.free,I.freeC,fun p hp=> ?_,fun b ob e=> ?_,by simpa using I.len⟩
 ·obtain⟨sl,e1⟩:=I.base.slot b o e n hb hx
  exact⟨sl,(sb.2 b (nL b o e)).trans e1⟩
 ·obtain⟨o',e1⟩:=I.base.there b o e hx
  exact⟨o',(sb.2 b (nL b o e)).trans e1⟩
 ·by_cases hi:i=j
  ·subst hi
   rw[List.getElem?_set_self hjσ]at e2
   cases e2
  ·rw[List.getElem?_set_ne (Ne.symm hi)]at e2
   obtain⟨u,r,q⟩:=hl i y w' e1 e2 e3
   refine⟨u,r,?_⟩
   rcases q with⟨k,e⟩|⟨k,c,e,z⟩
   ·refine .inl ⟨k,?_⟩
    have:y≠n:=fun e=>hi (a8r hN e1 (e▸hj))
    simp[this,e]
   ·exact .inr ⟨k,c,e,z.sameBut sb (I.cne y c e)⟩
 ·obtain⟨v',z⟩:=I.cell y c e
  exact⟨v',z.sameBut sb (I.cne y c e)⟩
 ·obtain⟨e,n,ne,nf,d⟩:=I.pin p hp
  exact⟨(sb.2 p.1 ne).trans e,n,ne,nf,d⟩
 ·obtain⟨oL,_,_,hoL,_⟩:=id hm
  refine(I.hok b ob e).stay (fun c w' hc q=>(sb.2 c ?_).trans q) (fun _ q=>q) fun _ _ q=>q
  rintro rfl
  rcases hc with rfl|hc
  ·rw[I.free]at e;cases e
  ·rw[I.free]at hc;cases hc
end
abbrev Cx.inEx(X:Cx)(ea:Addr):Cx:={X with A:=X.A.mark (some (.ref ea)),calm:=false,xe:=fun _ _=>False}
abbrev Cx.pinned(X:Cx)(pn:List (Addr×Obj))(E1:Value->Shared->Prop):Cx:={X with pn:=pn,xe:=E1}
section
variable{X:Cx}{pins:List (Addr×Obj)}{σ:St}{H:Hp}{s:Shared}
theorem aB.inEx(I:aB X pins σ H s)(ea:Addr):aB (X.inEx ea) pins σ H s:=
 ⟨⟨I.ok.mod,I.ok.kind,I.ok.glob,I.ok.blt,I.ok.above,I.ok.inj,I.ok.has,I.ok.cab,fun z=>Bool.noConfusion z,I.ok.frames,I.ok.stk,I.ok.exf,I.ok.bs,I.ok.bsz,I.ok.noex,I.ok.exfs,I.ok.funs,I.ok.frf⟩,I.os,I.bare,I.base,I.loc,I.cell,I.free,I.freeC,I.pin,I.hok,I.len⟩
theorem aB.outEx{ea:Addr}(ok:X.Ok)(I:aB (X.inEx ea) pins σ H s):aB X pins σ H s:=⟨ok,I.os,I.bare,I.base,I.loc,I.cell,I.free,I.freeC,I.pin,I.hok,I.len⟩
theorem aB.pinnedIn(I:aB X pins σ H s)(E1:Value->Shared->Prop):aB (X.pinned (X.pn++ pins) E1) [] σ H s:=
 ⟨⟨I.ok.mod,I.ok.kind,I.ok.glob,I.ok.blt,I.ok.above,I.ok.inj,I.ok.has,I.ok.cab,I.ok.hd,I.ok.frames,I.ok.stk,I.ok.exf,I.ok.bs,I.ok.bsz,I.ok.noex,I.ok.exfs,I.ok.funs,I.ok.frf⟩,I.os,I.bare,I.base,I.loc,I.cell,I.free,I.freeC,
   fun p hp=>I.pin p (by simpa using hp),I.hok,I.len⟩
theorem aB.pinnedOut{pins':List (Addr×Obj)}{E1:Value->Shared->Prop}(ok:X.Ok)(I:aB (X.pinned (X.pn++ pins) E1) pins' σ H s):aB X pins σ H s:=
 ⟨ok,I.os,I.bare,I.base,I.loc,I.cell,I.free,I.freeC,fun p hp=>I.pin p (List.mem_append_left _ hp),I.hok,I.len⟩
end
noncomputable def fL.less (D:fL) (j:Nat):fL where
 nx:=fun σ H=>D.nx (σ.set j none) H
 rt:=D.rt
 bk:=fun σ H=>D.bk (σ.set j none) H
 ct:=fun σ H=>D.ct (σ.set j none) H
structure kM(K:Fg)(C:Addr):Prop where
 hga:PySem.W.findIn K (.ref C) "__getattribute__"=some (some (.builtin "BaseException.__getattribute__"))
 hk:PySem.W.findIn K (.ref C) "__getattr__"=some none
 hc:∃cd,PySem.W.clsIn K C=some cd
 ha:PySem.W.findIn K (.ref C) "__class__"=some (some (.builtin "object.__class__"))
 hn:PySem.W.specialIn K (.builtin "object.__class__") "__get__"=some (some (.builtin "getset_descriptor.__get__"))
 ht:PySem.W.takesIn K (.builtin "object.__class__")=some true
 hm:PySem.W.mroIn K C (.type "object")=some true
 hb:PySem.W.mroIn K C (.type "BaseException")=some true
theorem b2k{prog:Program}{w:World}{A:Around}{E:Value->Shared->Prop}{s:Shared}{K:Fg}{x C:Addr}{ox:Obj}{Q:Option Value->Shared->Prop}(k:kM K C)(X:K.In s.heap)(I:PySem.W.InstAt s.heap x ox C none)
 (h:Q (some (.ref C)) {s with toks:=s.toks+ 1}):wpAny (model prog w) A (getAttr? (.ref x) "__class__") Q E s:=by
 obtain⟨hh,g,d,t,os⟩:=s
 obtain⟨cd,hc⟩:=k.hc
 have hf:PySem.W.findObj K C none "__class__"=some (.bind (.builtin "getset_descriptor.__get__") (.builtin "object.__class__")):=by
  show(PySem.W.clsIn K C).bind _=_
  rw[hc,Option.bind_some,k.ha,Option.bind_some]
  simp[k.hn,k.ht]
 have L0:=I.type (M:=model prog w)
 have L1:=PySem.W.looks_findIn (M:=model prog w) X k.hga
 have L2:=PySem.W.looks_findIn (M:=model prog w) X k.hk
 have L3:=PySem.W.looks_mroIn (M:=model prog w) X k.hb
 have L4:=PySem.W.looks_find (M:=model prog w) X I hf
 unfold getAttr? getAttrBy? getAttrBy
 refine wpAny_bind (wpAny_mkText (wpAny_bind (wpAny_attempt (wpAny_holding (wpAny_bind (L0.at (wpAny_bind (L1.at ?_))))))))
 show wpAny _ _ (getAttrByItsOwn _ _ _ _ _ _) _ _ _
 unfold getAttrByItsOwn
 refine wpAny_bind ?_
 show wpAny _ _ (typeLookup (.ref C) "__getattr__") _ _ _
 refine L2.at (wpAny_bind (wpAny_attempt (wpAny_holding ?_)))
 show wpAny _ _ (boundAndCalled _ _ _) _ _ _
 unfold boundAndCalled
 rw[F.excAttr_ValueError.ga.bind (.ref x)]
 refine wpAny_bind (wpAny_pure (wpAny_call ?_))
 refine codeAny_call_builtin F.excAttr_ValueError.ga.plain F.entry_bexc_ga ?_
 have hk:builtinKind "BaseException.__getattribute__"=some .slot:=by decide+kernel
 have hsp:splitId "BaseException.__getattribute__"=some ("BaseException","__getattribute__"):=by decide+kernel
 have L5:PySem.W.Looks (model prog w) hh (isInstance (.ref x) (.type "BaseException")) true:=L0.andThen L3
 have ha:=F.args_bexc_ga (.ref x) (.str "__class__" t)
 have key:∀(Q2:Unit->Shared->Prop) (E2:Value->Shared->Prop) (A2:Around),Q2 () ⟨hh,g,d,t+ 1,os⟩ ->wpAny (model prog w) A2 (checkBuiltinCall "BaseException.__getattribute__" ⟨[.ref x,.str "__class__" t],[]⟩) Q2 E2 ⟨hh,g,d,t+ 1,os⟩:=by
  intro Q2 E2 A2 q
  have z:= @PySem.W.check_slot (model prog w) A2 E2 ⟨hh,g,d,t+ 1,os⟩ _ _ _ (.ref x) [.str "__class__" t] [] Q2 hk hsp L5 ha q
  exact z
 refine key _ _ _ ?_
 unfold Builtin.«object.__getattribute__»
 refine wpAny_bind (wpAny_pure (wpAny_bind (wpAny_pure (wpAny_bind (L0.at (wpAny_bind (L4.at ?_)))))))
 refine wpAny_bind (wpAny_holding (wpAny_call ?_))
 exact PySem.W.class_get (s:=⟨hh,g,d,t+ 1,os⟩) (ox:=ox) (od:=none) X I k.hm (wpAny_pure (PySem.W.handed_on rfl (wpAny_pure h)))
theorem b40{K:Fg}{x C:Addr}(k:kM K C):PySem.W.KitX K (.ref x) (.ref C) (fun h=>∃ox,PySem.W.InstAt h x ox C none) where
 ty:=fun _ _ _ ⟨_,I⟩=>I.type
 it:=fun _ _ X _=>by
  obtain⟨cd,hc⟩:=k.hc
  unfold PySem.W.clsIn at hc
  split at hc
  ·rename_i ho
   intro A' Q' E' s' kk q
   unfold isType loadHead
   exact wpAny_bind (wpAny_loadPart (kk _ _ (X _ _ ho)) (wpAny_pure q))
  ·cases hc
 ne:=fun h tp dd its n sl X htp=>by
  obtain⟨cd,hc⟩:=k.hc
  refine Bool.eq_false_iff.mpr fun q=> ?_
  have e:C=tp:=Value.ref.inj (beq_iff_eq.mp q)
  subst e
  unfold PySem.W.clsIn at hc
  split at hc
  ·rename_i ho
   have z:=(X _ _ ho).symm.trans htp
   cases z
  ·cases hc
 ca:=fun{prog w A E Q s} X ⟨ox,I⟩ h=>b2k k X I h
theorem fT{X:Cx}:fO X (.builtin "isinstance") (fun xs H Q=>∃ea C D cv k,xs= [.ref ea,D] /\H ea=some (lF ea (.ref C))/\kM X.K C/\((∃D',D= .ref D'/\cv=Value.ref D')\/ ∃T,D= .ty T/\cv=Value.type T)/\PySem.W.kitOne X.K (.ref C) cv=some k/\Q (.bl k) H):=by
 intro pins s σ H xs us Q I r h
 obtain⟨ea,C,D,cv,k,rfl,hea,hk,hD,e,q⟩:=h
 obtain⟨u,c,rfl,r1,r2⟩:=r.two
 cases r1
 obtain⟨⟨o,h1,h2,h3,h4⟩,_⟩:=I.hok _ _ hea
 have ec:c=cv:=by
  rcases hD with⟨D',rfl,rfl⟩|⟨T,rfl,rfl⟩<;>exact r2
 subst ec
 refine PySem.W.kia_one (b40 hk) I.kIn ⟨o,h1,h2,h4,?_⟩ e (fun z=>nomatch z) fun tk=>⟨.bl k,H,I.tok tk,rfl,q⟩
 rw[h3]
 trivial
theorem a9D:∀{xs:List V} {us:List Value},us.length=xs.length->(∀(j:Nat) (x:V) (u:Value),xs[j]?=some x->us[j]?=some u->aW x u)->aV xs us
 | [],[],_,_=> .nil
 |x::xs,u::us,hl,h=> .cons (h 0 x u rfl rfl) (a9D (by simpa using hl) fun j y v e1 e2=>h (j+ 1) y v (by simpa using e1) (by simpa using e2))
 | [],_::_,hl,_=>by simp at hl
 |_::_,[],hl,_=>by simp at hl
def fP(lo:Int)(n:Nat):List V:=(List.range n).map fun(i:Nat)=>V.int (lo+ (i:Int))
theorem a4w(lo:Int)(n:Nat):(fP lo n).length=n:=by unfold fP;rw[List.length_map,List.length_range]
section
variable{X:Cx}
theorem b2x:fO X (.type "range") (fun xs H Q=>∃j:Int,xs= [.int j] /\∀p,H p=none->Q (.ref p) (upd H p (.rng 0 j))):=by
 intro pins s σ H xs us Q I r h
 obtain⟨j,rfl,q⟩:=h
 obtain⟨u,rfl,t,rfl⟩:=kD r
 refine call_range_1 ⟨.ref s.heap.objs.size,_,I.laid (a:=s.heap.objs.size) (o:=.rng 0 j) (fun _ _ q=>Heap.get?_push_of_some _ q) (Nat.le_refl _) ?_,rfl,q _ (I.hok.fresh (Nat.le_refl _))⟩
 exact⟨_,_,_,Heap.get?_push_size _ rfl⟩
theorem b6o(hc:X.calm=true):fO X (.type "list") (fun xs H Q=>∃p lo hi,xs= [.ref p] /\H p=some (.rng lo hi)/\ -(2^ 62)<=lo/\lo<2^ 62/\ -(2^ 62)<=hi/\hi<2^ 62/\(hi- lo).toNat<=2^ 24/\∀l,H l=none->Q (.ref l) (upd H l (.lst (fP lo (hi- lo).toNat)))):=by
 intro pins s σ H xs us Q I r h
 obtain⟨p,lo,hi,rfl,hp,h1,h2,h3,h4,h5,q⟩:=h
 obtain⟨u,rfl,rx⟩:=kD r
 cases rx
 obtain⟨t,u,v,e⟩:=I.hok p _ hp
 have hn:Builtin.Range.rangeSize lo hi 1=((hi- lo).toNat:Int):=by rw[rangeSize_one];split<;>omega
 refine call_list_range (I.ok.hd hc) (show IsRange s.heap p lo hi 1 t u v from e) (small_one h1 h2 h3 h4) hn h5 fun h' tk acc c kp hD hI=> ?_
 refine⟨.ref s.heap.objs.size,_,I.laid (t':=tk) (o:=.lst (fP lo (hi- lo).toNat)) kp (Nat.le_refl _) ?_,rfl,q _ (I.hok.fresh (Nat.le_refl _))⟩
 refine⟨by rw[a4w,sizeLine_eq];exact h5,acc.toList,c,a9D (by rw[a4w,Array.length_toList];exact hI.1) fun j x u e1 e2=> ?_,by rw[Array.toArray_toList];exact hD⟩
 rw[Array.getElem?_toList]at e2
 obtain⟨t',rfl⟩:=hI.2 j u e2
 unfold fP at e1
 rw[List.getElem?_map]at e1
 cases z:(List.range (hi- lo).toNat)[j]? with
 |none=>rw[z]at e1;cases e1
 |some i=>
  rw[z]at e1
  have:i=j:=by
   have hl:j<(List.range (hi- lo).toNat).length:=(List.getElem?_eq_some_iff.mp z).1
   rw[List.getElem?_eq_getElem hl,List.getElem_range]at z
   exact(Option.some.inj z).symm
  subst this
  cases e1
  exact⟨t',by rw[Int.mul_one]⟩
end
def aY(s:Stmt)(j:Nat):Stmt:=match s with
 | .ClassDef _ _ _ body _ _ _ _ _ _ _=>body.getD j (.Pass ⟨0,0,0,0⟩)
 |_=> .Pass ⟨0,0,0,0⟩
theorem b6a:bootBuiltins "range"=some (.type "range"):=by kernel_rfl
structure aX(P:Program)(w:World)(K:Fg)(mg:Str->Option Value)(base:Heap)(CX:cZ)(k:Nat)(C:Addr)(m:Str)(ps:List Str)(sp:Sp):Prop where
 ex:∃f fd,dW P w K mg base CX k f fd ps sp/\oH K C m f/\fW K fd ps []
structure cA(P:Program)(w:World)(K:Fg)(mg:Str->Option Value)(base:Heap)(CX:cZ)(k:Nat)(C:Addr)(ps:List Str)(sp:Sp):Prop where
 ex:∃f fd,dW P w K mg base CX k f fd ps sp/\Mk K C f/\fW K fd ps []
structure aO(K:Fg)(C:Addr)(m qual:Str)(st:Stmt):Prop where
 ex:∃f fd,gM K m qual st f fd/\PySem.W.findIn K (.ref C) m=some (some (.ref f))/\PySem.W.isFn K (.ref f)=true
section
variable{P:Program}{w:World}{K:Fg}{mg:Str->Option Value}{base:Heap}{C:Addr}
theorem aQ{m qual:Str}{st:Stmt}{f:Addr}{oc:Value}{od an:Option Addr}{osl:Array (Option Value)}{kV doc pm cdv ct:Value}(a:PySem.W.findIn K (.ref C) m=some (some (.ref f)))(i:PySem.W.isFn K (.ref f)=true)
 (l:K.lookup f=some ⟨oc,od,.func (PySem.W.fnOf m qual (aP st) (aL st) (aC st) .none kV doc pm an cdv ct),osl⟩)(c:PySem.W.codeIn K cdv qual=true)(k:PySem.W.keepIn K (.ref f)=true):aO K C m qual st:=
 ⟨f,_,a9x l c k,a,i⟩
theorem aO.known{m qual:Str}{st:Stmt}{N ps:List Str}{k:Nat}{sp:Sp}(D:aO K C m qual st)(S:bB N ps (aC st))
 (hb:∀(kV doc pm:Value) (an:Option Addr) (cdv ct:Value) (us:List Value),us.length=ps.length->bindArgs (PySem.W.fnOf m qual (aP st) (aL st) (aC st) .none kV doc pm an cdv ct) ⟨us,[]⟩=pure (ps.zip us))
 (len:∀vs H Q E,sp vs H Q E->vs.length=ps.length)
 (hbody:∀(f:Addr) (cdv:Value) (A:Around) (outer:List Env) (s:Shared) (H:Hp) (vs:List V) (Q:VK) (E:XK),bJ k (A.deeper (envOfC qual (aC st) s.heap.objs.size f cdv))->sp vs H Q E->
  ∃t,cD (dQ aJ P w K mg base N qual (aC st) f cdv A outer s H E).nox (aL st) t/\t {nx:=fun _ H'=>Q .non H',rt:=Q} (gF N vs) H):aX P w K mg base aJ (k+ 1) C m ps sp:=by
 obtain⟨f,fd,F,ha,hi⟩:=D.ex
 exact⟨f,fd,F.ok S len fun cdv A outer s H vs Q E hr h=>hbody f cdv A outer s H vs Q E hr h,⟨ha,hi,F.kp⟩,F.binds hb⟩
theorem aO.knownE{m qual:Str}{st:Stmt}{N ps:List Str}{k:Nat}{sp:Sp}(D:aO K C m qual st)(S:bB N ps (aC st))
 (hb:∀(kV doc pm:Value) (an:Option Addr) (cdv ct:Value) (us:List Value),us.length=ps.length->bindArgs (PySem.W.fnOf m qual (aP st) (aL st) (aC st) .none kV doc pm an cdv ct) ⟨us,[]⟩=pure (ps.zip us))
 (len:∀vs H Q E,sp vs H Q E->vs.length=ps.length)
 (hbody:∀(f:Addr) (cdv:Value) (A:Around) (outer:List Env) (s:Shared) (H:Hp) (vs:List V) (Q:VK) (E:XK),bJ k (A.deeper (envOfC qual (aC st) s.heap.objs.size f cdv))->sp vs H Q E->
  ∃t,cD (dO P w K mg base N qual (aC st) f cdv A outer s H E) (aL st) t/\t {nx:=fun _ H'=>Q .non H',rt:=Q} (gF N vs) H):aX P w K mg base (bR P w) (k+ 1) C m ps sp:=by
 obtain⟨f,fd,F,ha,hi⟩:=D.ex
 exact⟨f,fd,F.okE S len fun cdv A outer s H vs Q E hr h=>hbody f cdv A outer s H vs Q E hr h,⟨ha,hi,F.kp⟩,F.binds hb⟩
theorem aX.init{CX:cZ}{k:Nat}{ps:List Str}{sp:Sp}(G:aX P w K mg base CX k C "__init__" ps sp)(mk:PySem.W.makesIn K C=true)(kc:PySem.W.keepIn K (.ref C)=true):cA P w K mg base CX k C ps sp:=by
 obtain⟨f,fd,F,hm,hb⟩:=G.ex
 exact⟨f,fd,F,⟨mk,hm.at_,hm.fn,kc⟩,hb⟩
end
section
variable{X:Cx}{CX:cZ}{k:Nat}{C:Addr}{ps:List Str}{sp:Sp}{E:XK}{x m:Str}{p pos apos:Pos}{e o:Expr}{es:List Expr}{t:TA}{ta:TE}
theorem dR{pl:Sem Bool}(he:PE X o ta)(c:bV X.K C)(G:aX X.prog X.w X.K X.mg X.base CX k C m ps sp)(hr:bJ k X.A)(hx:fI CX X E)(ha:PA X (e::es) t)
 (hst:starEach (e::es) X.env=(false,eval e X.env)::starEach es X.env:=by rfl)(hpl:(backTo pos (starEach es X.env)).any (·.1)=false:=by rfl)
 (ht:eval (.Call (.Attribute o m apos) (e::es) [] pos) X.env=(do
  let ov<- eval o X.env
  standAt apos.atName
  let (f,first)<- holding [ov] (getMethod ov m pl)
  callWith pos f first (backTo pos (starEach (e::es) X.env)) (backToKw pos (keywordEach [] X.env))):=by rfl):
 PE X (.Call (.Attribute o m apos) (e::es) [] pos) (tW C m sp [] E ta t):=by
 obtain⟨f,fd,F,hm,hb⟩:=G.ex
 exact b3e (pl:=pl) he c hm F hr hb .nil hx ha hst hpl ht
theorem jU{pl:Sem Bool}(he:PE X o ta)(c:bV X.K C)(G:aX X.prog X.w X.K X.mg X.base CX k C m ps sp)(hr:bJ k X.A)(hx:fI CX X E)
 (ht:eval (.Call (.Attribute o m apos) [] [] pos) X.env=(do
  let ov<- eval o X.env
  standAt apos.atName
  let (f,first)<- holding [ov] (getMethod ov m pl)
  callWith pos f first (backTo pos (starEach [] X.env)) (backToKw pos (keywordEach [] X.env))):=by rfl):
 PE X (.Call (.Attribute o m apos) [] [] pos) (tW C m sp [] E ta kR):=by
 obtain⟨f,fd,F,hm,hb⟩:=G.ex
 exact b59 (pl:=pl) he c hm F hr hb .nil hx ht
theorem fJ(G:cA X.prog X.w X.K X.mg X.base CX k C ps sp)(hr:bJ (k+ 1) X.A)(hm:X.mg x=some (.ref C))(hx:fI CX X E)
 (ha:PA X (e::es) t)(hg:Gl X x:=by rfl)(hdb:(x==("__debug__":Str))=false:=by decide)(he:starEach (e::es) X.env=(false,eval e X.env)::starEach es X.env:=by rfl)(hpl:(backTo pos (starEach es X.env)).any (·.1)=false:=by rfl):
 PE X (.Call (.Name x p) (e::es) [] pos) (tV C sp [] E t):=by
 obtain⟨f,fd,F,M,hb⟩:=G.ex
 exact b2s M F hr hg hm hb .nil hx ha hdb he hpl
end
noncomputable def kG (cells:List (Str×Addr)):List (Str×NameKind)->List (Str×Addr)->List (Str×Addr)
 | [],acc=>acc
 |(n,k)::r,acc=>kG cells r (if k== .free then(n,(cells.lookup n).getD 0)::acc else acc)
theorem a37{env:Env}:∀{names:List (Str×NameKind)} {acc:List (Str×Addr)},(∀y∈names,y.2= .free->∃c,env.cells.lookup y.1=some c)->
 (forIn names acc fun(x:Str×NameKind) (cs:List (Str×Addr))=>(do
  let (name,kind):=x
  if kind==NameKind.free then(do let a<- cellOf env name;pure (ForInStep.yield ((name,a)::cs))) else pure (ForInStep.yield cs):Sem (ForInStep (List (Str×Addr)))))=pure (kG env.cells names acc)
 | [],acc,_=>rfl
 |(n,k)::r,acc,h=>by
  rw[List.forIn_cons]
  by_cases hk:(k==NameKind.free)=true
  ·obtain⟨c,hc⟩:=h (n,k) List.mem_cons_self (by simpa using hk)
   have e:cellOf env n=pure c:=by unfold cellOf;rw[show env.cells.lookup n=some c from hc]
   have ih:=a37 (env:=env) (names:=r) (acc:=(n,c)::acc) fun y hy=>h y (List.mem_cons_of_mem _ hy)
   show(do let r<- (if k==NameKind.free then(do let a<- cellOf env n;pure (ForInStep.yield ((n,a)::acc))) else pure (ForInStep.yield acc):Sem (ForInStep (List (Str×Addr))));_)=_
   rw[if_pos hk,e,pure_bind,pure_bind]
   refine Eq.trans ih ?_
   show _=pure (kG env.cells r (if(k==NameKind.free)=true then(n,(env.cells.lookup n).getD 0)::acc else acc))
   rw[if_pos hk,show env.cells.lookup n=some c from hc]
   rfl
  ·have ih:=a37 (env:=env) (names:=r) (acc:=acc) fun y hy=>h y (List.mem_cons_of_mem _ hy)
   show(do let r<- (if k==NameKind.free then(do let a<- cellOf env n;pure (ForInStep.yield ((n,a)::acc))) else pure (ForInStep.yield acc):Sem (ForInStep (List (Str×Addr))));_)=_
   rw[if_neg hk,pure_bind]
   refine Eq.trans ih ?_
   show _=pure (kG env.cells r (if(k==NameKind.free)=true then(n,(env.cells.lookup n).getD 0)::acc else acc))
   rw[if_neg hk]
theorem a9w{cells:List (Str×Addr)}:∀{names:List (Str×NameKind)} {acc:List (Str×Addr)},(∀y∈names,y.2= .free->∃c,cells.lookup y.1=some c)->(∀x c,acc.lookup x=some c->cells.lookup x=some c)->
 ∀x c,(kG cells names acc).lookup x=some c->cells.lookup x=some c
 | [],_,_,h=>h
 |(n,k)::r,acc,hf,h=>by
  refine a9w (names:=r) (fun y hy=>hf y (List.mem_cons_of_mem _ hy)) ?_
  intro x c e
  by_cases hk:(k==NameKind.free)=true
  ·obtain⟨c',hc⟩:=hf (n,k) List.mem_cons_self (by simpa using hk)
   have hc':cells.lookup n=some c':=hc
   rw[if_pos hk,hc',List.lookup_cons]at e
   by_cases hx:(x==n)=true
   ·rw[hx]at e
    cases e
    have:x=n:=by simpa using hx
    rw[this]
    exact hc'
   ·rw[show (x==n)=false by simpa using hx]at e
    exact h x c e
  ·rw[if_neg hk]at e
   exact h x c e
theorem a9K{cells:List (Str×Addr)}:∀{names:List (Str×NameKind)} {acc:List (Str×Addr)} {x:Str},(∃c,acc.lookup x=some c)->∃c,(kG cells names acc).lookup x=some c
 | [],_,_,h=>h
 |(n,k)::r,acc,x,⟨c,h⟩=>by
  refine a9K (names:=r) ?_
  by_cases hk:(k==NameKind.free)=true
  ·rw[if_pos hk,List.lookup_cons]
   cases hx:x==n with
   |true=>exact⟨_,rfl⟩
   |false=>exact⟨c,h⟩
  ·rw[if_neg hk]
   exact⟨c,h⟩
theorem a6b{cells:List (Str×Addr)}:∀{names:List (Str×NameKind)} {acc:List (Str×Addr)} {x:Str},(x,NameKind.free)∈names->∃c,(kG cells names acc).lookup x=some c
 |(n,k)::r,acc,x,h=>by
  rcases List.mem_cons.mp h with e|h
  ·cases e
   refine a9K (names:=r) ⟨(cells.lookup n).getD 0,?_⟩
   rw[if_pos (by rfl),List.lookup_cons,beq_self_eq_true]
  ·exact a6b (names:=r) h
theorem b1h{env:Env}:∀{names:List (Str×NameKind)} {x:Str},names.lookup x=some .free->
 (names.map fun(n,k)=>if(k==NameKind.free&&env.scope.kind== .function&&env.kindOf n==some .cell) then(n,NameKind.cell) else(n,k)).lookup x=some .cell\/
 (names.map fun(n,k)=>if(k==NameKind.free&&env.scope.kind== .function&&env.kindOf n==some .cell) then(n,NameKind.cell) else(n,k)).lookup x=some .free
 | [],_,h=>by simp at h
 |(n,k)::r,x,h=>by
  have ih:= @b1h env r x
  rw[List.lookup_cons]at h
  rw[List.map_cons]
  cases hx:x==n with
  |true=>
   rw[hx]at h
   cases h
   by_cases hc:(NameKind.free==NameKind.free&&env.scope.kind== .function&&env.kindOf n==some .cell)=true
   ·simp only[hc,if_true,List.lookup_cons,hx]
    exact .inl trivial
   ·simp only[hc,if_false,List.lookup_cons,hx,Bool.false_eq_true]
    exact .inr trivial
  |false=>
   rw[hx]at h
   by_cases hc:(k==NameKind.free&&env.scope.kind== .function&&env.kindOf n==some .cell)=true
   ·simp only[hc,if_true,List.lookup_cons,hx]
    exact ih h
   ·simp only[hc,if_false,List.lookup_cons,hx,Bool.false_eq_true]
    exact ih h
theorem uZ{X:Cx}{scope:Scope}{cp:List (Nat×Str)}{sc:Scope}{N:List Str}(hcell:∀x,X.env.scope.names.lookup x=some .cell->∃c,X.env.cells.lookup x=some c)(hs:X.env.scope=sc:=by rfl)(hN:X.N=N:=by rfl)
 (kind:scope.kind= .function:=by rfl)(plain:∀y∈scope.names,y.2≠ .cell:=by decide)(names:∀y∈scope.names,y.2= .local->scope.names.lookup y.1=some .local:=by decide+kernel)
 (free:∀y∈scope.names,y.2= .free->sc.names.lookup y.1=some .cell:=by decide+kernel)(at':∀p∈cp,N[p.1]?=some p.2/\sc.names.lookup p.2=some .cell/\scope.names.lookup p.2=some .free:=by decide+kernel):
 jJ X scope (kG X.env.cells scope.names []) cp:=by
 subst hs hN
 have hf:∀y∈scope.names,y.2= .free->∃c,X.env.cells.lookup y.1=some c:=fun y hy e=>hcell _ (free y hy e)
 refine⟨kind,plain,names,?_,a9w hf (fun x c e=>by cases e),fun x h=> ?_,fun p hp=> ?_⟩
 ·show closureFor scope X.env=_
  simp only[closureFor]
  have:=a37 (env:=X.env) (acc:=[]) hf
  exact(congrArg (fun z=>z>>=fun r=>pure r) this).trans (pure_bind _ _)
 ·have hm:∀k,(relabel scope X.env).names.lookup x=some k->(k= .cell\/ k= .free)->(x,NameKind.free)∈scope.names:=fun k e hk=>by
   have m:=PySem.mem_of_lookup e
   unfold relabel at m
   obtain⟨⟨n,k'⟩,hy,e'⟩:=List.mem_map.mp m
   have nc:=plain _ hy
   by_cases hc:(k'==NameKind.free&&X.env.scope.kind== .function&&X.env.kindOf n==some .cell)=true
   ·simp only[hc,if_true]at e'
    have e1:n=x:=congrArg (·.1) e'
    have:k'= .free:=by simp only[Bool.and_eq_true,beq_iff_eq]at hc;exact hc.1.1
    subst e1 this
    exact hy
   ·simp only[hc,if_false,Bool.false_eq_true]at e'
    have e1:n=x:=congrArg (·.1) e'
    have e2:k'=k:=congrArg (·.2) e'
    subst e1 e2
    rcases hk with z|z
    ·exact absurd z nc
    ·subst z;exact hy
  rcases h with h|h
  ·exact a6b (hm _ h (.inl rfl))
  ·exact a6b (hm _ h (.inr rfl))
 ·obtain⟨h1,h2,h3⟩:=at' p hp
  exact⟨h1,.inl h2,b1h h3⟩
section
variable{X:Cx}{e st:Expr}{te:TE}{ts:TO}{p2 pos:Pos}
theorem dP{st:Stmt}:PS X st (fun _ _ _=>False):=fun _ _ _ _ _ _ h=>h.elim
end
structure Maker(mg:Str->Option Value)(base:Heap)(c P:Addr):Prop where
 hd:PySem.W.CodeHd base c P
 bt:base.BuiltinsAt mg P
theorem b4X{H:Hp}{a:Addr}{o:HO}(h:H a=some o):upd H a o=H:=by
 funext b
 unfold upd
 split
 ·rename_i e;subst e;exact h.symm
 ·rfl
structure TabOf(q:Program)(K:Fg)(z:Addr×Addr):Prop where
 ex:∃x:Str,((recsOf q).find? (fun e=>e.name==x)).isSome=true/\PySem.W.tabIn K x=some z
structure ClsM(K:Fg)(C:Addr)(m:Str):Prop where
 ga:PySem.W.specialIn K (.ref C) "__getattribute__"=some (some (.builtin "type.__getattribute__"))
 ex:∃(mc:Value) (f:Addr),PySem.W.readsIn K C mc=true/\PySem.W.findCls K (.ref C) mc m=some (.val (.ref f))/\PySem.W.findIn K (.ref C) m=some (some (.ref f))
structure DefT(K:Fg)(mg:Str->Option Value)(x:Str)(st:Stmt)(z:Addr×Addr):Prop where
 ex:∃f fd,gM K x x st f fd/\mg x=some (.ref f)/\fd.code= .ref z.1
 tab:PySem.W.tabIn K x=some z
def Fz(o:Obj):HO:=.frz o (.ext fun _=>True)
def eD(P:Addr)(H H':Hp):Prop:=∀b o,b≠P->H b=some o->H' b=some o
abbrev Lend:=Addr->Option Obj
structure Lent(X:Cx)(σ:St)(H:Hp)(f:Lend):Prop where
 free:∀b o,f b=some o->H b=none
 cell:∀x c,X.env.cells.lookup x=some c->∃o v,f c=some o/\o.data= .cell v
 val:∀(i:Nat) x v,X.N[i]?=some x->σ[i]?=some (some v)->X.env.scope.names.lookup x=some .cell->∃c o u,X.env.cells.lookup x=some c/\f c=some o/\o.data= .cell (some u)/\aW v u
 inj:∀x y c,X.env.cells.lookup x=some c->X.env.cells.lookup y=some c->x=y
structure LamFn(P:Program)(w:World)(K:Fg)(mg:Str->Option Value)(base:Heap)(k:Nat)(fa:Addr)(sp:Sp):Prop where
 fn:∀vs H Q E,sp vs H Q E->∃c d fd sl,H fa=some (Fz ⟨c,d,.func fd,sl⟩)
 run:∀(A:Around) (outer:List Env) (s:Shared) (H:Hp) (us:List Value) (vs:List V) (Q:VK) (E:XK),bJ k A->jQ P w K mg base A outer s H->aV vs us->sp vs H Q E->
  codeAny (model P w) A (.call (.ref fa) ⟨us,[]⟩) (CR aJ outer P w H s Q E) s
structure b22 where
 nx:St->Hp->Prop
 rt:V->St->Hp->Prop
abbrev TSR:=b22->St->Hp->Prop
structure dI(X:Cx)(e:Expr)(t:TE):Prop where
 run:PE X e t
structure mI(X:Cx)(es:List Expr)(t:TA):Prop where
 run:PA X es t
structure PTw(X:Cx)(e:Expr)(t:TT):Prop where
 run:PT X e t
structure mX(X:Cx)(st:Stmt)(t:TS):Prop where
 run:PS X st t
structure nG(X:Cx)(st:List Stmt)(t:TS):Prop where
 run:cD X st t
section
variable{X:Cx}{es:List Expr}{te:TE}{t u:TA}
theorem oM:mI X [] kR:=⟨aE⟩
theorem bT{c:Const}{k:Nat}{pos:Pos}(ha:dI X (.Constant c k pos) te)(hr:mI X es t):mI X (.Constant c k pos::es) (a7A te t):=⟨aA ha.run hr.run rfl⟩
theorem b0v{a:Expr}{op:UnaryOp}{pos:Pos}(ha:dI X (.UnaryOp op a pos) te)(hr:mI X es t):mI X (.UnaryOp op a pos::es) (a7A te t):=⟨aA ha.run hr.run rfl⟩
theorem rG{pos:Pos}(h:mI X es t):dI X (.List es pos) (tLst t):=⟨eI h.run⟩
theorem dH{x j}{pos:Pos}:dI X (.Constant (.str x) j pos) (tC (.str x)):=⟨bF⟩
theorem iT{i j}{pos:Pos}:dI X (.Constant (.int i) j pos) (tC (.int i)):=⟨bE⟩
theorem b00{b j}{pos:Pos}:dI X (.Constant (.bool b) j pos) (tC (.bl b)):=⟨lB⟩
theorem vB{j}{pos:Pos}:dI X (.Constant .none j pos) (tC .non):=⟨jZ⟩
end
section
variable{X:Cx}{st:Stmt}{fA:List Stmt}{t u:TS}{pos:Pos}
theorem mT{i:Nat}{x:Str}{e:Expr}{te:TE}{pos':Pos}(hN:X.N.Nodup)(hi:X.N[i]?=some x)(hx:oP X.env.scope x)(he:dI X e te)(hs:swapsWith e (some (.Name x pos')) pos.line X.env=pure false:=by rfl)(hf:X.fn x=true\/ X.env.scope.names.lookup x=some .local:=by first|exact .inl rfl|exact .inr rfl|assumption):
 mX X (.Assign [.Name x pos'] e pos) (tAsg te (iJ i)):=⟨cQ hN hi hx he.run hs hf⟩
theorem hU(h1:mX X st t)(h2:nG X fA u):nG X (st::fA) (tSeq t u):=⟨aM h1.run h2.run⟩
end
def b5B(R:Addr->Sp->Prop)(m:Str)(E:XK)(ta:TE)(t:TA):TE:=fun σ H Q=>ta σ H fun x H1=>∃C sp a dx fs,R C sp/\x= .ref a/\H1 a=some (.ins C dx fs)/\fs.lookup m=none/\t σ H1 fun vs H2=>sp (x::vs) H2 Q E
theorem aX.le{P:Program}{w:World}{K:Fg}{mg:Str->Option Value}{base:Heap}{CX:cZ}{j k:Nat}{C:Addr}{m:Str}{ps:List Str}{sp:Sp}(G:aX P w K mg base CX j C m ps sp)(h:j<=k):aX P w K mg base CX k C m ps sp:=by
 obtain⟨f,fd,F,hm,hb⟩:=G.ex
 exact⟨f,fd,F.mono h,hm,hb⟩
structure tJ(X:Cx)(pos:Pos)(keys:List (Option Expr))(values:List Expr)(trs:List (TE×TE)):Prop where
 run:pH X pos keys values trs
section
variable{X:Cx}{pos:Pos}{keys:List (Option Expr)}{values:List Expr}{trs:List (TE×TE)}{k v:Expr}{tk tv:TE}
theorem b3g:tJ X pos [] [] []:=⟨b1P⟩
theorem b1o(hk:dI X k tk)(hv:dI X v tv)(hr:tJ X pos keys values trs):tJ X pos (some k::keys) (v::values) ((tk,tv)::trs):=⟨b5T hk.run hv.run hr.run⟩
theorem b3L(h:tJ X pos keys values trs)(hall:keys.all (·.isSome)=true:=by rfl)(hl:keys.length=values.length:=by rfl)(h0:keys≠ []:=by simp)(h15:keys.length<=15:=by decide):dI X (.Dict keys values pos) (b1f trs):=⟨b4R h.run hall hl h0 h15⟩
end
theorem boxS{X:Cx}{st:List Stmt}{D:fL}{σ:St}{H:Hp}(h:∃t,nG X st t/\t D σ H):∃t,cD X st t/\t D σ H:=let ⟨t,h1,h2⟩:=h;⟨t,h1.run,h2⟩
structure KDict(P:Params)(K:Fg)(p:Addr):Prop where
 ex:∃(es:Array DictEntry) (n:Nat),K.lookup p=some ⟨.type "dict",none,.dict es n,#[]⟩ /\PySem.W.KeysLit P es.toList
 lo:(p==sysModules)=false
structure FnV(P:Program)(w:World)(K:Fg)(mg:Str->Option Value)(base:Heap)(k:Nat)(fa:Addr)(sp:Sp):Prop where
 kp:PySem.W.keepIn K (.ref fa)=true
 run:∀(A:Around) (outer:List Env) (s:Shared) (H:Hp) (us:List Value) (vs:List V) (Q:VK) (E:XK),bJ k A->jQ P w K mg base A outer s H->K.In s.heap->aV vs us->sp vs H Q E->
  codeAny (model P w) A (.call (.ref fa) ⟨us,[]⟩) (CR aJ outer P w H s Q E) s
theorem gW(z:Str):∀zs:List Str,cB (.str z) (zs.map V.str)=decide (z∈zs)
 | []=>rfl
 |y::r=>by
  have ih:=gW z r
  unfold cB at ih|-
  rw[List.map_cons,List.any_cons,ih]
  have e:hJ (.str y) (.str z)=decide (y=z):=by
   by_cases h:y=z<;>simp[hJ,h]
  rw[e,<- Bool.decide_or]
  congr 1
  rw[List.mem_cons]
  exact propext ⟨fun h=>h.imp Eq.symm id,fun h=>h.imp Eq.symm id⟩
theorem gN:∀zs:List Str,(zs.map V.str).all jH=true
 | []=>rfl
 |y::r=>by
  rw[List.map_cons,List.all_cons,gN r]
  rfl
structure MthT(K:Fg)(mg:Str->Option Value)(cls m qual:Str)(st:Stmt)(z:Addr×Addr):Prop where
 ex:∃C f fd,mg cls=some (.ref C)/\gM K m qual st f fd/\PySem.W.findIn K (.ref C) m=some (some (.ref f))/\PySem.W.isFn K (.ref f)=true/\fd.code= .ref z.1
 hd:PySem.W.codeHdIn K z.1 z.2=true
theorem b4B{X:Cx}:fO X (.builtin "isinstance") (fun xs H Q=>∃x T t k,xs= [x,.ty T] /\fD X.K H x t/\PySem.W.kitOne X.K t (.type T)=some k/\Q (.bl k) H):=by
 intro pins s σ H xs us Q I r h
 obtain⟨x,T,t,k,rfl,ty,e,q⟩:=h
 cases r with
 |cons r1 rr=>
  cases rr with
  |cons r2 rr=>
   cases rr
   cases r2
   exact b0U I r1 ty e fun tk=>⟨.bl k,H,I.tok tk,rfl,q⟩
structure LentC(X:Cx)(σ:St)(H:Hp)(f:Lend):Prop extends Lent X σ H f where
 only:∀b o,f b=some o->∃v,o.data= .cell v
section
variable{X:Cx}{k:Nat}{C:Addr}{ps:List Str}{sp:Sp}{x m:Str}{p pos apos:Pos}{e o:Expr}{es:List Expr}{t:TA}{ta:TE}{CX:cZ}{E:XK}
theorem b6h(G:cA X.prog X.w X.K X.mg X.base CX k C ps sp)(hr:bJ (k+ 1) X.A)(hm:X.mg x=some (.ref C))(hx:fI CX X E)(hg:Gl X x:=by rfl)(hdb:(x==("__debug__":Str))=false:=by decide):
 PE X (.Call (.Name x p) [] [] pos) (tV C sp [] E kR):=by
 obtain⟨f,fd,F,M,hb⟩:=G.ex
 exact b5e M F hr hg hm hb .nil hx hdb
end
section
variable{X:Cx}{CX:cZ}{k:Nat}{R:Addr->Sp->Prop}{ps:List Str}{E:XK}{m:Str}{pos apos:Pos}{o:Expr}{ta:TE}
theorem kI{pl:Sem Bool}(he:PE X o ta)(hR:∀C sp,R C sp->bV X.K C/\aX X.prog X.w X.K X.mg X.base CX k C m ps sp)(hr:bJ k X.A)(hx:fI CX X E)
 (ht:eval (.Call (.Attribute o m apos) [] [] pos) X.env=(do
  let ov<- eval o X.env
  standAt apos.atName
  let (f,first)<- holding [ov] (getMethod ov m pl)
  callWith pos f first (backTo pos (starEach [] X.env)) (backToKw pos (keywordEach [] X.env))):=by rfl):
 PE X (.Call (.Attribute o m apos) [] [] pos) (b5B R m E ta kR):=by
 intro pins s σ H Q I h
 refine PySem.W.methodCall_KW (pl:=pl) (aN (he pins s σ H _ I h) fun u s1 ⟨x,H1,I1,rx,C,sp,a,dx,fs,hC,ex,ea,l,q⟩=> ?_) ht
 obtain⟨c,G⟩:=hR C sp hC
 obtain⟨f,fd,F,hm,hb⟩:=G.ex
 subst ex
 obtain rfl:u=Value.ref a:=rx
 refine uU I1 ea c hm l ?_
 exact PySem.W.callWith_K0 (first:=[.ref a]) I1.kIn hm.kp (uE (us:=[.ref a]) (vs:=[.ref a]) F hr hb .nil hx I1 (.cons rfl .nil) q)
end
section
variable{X:Cx}{pins:List (Addr×Obj)}{σ:St}{H:Hp}{s:Shared}{scope:Scope}{cl:List (Str×Addr)}{cp:List (Nat×Str)}{fp:List Addr}{x x2:Str}
theorem b1C(I:aB X pins σ H s)(c:jJ X scope cl cp)(hf:∀b∈fp,fR X pins H b)(hfo:∀b∈fp,b<s.heap.objs.size){h':Heap}{ty:String}{tk:Nat}{m:Str->Option Value}(hm:h'.Ns s.heap.objs.size m)
 (sb:Heap.SameBut s.heap.objs.size (s.heap.push {cls:=.type ty,data:=.dict #[]}) h'):
 aB (eO X scope cl s.heap.objs.size (x::x2::cp.map (·.2)) fp pins s H) [] (none::none::cO cp σ) H {s with heap:=h',toks:=tk}:=by
 have old:∀b o,s.heap.get? b=some o->h'.get? b=some o:=fun b o e=>(sb.2 b (Nat.ne_of_lt (Heap.lt_size e))).trans (Heap.get?_push_of_some _ e)
 have hC:H s.heap.objs.size=none:=I.hok.fresh (Nat.le_refl _)
 refine⟨⟨I.ok.mod,c.kind,I.ok.glob,I.ok.blt,Nat.le_refl _,fun y z k h1 h2=>I.ok.inj y z k (c.sub _ _ h1) (c.sub _ _ h2),c.has,fun y k z=>(Bool.noConfusion z),I.ok.hd,I.ok.frames,.inl rfl,fun b hb=> ?_,fun b o e=>I.bs b o e,Nat.le_trans I.ok.bsz I.sz,fun b o e hb=> ?_,fun b hb hz=> ?_,I.stack,I.stkFree⟩,
  rfl,I.bare,Un.kept old,⟨m,hm,fun i y v h1 h2 h3=> ?_⟩,fun y k e=> ?_,hC,fun y k e=>I.freeC y k (c.sub y k e),fun p hp=> ?_,I.hok.kept old,?_⟩
 ·obtain⟨f0,f1,f2,f3,f4,f5⟩:=hf b hb
  exact⟨Nat.ne_of_lt (hfo b hb),fun y k e=>f4 y k (c.sub y k e)⟩
 ·obtain⟨f0,f1,f2,f3,f4,f5⟩:=hf b hb
  rcases f3 with z|z
  ·exact I.ok.noex b o e z
  ·exact absurd (Nat.lt_of_lt_of_le (Heap.lt_size (I.ok.bs b o e).1) z) (Nat.lt_irrefl _)
 ·obtain⟨f0,f1,f2,f3,f4,f5⟩:=hf b hb
  rcases List.mem_cons.mp (I.stkSub b hz)with e|e
  ·exact f1 e
  ·exact f2 e
 ·rcases i with _|_|i
  ·simp at h2
  ·simp at h2
  ·
   have h1':(cp.map (·.2))[i]?=some y:=by
    have z:(x::x2::cp.map (·.2))[i+ 1+ 1]?=some y:=h1
    rw[List.getElem?_cons_succ,List.getElem?_cons_succ]at z
    exact z
   have h2':(cO cp σ)[i]?=some (some v):=by simpa using h2
   unfold cO at h2'
   rw[List.getElem?_map]at h1' h2'
   cases e:cp[i]? with
   |none=>rw[e]at h1';cases h1'
   |some p=>
    rw[e]at h1' h2'
    simp only[Option.map_some,Option.some.injEq]at h1' h2'
    obtain⟨k1,k2,k3⟩:=c.at' p (List.mem_of_getElem? e)
    subst h1'
    have h2'':σ[p.1]?=some (some v):=by
     cases q:σ[p.1]? with
     |none=>rw[q]at h2';cases h2'
     |some z=>rw[q]at h2';simpa using h2'
    obtain⟨m0,hn0,hl0⟩:=I.loc
    obtain⟨u,r,l⟩:=hl0 p.1 p.2 v k1 h2'' (k2.elim (fun z=> .inr (.inl z)) fun z=> .inr (.inr z))
    refine⟨u,r,.inr ⟨k3,?_⟩⟩
    rcases l with⟨z,_⟩|⟨_,cc,e1,e2⟩
    ·have z':X.env.scope.names.lookup p.2=some .local:=z
     rcases k2 with k|k<;>(rw[z']at k;cases k)
    ·obtain⟨cc',e3⟩:=c.has p.2 k3
     have e4:=c.sub _ _ e3
     rw[e1]at e4
     cases e4
     obtain⟨o,ho,hd⟩:=e2
     exact⟨cc,e3,o,old _ _ ho,hd⟩
 ·obtain⟨v,o,ho,hd⟩:=I.cell y k (c.sub y k e)
  exact⟨v,o,old _ _ ho,hd⟩
 ·have hp':p∈X.pn++ pins:=by
   rcases List.mem_append.mp hp with z|z
   ·exact z
   ·cases z
  obtain⟨e,n,ne,nf,d⟩:=I.pin p hp'
  refine⟨old _ _ e,n,Nat.ne_of_lt (Heap.lt_size e),fun hz=> ?_,d⟩
  rcases List.mem_cons.mp (I.stkSub p.1 hz)with q|q
  ·exact ne q
  ·exact nf q
 ·show(none::none::cO cp σ).length=(x::x2::cp.map (·.2)).length
  simp[cO]
end
def a6x(cp:List (Nat×Str))(tg:TG)(tt:TT)(te:TE)(σ:St)(J:It)(D:Addr)(Q:VK)(H1:Hp):Prop:=
 ∃W:Nat->Nat->Hp->Prop,(∃m,W 0 m (upd H1 D (.lst [])))/\∀i m H2,W i m H2->(J.stop i H2/\Q (.ref D) H2)\/
  (J.go i H2/\∃(N:VK) (N':Hp->Prop),(∀y H5,N y H5->∃ys m',H5 D=some (.lst ys)/\ys.length<sizeLine/\m'<m/\W (i+ 1) m' (upd H5 D (.lst (ys++ [y]))))/\(∀H4,N' H4->∃m',m'<m/\W (i+ 1) m' H4)/\
   ∀v H3 o o',J.yld i H2 v H3->tg v (o::o'::cO cp σ) H3 fun σ' H4=>∃a b,σ'=some a::some b::cO cp σ/\tt σ' H4 fun k H5=>if k=true then te σ' H5 N else N' H5)
def b0i(cp:List (Nat×Str))(wi:TI)(tg:TG)(tt:TT)(te:TE):TE:=fun σ H Q=>wi σ H fun J H1=>∀D,H1 D=none->a6x cp tg tt te σ J D Q H1
section
variable{X:Cx}{scope:Scope}{cl:List (Str×Addr)}{cp:List (Nat×Str)}{x x2:Str}{tgt:Expr}{tg:TG}{pos:Pos}{elt iter:Expr}{ifs:List Expr}{wi:TI}{tt:TT}{te:TE}
theorem b4H{pins:List (Addr×Obj)}{σ:St}{H2:Hp}{s2:Shared}{it:Addr}{fp:List Addr}{tn:Nat->Heap->Prop}{J:It}{Q:VK}{R:Addr->Result->Shared->Prop}{E:Value->Shared->Prop}(c:jJ X scope cl cp)(hcalm:X.calm=true)(hg:∀C fp pins s H,PG (eO X scope cl C (x::x2::cp.map (·.2)) fp pins s H) tgt tg)
 (ht:∀C fp pins s H,lH (eO X scope cl C (x::x2::cp.map (·.2)) fp pins s H) ifs tt)(he:∀C fp pins s H,PE (eO X scope cl C (x::x2::cp.map (·.2)) fp pins s H) elt te)
 (I2:aB X pins σ H2 s2)(T:pD X.prog X.w X.K tgt J fp it tn)(st2:tn 0 s2.heap)(f2:∀b∈fp,fR X pins H2 b)(q:a6x cp tg tt te σ J s2.heap.objs.size Q H2)
 (hR:∀(C:Addr) (H':Hp) (s':Shared),(∃m,s'.heap.Ns C m)->X.s₀.heap.objs.size<=C->H' C=none->C≠X.env.locals->(∀x c,X.env.cells.lookup x=some c->c≠C)->(∀p∈X.pn++ pins,p.1≠C)->(∀h'',Heap.SameBut C s'.heap h''->aB X pins σ H' {s' with heap:=h''})->Q (.ref s2.heap.objs.size) H'->R C (.ok .next) s'):
 wpAny (model X.prog X.w) X.A (newList []) (fun acc s₃=>wpAny (model X.prog X.w) X.A (newFunctionEnv scope X.env.globals cl [] X.env.qual none .none (some X.env)) (fun cenv s₄=>
  acc= .ref s2.heap.objs.size/\codeAny (model X.prog X.w) X.A (.compStart (.ListComp elt [⟨tgt,iter,ifs,0⟩] scope pos) 0 (.ref it) acc {cenv with scope:=relabel scope X.env}) (R cenv.locals) s₄) E s₃) E s2:=by
 obtain⟨W,⟨m0,w0⟩,turn⟩:=q
 refine wpAny_newObj_type ?_
 have I3:aB X pins σ (upd H2 s2.heap.objs.size (.lst [])) {s2 with heap:=s2.heap.push {cls:=.type "list",dict:=none,data:=.seq ([]:List Value).toArray}}:=
  I2.lnew (t':=s2.toks) (ys:=[]) (its:=[]) .nil (Nat.zero_le _)
 have fpo:∀b∈fp,b<s2.heap.objs.size:=fun b hb=>by
  obtain⟨o,e,_⟩:=T.obj _ _ st2 b hb
  exact Heap.lt_size e
 have f3:∀b∈fp,fR X pins (upd H2 s2.heap.objs.size (.lst [])) b:=fun b hb=>⟨by rw[aH (Nat.ne_of_lt (fpo b hb))];exact(f2 b hb).1,(f2 b hb).2⟩
 generalize hs3:({s2 with heap:=s2.heap.push {cls:=.type "list",dict:=none,data:=.seq ([]:List Value).toArray}}:Shared)=s3 at I3
 have e3:s3.heap=s2.heap.push {cls:=.type "list",dict:=none,data:=.seq ([]:List Value).toArray}:=by rw[<- hs3]
 have sz3:s2.heap.objs.size<s3.heap.objs.size:=by rw[e3,Heap.size_push];exact Nat.lt_succ_self _
 refine wpAny_newFunctionEnv c.nocell (by intro y hy;cases hy) (fun h₁ hns sb=> ?_) c.kind
 have J3:=b1C (x:=x) (x2:=x2) (tk:=s3.toks+ ([]:List (Str×Value)).length) I3 c f3 (fun b hb=>Nat.lt_trans (fpo b hb) sz3) hns sb
 refine⟨rfl,?_⟩
 have st3:tn 0 h₁:=T.keep _ _ _ st2 fun b hb o e=>(sb.2 b (Nat.ne_of_lt (Nat.lt_trans (fpo b hb) sz3))).trans (Heap.get?_push_of_some _ (by rw[e3];exact Heap.get?_push_of_some _ e))
 generalize hX:eO X scope cl s3.heap.objs.size (x::x2::cp.map (·.2)) fp pins s3 (upd H2 s2.heap.objs.size (.lst []))=X' at J3
 have eA:X'.A=X.A:=by rw[<- hX];rfl
 have eP:X'.prog=X.prog:=by rw[<- hX];rfl
 have ew:X'.w=X.w:=by rw[<- hX];rfl
 have eK:X'.K=X.K:=by rw[<- hX];rfl
 have ec:X'.calm=true:=by rw[<- hX];exact hcalm
 have ee:X'.env=compEnvC scope cl s3.heap.objs.size X.env:=by rw[<- hX];rfl
 have ex:X'.xe=fun _ _=>False:=by rw[<- hX];rfl
 have fpX:∀{H':Hp},(∀b∈fp,H' b=none)->∀b∈fp,fR X' [] H' b:=fun hn b hb=>by
  obtain⟨f0,f1,f2',f3',f4,f5⟩:=f3 b hb
  subst hX
  refine⟨hn b hb,Nat.ne_of_lt (Nat.lt_trans (fpo b hb) sz3),fun hz=> ?_,.inl hb,fun y k e=>f4 y k (c.sub y k e),fun p hp=> ?_⟩
  ·rcases List.mem_cons.mp (I3.stkSub b hz)with e|e
   ·exact f1 e
   ·exact f2' e
  ·rcases List.mem_append.mp hp with z|z
   ·exact f5 p z
   ·cases z
 have pT:=ht s3.heap.objs.size fp pins s3 (upd H2 s2.heap.objs.size (.lst []))
 have pE:=he s3.heap.objs.size fp pins s3 (upd H2 s2.heap.objs.size (.lst []))
 have pG:=hg s3.heap.objs.size fp pins s3 (upd H2 s2.heap.objs.size (.lst []))
 rw[hX]at pT pE pG
 have loop:codeAny (model X.prog X.w) X.A (.compLoop (.ListComp elt [⟨tgt,iter,ifs,0⟩] scope pos) 0 (.ref it) (.ref s2.heap.objs.size) (compEnvC scope cl s3.heap.objs.size X.env)) (R s3.heap.objs.size) {s3 with heap:=h₁,toks:=s3.toks+ ([]:List (Str×Value)).length}:=by
  refine a97 (fun n s'=>∃i o o' H',aB X' [] (o::o'::cO cp σ) H' s'/\tn i s'.heap/\(∀b∈fp,H' b=none)/\W i n H') ?_ m0 ⟨0,none,none,_,J3,st3,fun b hb=>(f3 b hb).1,w0⟩
  rintro n s5 ⟨i,o,o',H5,J5,st5,fr5,w5⟩
  rcases turn i n H5 w5 with⟨stop,qn⟩|⟨go,N,N',hN,hN',step⟩
  ·have z:=T.done X' eP ew eK ec i [] s5 _ H5 (fun _ _=>False) J5 (fpX fr5) st5 stop
   rw[eA]at z
   refine aN z fun r s6 ⟨hr,J6⟩=> ?_
   subst hr
   subst hX
   obtain⟨m6,hn6,_⟩:=J6.loc
   refine hR s3.heap.objs.size H5 s6 ⟨m6,hn6⟩ I3.sz J6.free (Nat.ne_of_gt I3.lt) (fun y k e z=> ?_) (fun p hp z=> ?_) (fun h'' sb'=>I3.uncomp rfl f3 J6 sb') qn
   ·obtain⟨v,w'⟩:=I3.cell y k e
    exact absurd w'.lt (by rw[z];exact Nat.lt_irrefl _)
   ·exact absurd (Heap.lt_size (I3.pin p hp).1) (by rw[z];exact Nat.lt_irrefl _)
  ·have z:=T.item X' eP ew eK ec i [] s5 _ H5 (fun _ _=>False) J5 (fpX fr5) st5 go
   rw[eA]at z
   refine aN z fun r s6 ⟨u,hr,h6⟩=> ?_
   subst hr
   refine aN h6 fun _ s7 ⟨v,H7,J7,r7,y7,st7,fr7⟩=> ?_
   have J7':=J7.pinned (fpX fr7) (T.obj _ _ st7)
   have z8:=pG _ s7 _ H7 v u _ J7' r7 (step v H7 o o' y7)
   rw[eA,eP,ew,ee,ex]at z8
   refine aN z8 fun _ s8 ⟨σ8,H8,J8,va,vb,e8,q8⟩=> ?_
   subst e8
   have z9:=pT _ s8 _ H8 _ J8 q8
   rw[eA,eP,ew,ee,ex]at z9
   refine aN z9 fun ok s9 ⟨H9,J9,q9⟩=> ?_
   have fin:∀{H':Hp} {s':Shared},aB X' ([] ++ lN fp s7.heap) (some va::some vb::cO cp σ) H' s'->(∃m',m'<n/\W (i+ 1) m' H')->∃m,m<n/\∃i o o' H',aB X' [] (o::o'::cO cp σ) H' s'/\tn i s'.heap/\(∀b∈fp,H' b=none)/\W i m H':=fun{H' s'} K' ⟨m',hm,w'⟩=>by
    refine⟨m',hm,i+ 1,some va,some vb,H',K'.unpinned,T.keep _ _ _ st7 fun b hb ob e=>(K'.pin (b,ob) (List.mem_append_right _ (List.mem_append_right _ (mH hb e)))).1,fun b hb=> ?_,w'⟩
    obtain⟨ob,e,d⟩:=T.obj _ _ st7 b hb
    exact(K'.pin (b,ob) (List.mem_append_right _ (List.mem_append_right _ (mH hb e)))).2.1
   cases ok with
   |false=>
    rw[if_neg Bool.false_ne_true]at q9|-
    exact fin J9 (hN' _ q9)
   |true=>
    rw[if_pos rfl]at q9|-
    have z10:=pE _ s9 _ H9 _ J9 q9
    rw[eA,eP,ew,ee,ex]at z10
    refine aN z10 fun u10 s10 ⟨y,H10,J10,r10,n10⟩=> ?_
    obtain⟨ys,m',hD,hz,hm,w'⟩:=hN y H10 n10
    have z11:=uS (X:=X') _ s10 _ H10 (.ref s2.heap.objs.size) [y] (.ref s2.heap.objs.size) [u10] (fun _ H'=>H'=upd H10 s2.heap.objs.size (.lst (ys++ [y]))) J10 rfl (.cons r10 .nil) ⟨_,ys,y,rfl,rfl,hD,hz,rfl⟩
    rw[eA,eP,ew,ex]at z11
    refine aN z11 fun u11 s11 ⟨y',H11,J11,r11,e11⟩=> ?_
    subst e11
    exact fin J11 ⟨m',hm,w'⟩
 exact codeAny_compStart_list loop (T.self _ 0 _ _ _ st3 loop)
theorem b6w(c:jJ X scope cl cp)(hcalm:X.calm=true)(hg:∀C fp pins s H,PG (eO X scope cl C (x::x2::cp.map (·.2)) fp pins s H) tgt tg)(hi:PI X tgt iter wi)
 (ht:∀C fp pins s H,lH (eO X scope cl C (x::x2::cp.map (·.2)) fp pins s H) ifs tt)(he:∀C fp pins s H,PE (eO X scope cl C (x::x2::cp.map (·.2)) fp pins s H) elt te)
 (hs:∀v,foldedSetIterable iter X.env v=pure v:=by intro _;rfl):PE X (.ListComp elt [⟨tgt,iter,ifs,0⟩] scope pos) (b0i cp wi tg tt te):=by
 intro pins s σ H Q I h
 rw[eval_ListComp]
 refine wpAny_comprehension_free (use:=none) (g:=⟨tgt,iter,ifs,0⟩) (gs:=[]) (cl:=cl) rfl hs c.clos c.kind c.names ?_
 refine aN (hi pins s σ H _ I h) fun v s1 h1=>aN h1 fun itv s2 h2=> ?_
 obtain⟨it,fp,tn,J,H2,e,I2,T,st2,f2,q⟩:=h2
 subst e
 refine aN (b4H (iter:=iter) (pos:=pos) (R:=fun C=>compPost (model X.prog X.w) X.A X.xe none (EP X pins σ Q) (.ref s2.heap.objs.size) C) c hcalm hg ht he I2 T st2 f2 (q _ (I2.hok.fresh (Nat.le_refl _))) ?_) fun acc s3 h3=>aN h3 fun cenv s4 h4=> ?_
 ·rintro C H' s' ⟨m,hn⟩ _ _ _ _ _ hI hq
  exact⟨m,hn,fun h'' sb=>⟨.ref s2.heap.objs.size,H',hI h'' sb,rfl,hq⟩⟩
 ·obtain⟨e,h4⟩:=h4
  subst e
  exact h4
theorem b2u{C:Addr}{fp:List Addr}{pins:List (Addr×Obj)}{s:Shared}{H:Hp}{p1 p2:Pos}(hx:scope.names.lookup x=some .local)(hx2:scope.names.lookup x2=some .local)(hnd:(x::x2::cp.map (·.2)).Nodup):nO (eO X scope cl C (x::x2::cp.map (·.2)) fp pins s H) [.Name x p1,.Name x2 p2] (rS (iJ 0) (rS (iJ 1) gNil)):=
 b0R (lI hnd rfl (.inl (lookup_relabel_local hx)) (.inr (lookup_relabel_local hx))) (b0R (lI hnd rfl (.inl (lookup_relabel_local hx2)) (.inr (lookup_relabel_local hx2))) b2P)
theorem b1U{k:Nat}{px px2 pt:Pos}(c:jJ X scope cl cp)(hcalm:X.calm=true)(hx:scope.names.lookup x=some .local)(hx2:scope.names.lookup x2=some .local)(hnd:(x::x2::cp.map (·.2)).Nodup)(hi:PI X (.Tuple [.Name x px,.Name x2 px2] k pt) iter wi)
 (ht:∀C fp pins s H,lH (eO X scope cl C (x::x2::cp.map (·.2)) fp pins s H) ifs tt)(he:∀C fp pins s H,PE (eO X scope cl C (x::x2::cp.map (·.2)) fp pins s H) elt te)
 (hs:∀v,foldedSetIterable iter X.env v=pure v:=by intro _;rfl):PE X (.ListComp elt [⟨.Tuple [.Name x px,.Name x2 px2] k pt,iter,ifs,0⟩] scope pos) (b0i cp wi (gTup X.K 2 (rS (iJ 0) (rS (iJ 1) gNil))) tt te):=
 b6w c hcalm (fun C fp pins s H=>b19 hcalm (b2u hx hx2 hnd)) hi ht he hs
end
def cV(cs:List Str):List Str:=cs.foldl (fun acc c=>if c∈acc then acc else acc++ [c]) []
theorem a66(cs:List Str)(c:Str):cV (cs++ [c])=if c∈cV cs then cV cs else cV cs++ [c]:=by
 unfold cV
 rw[List.foldl_append]
 rfl
theorem b4f:∀n (cs:List Str),cs.length=n->(cV cs).length<=n:=by
 intro n
 induction n with
 |zero=>intro cs h;rw[List.length_eq_zero_iff.mp h];exact Nat.le_refl 0
 |succ n ih=>
  intro cs h
  rcases List.eq_nil_or_concat cs with rfl|⟨l,x,e⟩
  ·simp at h
  ·rw[List.concat_eq_append]at e
   subst e
   rw[List.length_append]at h
   have h':l.length+ 1=n+ 1:=h
   have:=ih l (by omega)
   rw[a66]
   split
   ·omega
   ·rw[List.length_append];show(cV l).length+ 1<=_;omega
section
variable{prog:Program}{w:World}{A:Around}{R:Result->Shared->Prop}
theorem b5D(c:Str)(t:Tok):(strKind prog w).is c (.str c t)=true:=by
 show(Value.str c t).isStr c=true
 simp[Value.isStr]
abbrev iD(cs:List Str):Str->Bool:=fun k=>(cV cs).any fun x=>decide (x=k)
theorem b2Z(hh:A.handled=none){it l S:Addr}{items:List Value}{cs:List Str}(hli:l≠it)(hlS:l≠S)(hSi:S≠it)(hv:∀(i:Nat) (c:Str),cs[i]?=some c->∃t,items[i]?=some (Value.str c t))(hl:items.length=cs.length)(hsz:cs.length+ 1<scanBound):
 ∀(k i:Nat) (s:Shared),cs.length- i=k->i<=cs.length->s.heap.IsListIter it l i->s.heap.IsList l items.toArray->s.heap.SetOf (strKind prog w) S (iD (cs.take i)) (cV (cs.take i)).length->
  (∀h' tk,h'.SetOf (strKind prog w) S (iD cs) (cV cs).length->(∀b o,b≠it->b≠S->s.heap.get? b=some o->h'.get? b=some o)->R (.ok (.ret .none)) {s with heap:=h',toks:=tk})->
  codeAny (model prog w) A (.builtin "set.update.loop" ⟨[.ref S,.ref it],[]⟩) R s:=by
 intro k
 induction k with
 |zero=>
  intro i s hk hi hit hls hS hR
  have hin:i=cs.length:=by omega
  subst hin
  refine codeAny_builtin F.entry_set_update_loop ?_
  rw[Around.under_plainId F.plain_set_update_loop _]
  show wpAny _ A.in1 (pyNext (.ref it)>>=_) _ _ s
  refine wpAny_bind (wpAny_pyNext_list_end hh hit hls (by simp[hl]) fun h' hx=> ?_)
  refine wpAny_pure (hR h' s.toks ?_ fun b o hb _ x=>hx b o hb x)
  rw[List.take_length]at hS
  obtain⟨o,es,ep,t,ho,r⟩:=hS
  exact⟨o,es,ep,t,hx S o hSi ho,r⟩
 |succ k ih=>
  intro i s hk hi hit hls hS hR
  have hlt:i<cs.length:=by omega
  obtain⟨c,hc⟩:∃c,cs[i]?=some c:=⟨_,List.getElem?_eq_getElem hlt⟩
  obtain⟨t,hx⟩:=hv i c hc
  refine codeAny_builtin F.entry_set_update_loop ?_
  rw[Around.under_plainId F.plain_set_update_loop _]
  show wpAny _ A.in1 (pyNext (.ref it)>>=_) _ _ s
  refine wpAny_bind (wpAny_pyNext_list_item hit hls (x:=.str c t) (by simpa using hx) fun h1 hit1 hs1=> ?_)
  show wpAny _ A.in1 (holding [Value.str c t] (setAdd S (Value.str c t))>>=_) _ _ _
  refine wpAny_bind (wpAny_holding ?_)
  unfold setAdd
  refine wpAny_holding (wpAny_bind (wpAny_pyHash_str ?_))
  have hS1:Heap.SetOf (strKind prog w) h1 S (iD (cs.take i)) (cV (cs.take i)).length:=by
   obtain⟨o,es,ep,t,ho,r⟩:=hS
   exact⟨o,es,ep,t,(hs1.2 S hSi).trans ho,r⟩
  have ln:=b4f _ (cs.take i) rfl
  rw[List.length_take]at ln
  have et:cs.take (i+ 1)=cs.take i++ [c]:=by rw[List.take_add_one,hc];rfl
  refine wpAny_setAddHashed_of (knd:=strKind prog w) (k:=c) (x:=.str c t) (b5D c t) rfl hS1 (by omega) fun h2 hs2 hS2=> ?_
  have hS3:Heap.SetOf (strKind prog w) h2 S (iD (cs.take (i+ 1))) (cV (cs.take (i+ 1))).length:=by
   refine SetOf_congr hS2 (fun k'=> ?_) ?_
   ·show(((cV (cs.take i)).any fun x=>decide (x=k'))||decide (k'=c))=(cV (cs.take (i+ 1))).any fun x=>decide (x=k')
    rw[et,a66]
    by_cases hm:c∈cV (cs.take i)
    ·rw[if_pos hm]
     by_cases e:k'=c
     ·rw[e,List.any_eq_true.mpr ⟨c,hm,decide_eq_true rfl⟩];rfl
     ·rw[decide_eq_false e,Bool.or_false]
    ·rw[if_neg hm,List.any_append]
     congr 1
     simp[eq_comm]
   ·rw[et,a66]
    by_cases hm:c∈cV (cs.take i)
    ·rw[if_pos hm,if_pos (show iD (cs.take i) c=true from List.any_eq_true.mpr ⟨c,hm,decide_eq_true rfl⟩)]
    ·rw[if_neg hm,if_neg (fun h=>hm (by obtain⟨x,h1,h2⟩:=List.any_eq_true.mp h;rw[<- of_decide_eq_true h2];exact h1)),List.length_append]
     rfl
  have oth:∀b o,b≠it->b≠S->s.heap.get? b=some o->h2.get? b=some o:=fun b o e1 e2 x=>(hs2.2 b e2).trans ((hs1.2 b e1).trans x)
  show wpAny _ A.in1 (again _) _ _ _
  refine wpAny_pure ⟨plainId_quiet F.plain_set_update_loop _,?_⟩
  show codeAny _ A (.builtin "set.update.loop" ⟨[.ref S,.ref it],[]⟩) R _
  refine ih (i+ 1) _ (by omega) hlt (hit1.at fun o x=>(hs2.2 it hSi.symm).trans x) (hls.at fun o x=>oth l o hli hlS x) hS3 fun h3 tk3 hS4 hk3=>hR h3 tk3 hS4 fun b o e1 e2 x=>hk3 b o e1 e2 (oth b o e1 e2 x)
end
section
variable{prog:Program}{w:World}{A:Around}{E:Value->Shared->Prop}{s:Shared}
theorem b1T{Q:Value->Shared->Prop}(hh:A.handled=none){l:Addr}{items:List Value}{cs:List Str}(hl:s.heap.IsList l items.toArray)(hv:∀(i:Nat) (c:Str),cs[i]?=some c->∃t,items[i]?=some (Value.str c t))(hlen:items.length=cs.length)(hsz:cs.length+ 1<scanBound)
 (hQ:∀h' tk,h'.SetOf (strKind prog w) s.heap.objs.size (iD cs) (cV cs).length->(∀b o,s.heap.get? b=some o->h'.get? b=some o)->Q (.ref s.heap.objs.size) {s with heap:=h',toks:=tk}):
 wpAny (model prog w) A (call (.type "set") [.ref l]) Q E s:=by
 obtain⟨c,tl,hmro⟩:=F.called_set.mro
 have hmade:=F.called_set.made
 have hsub:=F.called_set.sub
 refine wpAny_call (codeAny_of_tree ?_)
 refine wpAny_pure ⟨Code.quiet_builtin _ (by decide+kernel),codeAny_builtin F.entry_type_call ?_⟩
 rw[Around.under_plain (weight_type_call_type "set" [.ref l] []) rfl]
 have h1:=F.called_set.notType
 have h2:=F.called_set.canCreate
 have hct:=F.typeCall_set_1 (.ref l)
 unfold Builtin.«type.__call__»
 refine wpAny_ite_false rfl ?_
 refine wpAny_ite_false rfl ?_
 refine wpAny_bind (wpAny_of_eq hct ?_)
 refine wpAny_bind (wpAny_of_eq hmro ?_)
 refine wpAny_ite_false rfl ?_
 refine wpAny_bind (wpAny_of_eq hmade ?_)
 refine wpAny_bind (wpAny_pure ?_)
 refine wpAny_bind (wpAny_holding (wpAny_call (codeAny_mono (code_set_new_1 (E:=E) (.ref l) (Q₁:=fun obj s₁=>∃led,obj= .ref s.heap.objs.size/\s₁={s with heap:=s.heap.push {cls:=.type "set",data:=.set #[] 0 (SetTable.fresh 0 0 led)}}) fun led=>⟨led,rfl,rfl⟩) fun r s₁ hr=> ?_)))
 rcases r with e|fl
 ·exact hr
 cases fl with
 |ret v=>
  obtain⟨led,rfl,rfl⟩:=hr
  have hS:(s.heap.push {cls:=.type "set",data:=.set #[] 0 (SetTable.fresh 0 0 led)}).get? s.heap.objs.size=some {cls:=.type "set",data:=.set #[] 0 (SetTable.fresh 0 0 led)}:=Heap.get?_push_size _ rfl
  have hT:(⟨s.heap.push {cls:=.type "set",data:=.set #[] 0 (SetTable.fresh 0 0 led)},s.gens,s.drawn,s.toks,s.os⟩:Shared).TypeIs (.ref s.heap.objs.size) "set":=⟨_,hS,rfl⟩
  have hli:=F.called_set.init.lookup
  have hbi:=F.called_set.init.bind (.ref s.heap.objs.size)
  refine wpAny_bind (wpAny_isInstance hT hsub ?_)
  refine wpAny_ite_false rfl ?_
  refine wpAny_bind (wpAny_holding ?_)
  refine wpAny_bind (wpAny_specialOf hT hli ?_)
  refine wpAny_holding (wpAny_bind (wpAny_of_eq hbi ?_))
  refine wpAny_bind (wpAny_call (codeAny_mono (R:=wants (fun r s₂=>r= .none/\∃h' tk,s₂={s with heap:=h',toks:=tk} /\h'.SetOf (strKind prog w) s.heap.objs.size (iD cs) (cV cs).length/\∀b o,s.heap.get? b=some o->h'.get? b=some o) E) (codeAny_call_builtin F.called_set.init.plain F.entry_set_init (check_set_init_1 hT ?_)) fun r2 s2 h2=> ?_))
  ·obtain⟨ol,hol,hcl,nl,hdl⟩:=hl
   have hol':=Heap.get?_push_of_some {cls:=.type "set",data:=.set #[] 0 (SetTable.fresh 0 0 led)} hol
   have hsls:=F.sub_list_set
   have hslf:=F.sub_list_frozenset
   unfold Builtin.«set.__init__»
   obtain⟨hp,g,d,tk,os⟩:=s
   refine wpAny_bind (wpAny_ite_true rfl (wpAny_pure ?_))
   show wpAny _ _ (typeNameOfCut 200 (.ref hp.objs.size)>>=_) _ _ _
   refine wpAny_bind ?_
   unfold typeNameOfCut
   refine wpAny_bind ?_
   unfold shownTypeOf
   refine wpAny_bind (wpAny_typeOf hT ?_)
   refine wpAny_ite_false rfl (wpAny_pure ?_)
   show wpAny _ _ (typeNameCut 200 (.type "set")) _ _ _
   refine wpAny_pure ?_
   show wpAny _ _ (checkCount _ 0 1 1>>=_) _ _ _
   refine wpAny_bind (wpAny_pure ?_)
   show wpAny _ _ (Builtin.Frozenset.addrOf (.ref hp.objs.size)>>=_) _ _ _
   refine wpAny_bind (wpAny_pure ?_)
   show wpAny _ _ (setUsed hp.objs.size>>=_) _ _ _
   refine wpAny_bind ?_
   unfold setUsed
   refine wpAny_bind (wpAny_setState_of hS rfl rfl ?_)
   refine wpAny_pure ?_
   refine wpAny_ite_false rfl ?_
   show wpAny _ _ (Builtin.Frozenset.updateFrom "set.__init__" hp.objs.size (.ref l)>>=_) _ _ _
   refine wpAny_bind ?_
   unfold Builtin.Frozenset.updateFrom
   have hTl:(⟨hp.push {cls:=.type "set",data:=.set #[] 0 (SetTable.fresh 0 0 led)},g,d,tk,os⟩:Shared).TypeIs (.ref l) "list":=⟨_,hol',hcl⟩
   have hl1:(hp.push {cls:=.type "set",data:=.set #[] 0 (SetTable.fresh 0 0 led)}).IsList l items.toArray:=⟨_,hol',hcl,nl,hdl⟩
   refine wpAny_bind ?_
   unfold Builtin.Frozenset.isAnySet
   show wpAny _ _ (isInstance (.ref l) (.type "set")>>=_) _ _ _
   refine wpAny_bind (wpAny_isInstance hTl hsls ?_)
   show wpAny _ _ (isInstance (.ref l) (.type "frozenset")) _ _ _
   refine wpAny_isInstance hTl hslf ?_
   refine wpAny_ite_false rfl ?_
   refine wpAny_bind (wpAny_typeOf hTl ?_)
   refine wpAny_ite_false rfl ?_
   refine wpAny_bind (wpAny_pyIter_list hl1 ?_)
   refine wpAny_bind (wpAny_runValue ?_)
   have lth:l<hp.objs.size:=Heap.lt_size hol
   have hsz1:(hp.push {cls:=.type "set",data:=.set #[] 0 (SetTable.fresh 0 0 led)}).objs.size=hp.objs.size+ 1:=Heap.size_push _ _
   refine b2Z (A:=A.in1.in1) (cs:=cs) (items:=items) hh (it:=(hp.push {cls:=.type "set",data:=.set #[] 0 (SetTable.fresh 0 0 led)}).objs.size) (l:=l) (S:=hp.objs.size) (Nat.ne_of_lt (by rw[hsz1];exact Nat.lt_succ_of_lt lth)) (Nat.ne_of_lt lth) (Nat.ne_of_lt (by rw[hsz1];exact Nat.lt_succ_self _)) hv hlen hsz cs.length 0 _ (by omega) (Nat.zero_le _) ?_ ?_ ?_ fun h' tk' hS' hk'=> ?_
   ·exact⟨_,Heap.get?_push_size _ rfl,rfl,rfl⟩
   ·exact hl1.at fun o x=>Heap.get?_push_of_some _ x
   ·refine⟨_,#[],0,SetTable.fresh 0 0 led,Heap.get?_push_of_some _ hS,⟨rfl,rfl,rfl⟩,rfl,?_,fun k=> ?_,by decide,rfl,rfl⟩
    ·intro e he;simp at he
    ·constructor
     ·intro h;simp[cV]at h
     ·rintro⟨e,he,_⟩;simp at he
   ·refine wpAny_pure ?_
    refine wpAny_pure ?_
    refine⟨rfl,h',tk',rfl,hS',fun b o e=> ?_⟩
    have ltb:b<hp.objs.size:=Heap.lt_size e
    exact hk' b o (Nat.ne_of_lt (by rw[hsz1];exact Nat.lt_succ_of_lt ltb)) (Nat.ne_of_lt ltb) (Heap.get?_push_of_some _ (Heap.get?_push_of_some _ e))
  ·rcases r2 with e|fl
   ·exact h2
   cases fl with
   |ret v=>
    obtain⟨rfl,h',tk,rfl,h3,h4⟩:=h2
    refine wpAny_pure ?_
    refine wpAny_ite_false rfl ?_
    exact wpAny_pure (hQ h' tk h3 h4)
   |_=>exact h2
 |_=>exact hr
end
def vG(P:Program)(w:World)(D:Addr)(S:Str->Bool)(n:Nat):HO:=.ext fun h=>h.SetOf (strKind P w) D S n
section
variable{X:Cx}
theorem b3O(hc:X.calm=true):fO X (.type "set") (fun xs H Q=>∃a cs,xs= [.ref a] /\aS X.K H a (cs.map V.str)/\cs.length<=1000/\∀d,H d=none->Q (.ref d) (upd H d (vG X.prog X.w d (iD cs) (cV cs).length))):=by
 intro pins s σ H xs us Q I r h
 obtain⟨a,cs,rfl,ha,h1000,q⟩:=h
 obtain⟨u,rfl,rx⟩:=kD r
 cases rx
 obtain⟨its,r',pl,hz⟩:=I.list ha
 have hlen:its.length=cs.length:=by rw[<- r'.length,List.length_map]
 refine b1T (I.ok.hd hc) pl.isList (fun i c e=> ?_) hlen (by have:scanBound=scanBound:=rfl;unfold scanBound;omega) fun h' tk hS hk=> ?_
 ·obtain⟨u,e2,ru⟩:=aV.get r' (show(cs.map V.str)[i]?=some (.str c)by rw[List.getElem?_map,e];rfl)
  obtain⟨t,rfl⟩:=ru
  exact⟨t,e2⟩
 ·refine⟨.ref s.heap.objs.size,_,I.laid (t':=tk) (o:=vG X.prog X.w s.heap.objs.size (iD cs) (cV cs).length) hk (Nat.le_refl _) ⟨hS,?_,fun h1 h2 hs he=> ?_⟩,rfl,q _ (I.hok.fresh (Nat.le_refl _))⟩
  ·obtain⟨o,_,_,_,ho,_⟩:=hS
   exact⟨o,ho⟩
  ·obtain⟨o,es,ep,t,ho,r⟩:=hs
   exact⟨o,es,ep,t,he o ho,r⟩
theorem b2n:fO X (.builtin "len") (fun xs H Q=>∃d S n,xs= [.ref d] /\H d=some (vG X.prog X.w d S n)/\Q (.int n) H):=by
 intro pins s σ H xs us Q I r h
 obtain⟨d,S,n,rfl,hd,q⟩:=h
 obtain⟨u,rfl,rx⟩:=kD r
 cases rx
 obtain⟨⟨o,es,ep,t,ho,hx,hdt,_,_,hb,hf,hn⟩,_,_⟩:=I.hok d _ hd
 subst hn
 refine call_len_set ho hx hdt hf (by unfold scanBound at hb;omega) ⟨.int _,H,I.tok _,⟨_,rfl⟩,q⟩
end
theorem b1y:bootBuiltins "set"=some (.type "set"):=by kernel_rfl
def uR(CX:cZ)(X:Cx)(E:St->XK):Prop:=∀(pins:List (Addr×Obj)) (σ:St) (H:Hp) (s:Shared) (e:Value) (s':Shared),aB X pins σ H s->CX X.stack H s (E σ) e s'->X.xe e s'
def b2c(sp:Sp)(E:St->XK)(t:TA):TE:=fun σ H Q=>t σ H fun vs H1=>sp vs H1 Q (E σ)
noncomputable def a5w (K:Fg) (B:Addr) (j:Nat) (th:TS) (D:fL):St->XK:=fun σ C _ H'=>PySem.W.exmOne K C (.ref B)=some true/\∀ea,H' ea=none->th (D.less j) (σ.set j (some (.ref ea))) (upd H' ea (lF ea C))
def b1Y(K:Fg)(B:Addr)(j:Nat)(tb:(St->XK)->TS)(th:TS):TS:=fun D σ H=>tb (a5w K B j th D) D σ H
section
variable{X:Cx}{CX:cZ}{k:Nat}{f C:Addr}{fd:FuncData}{ps:List Str}{sp:Sp}{ds:List Value}{E:St->XK}{x m:Str}{p pos apos:Pos}{e o:Expr}{es:List Expr}{ta:TE}{t:TA}
theorem b4g{pins:List (Addr×Obj)}{σ:St}{H:Hp}{s:Shared}{Q:VK}{us:List Value}{vs:List V}(F:dW X.prog X.w X.K X.mg X.base CX k f fd ps sp)(hr:bJ k X.A)(hb:fW X.K fd ps [])(hx:uR CX X E)
 (I:aB X pins σ H s)(r:aV vs us)(h:sp vs H Q (E σ)):wpAny (model X.prog X.w) X.A (call (.ref f) us) (EP X pins σ Q) X.xe s:=by
 have hl:(us++ []).length=ps.length:=by rw[List.append_nil,<- r.length];exact F.len _ _ _ _ h
 have r2:aV vs (us++ []):=by rw[List.append_nil];exact r
 refine wpAny_call (codeAny_mono (F.run X.A X.stack s H ⟨us,[]⟩ (us++ []) vs Q (E σ) hr I.env0 (hb s us I.kIn hl) r2 h) fun r s' hq=> ?_)
 cases r with
 |error e=>exact hx pins σ H s e s' I hq
 |ok fl=>
  cases fl with
  |ret u=>exact I.after hq
  |next=>exact False.elim hq
  |brk=>exact False.elim hq
  |cont=>exact False.elim hq
theorem b6b(G:bG X.prog X.w X.K X.mg X.base CX k x ps sp)(hr:bJ k X.A)(hx:uR CX X E)(ha:PA X (e::es) t)(hg:Gl X x:=by rfl)(hdb:(x==("__debug__":Str))=false:=by decide)
 (he:starEach (e::es) X.env=(false,eval e X.env)::starEach es X.env:=by rfl)(hpl:(backTo pos (starEach es X.env)).any (·.1)=false:=by rfl):PE X (.Call (.Name x p) (e::es) [] pos) (b2c sp E t):=by
 obtain⟨f,fd,F,hm,hk,hb⟩:=G.ex
 intro pins s σ H Q I h
 refine wpAny_Call_Name_kw (kT I hg hm ?_ hdb)
 refine PySem.W.callWith_K (h₀:=X.base) I.ok.mod.kin hk (aN (ha pos pins s σ H _ I h) fun us s1 ⟨vs,H1,I1,r,q⟩=>⟨I1.kIn,?_⟩) he hpl
 exact b4g F hr hb hx I1 r q
end
theorem b6s{X:Cx}{body suite:List Stmt}{b₀:Stmt}{x n:Str}{np hpos pos:Pos}{B:Addr}{tb:(St->XK)->TS}{th:TS}{j:Nat}(hex:X.ex= [])(hst:X.stack=X.env::X.outer)(hfr:X.env.frame=some X.env.locals)(hN:X.N.Nodup)(hj:X.N[j]?=some n)
 (hn:X.env.scope.names.lookup n=some .local)(hm:X.mg x=some (.ref B))(hb:∀pn E' E1,uR (bR X.prog X.w) (X.pinned pn E1) E'->cD (X.pinned pn E1) body (tb E'))(hh:∀ea,cD (X.inEx ea) (b₀::suite) th)
 (hg:Gl X x:=by rfl)(hdb:(x==("__debug__":Str))=false:=by decide):
 PS X (.Try body [.ExceptHandler (some (.Name x np)) (some n) (b₀::suite) hpos] [] [] pos) (b1Y X.K B j tb th):=by
 intro pins s σ H D I h
 have pass:uR (bR X.prog X.w) (X.pinned (X.pn++ pins) (fun e s1=>wpAny (model X.prog X.w) X.A (noteFrame e X.env) (fun _ s2=>wpAny (model X.prog X.w) X.A (setFlight e none) (fun _ s3=>
  wpAny (model X.prog X.w) X.A (handleBy e X.env [.ExceptHandler (some (.Name x np)) (some n) (b₀::suite) hpos]) (SP X pins D) X.xe s3) X.xe s2) X.xe s1)) (a5w X.K B j th D):=by
  intro pins' σ' H1 s1 e s2 I1 hq
  obtain⟨ea,T,C,H2,rfl,os,bare,un,hok,fly,n1,n2,f1,f2,hx,q⟩:=hq
  have I1':aB X pins σ' H1 s1:=I1.pinnedOut I.ok
  have I2:aB X pins σ' H2 s2:=I1'.call' os un hok bare (fun b z=>absurd z (by simp))
  have own:∀b,s1.heap.get? b=none->H2 b=none->X.s₀.heap.get? b=none/\H2 b=none/\b≠X.env.locals/\(∀x c,X.env.cells.lookup x=some c->c≠b)/\∀p∈X.pn++ pins,p.1≠b:=fun b e hb=>by
   refine⟨?_,hb,fun z=> ?_,fun y c hc z=> ?_,fun p hp z=> ?_⟩
   ·cases z:X.s₀.heap.get? b with
    |none=>rfl
    |some o=>
     obtain⟨o',e'⟩:=I1'.base.there b o z (by rw[hex];intro hz;cases hz)
     rw[e]at e'
     cases e'
   ·obtain⟨m,⟨o,_,_,ho,_⟩,_⟩:=I1'.loc
    rw[<- z,e]at ho
    cases ho
   ·obtain⟨v,o,ho,_⟩:=I1'.cell y c hc
    rw[z,e]at ho
    cases ho
   ·have ho:=(I1'.pin p hp).1
    rw[z,e]at ho
    cases ho
  have st2:s2.heap.FunFrames X.base (X.env::X.outer):=hst▸I2.stack
  have fr2:X.A.frames=some (X.env::X.outer):=hst▸I.ok.frames
  refine a9W (base:=X.base) fr2 st2 hfr fly fun h3 T3 hT3 fly3 flew=> ?_
  have I3:aB X pins σ' H2 {s2 with heap:=h3}:=I2.flew (t':=s2.toks) (hst▸flew) fun b hb=>by
   simp only[List.mem_cons,List.not_mem_nil,or_false]at hb
   rcases hb with rfl|rfl
   ·exact own _ n1 f1
   ·exact own _ n2 f2
  obtain⟨oe,vs,oT,ts,he,hcl,hdn,hd,h1,hTe,hT,hdT,h3'⟩:=fly3
  refine wpAny_handleBy_cons (codeAny_handlers_test ?_) (by intro z;cases z)
  refine kT (X:=X.inEx ea) (I3.inEx ea) hg hm ?_ hdb
  have LT:PySem.W.Looks (model X.prog X.w) h3 (typeOf (.ref ea)) C:=hcl▸(PySem.W.Looks.ld he).andThen .now
  have LX:=PySem.W.exm_one (M:=model X.prog X.w) I3.kIn LT hx
  refine LX _ _ _ {s2 with heap:=h3} (fun _ _ z=>z) ?_
  show codeAny _ _ _ _ _
  refine codeAny_handlers_suite_as ?_
  unfold setFlight
  refine wpAny_bind (wpAny_field (s:={s2 with heap:=h3}) he hd h1 ?_)
  rw[if_pos (show(Value.ref T3 !=Value.none)=true from by simp)]
  refine wpAny_setField (s:={s2 with heap:=h3}) hT hdT (Array.getElem?_eq_some_iff.mp h3').1 ?_
  have far:∀b,b≠T3->(h3.update T3 (Obj.mapFields (·.setIfInBounds 3 ((none:Option Addr).elim Value.none fun f=>rawInt f)))).get? b=h3.get? b:=fun b nb=>Heap.get?_update_other _ _ (Ne.symm nb)
  have hfT:H2 T3=none:=I2.hok.fresh hT3
  have oT3:T3≠X.env.locals:=Nat.ne_of_gt (Nat.lt_of_lt_of_le I2.lt hT3)
  have I4:aB X pins σ' H2 {s2 with heap:=h3.update T3 (Obj.mapFields (·.setIfInBounds 3 ((none:Option Addr).elim Value.none fun f=>rawInt f)))}:=
   I3.turned (t':=s2.toks) (fun b o nb e=>(far b nb).trans e) hfT oT3 (.inr (Nat.le_trans I2.sz hT3)) (fun y c hc z=>by
    obtain⟨v,w'⟩:=I2.cell y c hc
    exact absurd w'.lt (by rw[z];exact Nat.not_lt.mpr hT3)) (fun p hp z=>absurd (Heap.lt_size (I2.pin p hp).1) (by rw[z];exact Nat.not_lt.mpr hT3))
  obtain⟨o0,o1,o2,o3,o4⟩:=own ea n1 f1
  have he4:=(far ea (Ne.symm hTe)).trans he
  have I5:aB X pins σ' (upd H2 ea (lF ea C)) _:=I4.adopt o1 o0 o2 o3 o4 ⟨⟨oe,he4,hcl,hdn,by unfold PySem.W.notCls;rw[hd]⟩,⟨oe,he4⟩,fun a b ⟨o,e1,e2⟩ k=>⟨o,k o e1,e2⟩⟩
  refine a81 (v:=.ref ea) I5 hN hj (.inl hn) rfl (fun s6 I6=> ?_) (.inr hn)
  have run:=hh ea pins s6 _ _ (D.less j) (I6.inEx ea) (q ea f1)
  refine wpAny_mono run (fun fl s7 q7=> ?_) fun _ _ z=>z.elim
  have fin:∀{σ7:St} {H7:Hp} {R:Unit->Shared->Prop},aB (X.inEx ea) pins σ7 H7 s7->(∀s8,aB X pins (σ7.set j none) H7 s8->R () s8)->wpAny (model X.prog X.w) X.A (do bindName X.env n .none;unbindBehindTheSuite X.env n hpos) R X.xe s7:=fun{σ7 H7 R} I7 k=>by
   have I7':=I7.outEx I.ok
   obtain⟨m,hm7,hl7⟩:=I7'.loc
   refine wpAny_nameGoes_keeps (show X.env.scope.names.lookup n=some .local from hn) hm7 (by rw[I.ok.kind];rfl) fun h8 v hn8 sb8=> ?_
   exact k _ (I7'.unname hN hj hm7 hl7 hn8 sb8)
  cases fl with
  |next=>obtain⟨σ7,H7,I7,n7⟩:=q7;exact fin I7 fun s8 I8=>⟨_,H7,I8,n7⟩
  |brk=>obtain⟨σ7,H7,I7,n7⟩:=q7;exact fin I7 fun s8 I8=>⟨_,H7,I8,n7⟩
  |cont=>obtain⟨σ7,H7,I7,n7⟩:=q7;exact fin I7 fun s8 I8=>⟨_,H7,I8,n7⟩
  |ret u=>obtain⟨v7,σ7,H7,I7,r7,n7⟩:=q7;exact fin I7 fun s8 I8=>⟨v7,_,H7,I8,r7,n7⟩
 have run:=hb (X.pn++ pins) (a5w X.K B j th D) _ pass [] s σ H D (I.pinnedIn _) h
 refine wpAny_Try_except (wpAny_mono run (fun fl s1 q1=> ?_) fun e s1 q1=>q1)
 cases fl with
 |next=>obtain⟨σ1,H1,I1,n1⟩:=q1;exact wpAny_execs_nil ⟨σ1,H1,I1.pinnedOut I.ok,n1⟩
 |brk=>obtain⟨σ1,H1,I1,n1⟩:=q1;exact⟨σ1,H1,I1.pinnedOut I.ok,n1⟩
 |cont=>obtain⟨σ1,H1,I1,n1⟩:=q1;exact⟨σ1,H1,I1.pinnedOut I.ok,n1⟩
 |ret u=>obtain⟨v1,σ1,H1,I1,r1,n1⟩:=q1;exact⟨v1,σ1,H1,I1.pinnedOut I.ok,r1,n1⟩
end L2
namespace My
open PySem L2
def aT(i:Nat):Stmt:=PySem.Challenge.pw_lazycols_k47_views_refused.main.body.getD i (.Pass ⟨0,0,0,0⟩)
abbrev pV:Stmt:=aT 20
abbrev pO:Stmt:=aT 21
abbrev nS:Stmt:=aT 22
abbrev nQ:Stmt:=aT 23
abbrev nM:Stmt:=aT 24
abbrev rZ:Stmt:=aT 29
abbrev qR:Stmt:=aT 30
abbrev qO:Stmt:=aT 31
abbrev qG:Stmt:=aT 34
abbrev qS:Stmt:=aT 35
abbrev uJ:Stmt:=aT 36
abbrev pS:Stmt:=aT 56
abbrev oN:Stmt:=aT 57
abbrev pK:Stmt:=aT 58
abbrev gE:Stmt:=aT 59
abbrev iI:Stmt:=aT 60
abbrev gK:Stmt:=aT 61
structure Ad where
 ColsError:Addr
 NoName:Addr
 NoValue:Addr
 NoTable:Addr
 NoColumn:Addr
 NoPlace:Addr
 NoSize:Addr
 NoText:Addr
 NoRow:Addr
 NoBack:Addr
 TooMuch:Addr
 Ruled:Addr
 Ring:Addr
 Nobody:Addr
 Several:Addr
structure eX(K:Fg)(mg:Str->Option Value)(c:Ad):Prop where
 c_ColsError:mg "ColsError"=some (.ref c.ColsError)
 c_NoName:mg "NoName"=some (.ref c.NoName)
 c_NoValue:mg "NoValue"=some (.ref c.NoValue)
 c_NoTable:mg "NoTable"=some (.ref c.NoTable)
 c_NoColumn:mg "NoColumn"=some (.ref c.NoColumn)
 c_NoPlace:mg "NoPlace"=some (.ref c.NoPlace)
 c_NoSize:mg "NoSize"=some (.ref c.NoSize)
 c_NoText:mg "NoText"=some (.ref c.NoText)
 c_NoRow:mg "NoRow"=some (.ref c.NoRow)
 c_NoBack:mg "NoBack"=some (.ref c.NoBack)
 c_TooMuch:mg "TooMuch"=some (.ref c.TooMuch)
 c_Ruled:mg "Ruled"=some (.ref c.Ruled)
 c_Ring:mg "Ring"=some (.ref c.Ring)
 c_Nobody:mg "Nobody"=some (.ref c.Nobody)
 c_Several:mg "Several"=some (.ref c.Several)
 x_NoTable:PySem.W.excIn K c.NoTable jM "ValueError.__new__"=true
 k_NoTable:kM K c.NoTable
 v_NoTable:PySem.W.kitOne K (.ref c.NoTable) (.type "ValueError")=some true
 i_NoTable_ColsError:PySem.W.kitOne K (.ref c.NoTable) (.ref c.ColsError)=some true
 e_NoTable_ColsError:PySem.W.exmOne K (.ref c.NoTable) (.ref c.ColsError)=some true
 i_NoTable_NoName:PySem.W.kitOne K (.ref c.NoTable) (.ref c.NoName)=some false
 i_NoTable_NoValue:PySem.W.kitOne K (.ref c.NoTable) (.ref c.NoValue)=some false
 i_NoTable_NoTable:PySem.W.kitOne K (.ref c.NoTable) (.ref c.NoTable)=some true
 i_NoTable_NoColumn:PySem.W.kitOne K (.ref c.NoTable) (.ref c.NoColumn)=some false
 i_NoTable_NoPlace:PySem.W.kitOne K (.ref c.NoTable) (.ref c.NoPlace)=some false
 i_NoTable_NoSize:PySem.W.kitOne K (.ref c.NoTable) (.ref c.NoSize)=some false
 i_NoTable_NoText:PySem.W.kitOne K (.ref c.NoTable) (.ref c.NoText)=some false
 i_NoTable_NoRow:PySem.W.kitOne K (.ref c.NoTable) (.ref c.NoRow)=some false
 i_NoTable_NoBack:PySem.W.kitOne K (.ref c.NoTable) (.ref c.NoBack)=some false
 i_NoTable_TooMuch:PySem.W.kitOne K (.ref c.NoTable) (.ref c.TooMuch)=some false
 i_NoTable_Ruled:PySem.W.kitOne K (.ref c.NoTable) (.ref c.Ruled)=some false
 i_NoTable_Ring:PySem.W.kitOne K (.ref c.NoTable) (.ref c.Ring)=some false
 i_NoTable_Nobody:PySem.W.kitOne K (.ref c.NoTable) (.ref c.Nobody)=some false
 i_NoTable_Several:PySem.W.kitOne K (.ref c.NoTable) (.ref c.Several)=some false
 x_NoColumn:PySem.W.excIn K c.NoColumn jM "ValueError.__new__"=true
 k_NoColumn:kM K c.NoColumn
 v_NoColumn:PySem.W.kitOne K (.ref c.NoColumn) (.type "ValueError")=some true
 i_NoColumn_ColsError:PySem.W.kitOne K (.ref c.NoColumn) (.ref c.ColsError)=some true
 e_NoColumn_ColsError:PySem.W.exmOne K (.ref c.NoColumn) (.ref c.ColsError)=some true
 i_NoColumn_NoName:PySem.W.kitOne K (.ref c.NoColumn) (.ref c.NoName)=some false
 i_NoColumn_NoValue:PySem.W.kitOne K (.ref c.NoColumn) (.ref c.NoValue)=some false
 i_NoColumn_NoTable:PySem.W.kitOne K (.ref c.NoColumn) (.ref c.NoTable)=some false
 i_NoColumn_NoColumn:PySem.W.kitOne K (.ref c.NoColumn) (.ref c.NoColumn)=some true
 i_NoColumn_NoPlace:PySem.W.kitOne K (.ref c.NoColumn) (.ref c.NoPlace)=some false
 i_NoColumn_NoSize:PySem.W.kitOne K (.ref c.NoColumn) (.ref c.NoSize)=some false
 i_NoColumn_NoText:PySem.W.kitOne K (.ref c.NoColumn) (.ref c.NoText)=some false
 i_NoColumn_NoRow:PySem.W.kitOne K (.ref c.NoColumn) (.ref c.NoRow)=some false
 i_NoColumn_NoBack:PySem.W.kitOne K (.ref c.NoColumn) (.ref c.NoBack)=some false
 i_NoColumn_TooMuch:PySem.W.kitOne K (.ref c.NoColumn) (.ref c.TooMuch)=some false
 i_NoColumn_Ruled:PySem.W.kitOne K (.ref c.NoColumn) (.ref c.Ruled)=some false
 i_NoColumn_Ring:PySem.W.kitOne K (.ref c.NoColumn) (.ref c.Ring)=some false
 i_NoColumn_Nobody:PySem.W.kitOne K (.ref c.NoColumn) (.ref c.Nobody)=some false
 i_NoColumn_Several:PySem.W.kitOne K (.ref c.NoColumn) (.ref c.Several)=some false
 x_NoPlace:PySem.W.excIn K c.NoPlace jM "ValueError.__new__"=true
 k_NoPlace:kM K c.NoPlace
 v_NoPlace:PySem.W.kitOne K (.ref c.NoPlace) (.type "ValueError")=some true
 i_NoPlace_ColsError:PySem.W.kitOne K (.ref c.NoPlace) (.ref c.ColsError)=some true
 e_NoPlace_ColsError:PySem.W.exmOne K (.ref c.NoPlace) (.ref c.ColsError)=some true
 i_NoPlace_NoName:PySem.W.kitOne K (.ref c.NoPlace) (.ref c.NoName)=some false
 i_NoPlace_NoValue:PySem.W.kitOne K (.ref c.NoPlace) (.ref c.NoValue)=some false
 i_NoPlace_NoTable:PySem.W.kitOne K (.ref c.NoPlace) (.ref c.NoTable)=some false
 i_NoPlace_NoColumn:PySem.W.kitOne K (.ref c.NoPlace) (.ref c.NoColumn)=some false
 i_NoPlace_NoPlace:PySem.W.kitOne K (.ref c.NoPlace) (.ref c.NoPlace)=some true
 i_NoPlace_NoSize:PySem.W.kitOne K (.ref c.NoPlace) (.ref c.NoSize)=some false
 i_NoPlace_NoText:PySem.W.kitOne K (.ref c.NoPlace) (.ref c.NoText)=some false
 i_NoPlace_NoRow:PySem.W.kitOne K (.ref c.NoPlace) (.ref c.NoRow)=some false
 i_NoPlace_NoBack:PySem.W.kitOne K (.ref c.NoPlace) (.ref c.NoBack)=some false
 i_NoPlace_TooMuch:PySem.W.kitOne K (.ref c.NoPlace) (.ref c.TooMuch)=some false
 i_NoPlace_Ruled:PySem.W.kitOne K (.ref c.NoPlace) (.ref c.Ruled)=some false
 i_NoPlace_Ring:PySem.W.kitOne K (.ref c.NoPlace) (.ref c.Ring)=some false
 i_NoPlace_Nobody:PySem.W.kitOne K (.ref c.NoPlace) (.ref c.Nobody)=some false
 i_NoPlace_Several:PySem.W.kitOne K (.ref c.NoPlace) (.ref c.Several)=some false
 x_NoName:PySem.W.excIn K c.NoName jM "ValueError.__new__"=true
 k_NoName:kM K c.NoName
 v_NoName:PySem.W.kitOne K (.ref c.NoName) (.type "ValueError")=some true
 i_NoName_ColsError:PySem.W.kitOne K (.ref c.NoName) (.ref c.ColsError)=some true
 e_NoName_ColsError:PySem.W.exmOne K (.ref c.NoName) (.ref c.ColsError)=some true
 i_NoName_NoName:PySem.W.kitOne K (.ref c.NoName) (.ref c.NoName)=some true
 i_NoName_NoValue:PySem.W.kitOne K (.ref c.NoName) (.ref c.NoValue)=some false
 i_NoName_NoTable:PySem.W.kitOne K (.ref c.NoName) (.ref c.NoTable)=some false
 i_NoName_NoColumn:PySem.W.kitOne K (.ref c.NoName) (.ref c.NoColumn)=some false
 i_NoName_NoPlace:PySem.W.kitOne K (.ref c.NoName) (.ref c.NoPlace)=some false
 i_NoName_NoSize:PySem.W.kitOne K (.ref c.NoName) (.ref c.NoSize)=some false
 i_NoName_NoText:PySem.W.kitOne K (.ref c.NoName) (.ref c.NoText)=some false
 i_NoName_NoRow:PySem.W.kitOne K (.ref c.NoName) (.ref c.NoRow)=some false
 i_NoName_NoBack:PySem.W.kitOne K (.ref c.NoName) (.ref c.NoBack)=some false
 i_NoName_TooMuch:PySem.W.kitOne K (.ref c.NoName) (.ref c.TooMuch)=some false
 i_NoName_Ruled:PySem.W.kitOne K (.ref c.NoName) (.ref c.Ruled)=some false
 i_NoName_Ring:PySem.W.kitOne K (.ref c.NoName) (.ref c.Ring)=some false
 i_NoName_Nobody:PySem.W.kitOne K (.ref c.NoName) (.ref c.Nobody)=some false
 i_NoName_Several:PySem.W.kitOne K (.ref c.NoName) (.ref c.Several)=some false
abbrev pX:Stmt:=aY (aT 32) 0
abbrev pQ:Stmt:=aY (aT 32) 1
abbrev tG:Stmt:=aY (aT 32) 3
abbrev kU:Stmt:=aY (aT 32) 4
abbrev sK:Stmt:=aY (aT 32) 5
abbrev qI:Stmt:=aY (aT 32) 7
abbrev nX:Stmt:=aY (aT 32) 11
abbrev rY:Stmt:=aY (aT 32) 13
abbrev iO:Stmt:=aY (aT 37) 0
abbrev nI:Stmt:=aY (aT 37) 1
abbrev lC:Stmt:=aY (aT 37) 2
abbrev hV:Stmt:=aY (aT 37) 4
abbrev hW:Stmt:=aY (aT 37) 5
abbrev iE:Stmt:=aY (aT 37) 9
abbrev oY:Stmt:=aY (aT 38) 0
abbrev rD:Stmt:=aY (aT 38) 1
abbrev sZ:Stmt:=aY (aT 38) 2
abbrev uC:Stmt:=aY (aT 38) 3
abbrev qZ:Stmt:=aY (aT 39) 0
abbrev sD:Stmt:=aY (aT 39) 1
abbrev uX:Stmt:=aY (aT 39) 2
abbrev rC:Stmt:=aY (aT 40) 0
abbrev sE:Stmt:=aY (aT 40) 1
abbrev tR:Stmt:=aY (aT 40) 2
abbrev pU:Stmt:=aY (aT 41) 0
abbrev sM:Stmt:=aY (aT 41) 1
abbrev oK:Stmt:=aY (aT 42) 0
abbrev jX:Stmt:=aY (aT 42) 1
abbrev tZ:Stmt:=aY (aT 42) 2
abbrev tF:Stmt:=aY (aT 42) 3
abbrev qJ:Stmt:=aY (aT 43) 0
abbrev kE:Stmt:=aY (aT 43) 1
abbrev uQ:Stmt:=aY (aT 43) 2
abbrev tI:Stmt:=aY (aT 43) 4
abbrev sI:Stmt:=aY (aT 43) 5
abbrev pF:Stmt:=aY (aT 45) 0
abbrev oO:Stmt:=aY (aT 45) 1
abbrev oA:Stmt:=aY (aT 45) 2
abbrev oE:Stmt:=aY (aT 45) 3
abbrev nH:Stmt:=aY (aT 45) 4
abbrev uA:Stmt:=aY (aT 45) 5
abbrev nU:Stmt:=aY (aT 46) 0
abbrev rE:Stmt:=aY (aT 46) 1
abbrev nZ:Stmt:=aY (aT 47) 0
abbrev qW:Stmt:=aY (aT 47) 1
abbrev uY:Stmt:=aY (aT 51) 0
abbrev vH:Stmt:=aY (aT 51) 1
abbrev qH:Stmt:=aY (aT 52) 0
abbrev vD:Stmt:=aY (aT 52) 1
abbrev tS:Stmt:=aY (aT 52) 2
abbrev uH:Stmt:=aY (aT 52) 3
abbrev uW:Stmt:=aY (aT 52) 4
abbrev sB:Stmt:=aY (aT 52) 5
abbrev nY:Stmt:=aY (aT 53) 0
abbrev qN:Stmt:=aY (aT 53) 1
abbrev qC:Stmt:=aY (aT 53) 2
abbrev sH:Stmt:=aY (aT 53) 8
abbrev oU:Stmt:=aY (aT 53) 9
abbrev pB:Stmt:=aY (aT 53) 11
abbrev sU:Stmt:=aY (aT 53) 12
abbrev sV:Stmt:=aY (aT 53) 13
abbrev pY:Stmt:=aY (aT 53) 16
abbrev pL:Stmt:=aY (aT 53) 17
abbrev oB:Stmt:=aY (aT 53) 18
abbrev rX:Stmt:=aY (aT 53) 19
abbrev uO:Stmt:=aY (aT 53) 20
structure eL(K:Fg)(mg:Str->Option Value)(C:Addr):Prop where
 c:mg "Table"=some (.ref C)
 cl:bV K C
 mks:PySem.W.makesIn K C=true
 kc:PySem.W.keepIn K (.ref C)=true
 hc:PySem.W.findIn K (.ref C) "__class__"=some (some (.builtin "object.__class__"))
 n_row_numbers:bI K C "row_numbers"
 n_fresh_number:bI K C "fresh_number"
 n_kept:bI K C "kept"
 m_init:aO K C "__init__" "Table.__init__" pX
 m_many:aO K C "many" "Table.many" pQ
 m_columns:aO K C "columns" "Table.columns" tG
 m_give:aO K C "give" "Table.give" kU
 m_drop:aO K C "drop" "Table.drop" sK
 m_at:aO K C "at" "Table.at" qI
 m_number_at:aO K C "number_at" "Table.number_at" nX
 m_check_column:aO K C "check_column" "Table.check_column" rY
structure qQ(K:Fg)(mg:Str->Option Value)(C:Addr):Prop where
 c:mg "View"=some (.ref C)
 cl:bV K C
 mks:PySem.W.makesIn K C=true
 kc:PySem.W.keepIn K (.ref C)=true
 hc:PySem.W.findIn K (.ref C) "__class__"=some (some (.builtin "object.__class__"))
 m_columns:aO K C "columns" "View.columns" iO
 m_rows:aO K C "rows" "View.rows" nI
 m_value_at:aO K C "value_at" "View.value_at" lC
 m_many:aO K C "many" "View.many" hV
 m_look:aO K C "look" "View.look" hW
 m_asked_row:aO K C "asked_row" "View.asked_row" iE
structure a9J(K:Fg)(mg:Str->Option Value)(C:Addr):Prop where
 c:mg "Whole"=some (.ref C)
 cl:bV K C
 mks:PySem.W.makesIn K C=true
 kc:PySem.W.keepIn K (.ref C)=true
 hc:PySem.W.findIn K (.ref C) "__class__"=some (some (.builtin "object.__class__"))
 n_sheet:bI K C "sheet"
 n_name:bI K C "name"
 m_init:aO K C "__init__" "Whole.__init__" oY
 m_columns:aO K C "columns" "Whole.columns" rD
 m_rows:aO K C "rows" "Whole.rows" sZ
 m_value_at:aO K C "value_at" "Whole.value_at" uC
 m_many:aO K C "many" "View.many" hV
 m_look:aO K C "look" "View.look" hW
 m_asked_row:aO K C "asked_row" "View.asked_row" iE
 up_View:∃R,mg "View"=some (.ref R)/\PySem.W.kitOne K (.ref C) (.ref R)=some true/\PySem.W.mroIn K C (.type "object")=some true/\PySem.W.specialIn K (.builtin "object.__class__") "__get__"=some (some (.builtin "getset_descriptor.__get__"))/\PySem.W.takesIn K (.builtin "object.__class__")=some true
structure b1u(K:Fg)(mg:Str->Option Value)(C:Addr):Prop where
 c:mg "Some"=some (.ref C)
 cl:bV K C
 mks:PySem.W.makesIn K C=true
 kc:PySem.W.keepIn K (.ref C)=true
 hc:PySem.W.findIn K (.ref C) "__class__"=some (some (.builtin "object.__class__"))
 n_view:bI K C "view"
 n_column:bI K C "column"
 m_init:aO K C "__init__" "Some.__init__" qZ
 m_rows:aO K C "rows" "Some.rows" sD
 m_has_row:aO K C "has_row" "Some.has_row" uX
 m_columns:aO K C "columns" "View.columns" iO
 m_value_at:aO K C "value_at" "View.value_at" lC
 m_many:aO K C "many" "View.many" hV
 m_look:aO K C "look" "View.look" hW
 m_asked_row:aO K C "asked_row" "View.asked_row" iE
 up_View:∃R,mg "View"=some (.ref R)/\PySem.W.kitOne K (.ref C) (.ref R)=some true/\PySem.W.mroIn K C (.type "object")=some true/\PySem.W.specialIn K (.builtin "object.__class__") "__get__"=some (some (.builtin "getset_descriptor.__get__"))/\PySem.W.takesIn K (.builtin "object.__class__")=some true
structure a92(K:Fg)(mg:Str->Option Value)(C:Addr):Prop where
 c:mg "Ordered"=some (.ref C)
 cl:bV K C
 mks:PySem.W.makesIn K C=true
 kc:PySem.W.keepIn K (.ref C)=true
 hc:PySem.W.findIn K (.ref C) "__class__"=some (some (.builtin "object.__class__"))
 n_view:bI K C "view"
 n_column:bI K C "column"
 m_init:aO K C "__init__" "Ordered.__init__" rC
 m_rows:aO K C "rows" "Ordered.rows" sE
 m_rank:aO K C "rank" "Ordered.rank" tR
 m_columns:aO K C "columns" "View.columns" iO
 m_value_at:aO K C "value_at" "View.value_at" lC
 m_many:aO K C "many" "View.many" hV
 m_look:aO K C "look" "View.look" hW
 m_asked_row:aO K C "asked_row" "View.asked_row" iE
 up_View:∃R,mg "View"=some (.ref R)/\PySem.W.kitOne K (.ref C) (.ref R)=some true/\PySem.W.mroIn K C (.type "object")=some true/\PySem.W.specialIn K (.builtin "object.__class__") "__get__"=some (some (.builtin "getset_descriptor.__get__"))/\PySem.W.takesIn K (.builtin "object.__class__")=some true
structure TCut(K:Fg)(mg:Str->Option Value)(C:Addr):Prop where
 c:mg "Cut"=some (.ref C)
 cl:bV K C
 mks:PySem.W.makesIn K C=true
 kc:PySem.W.keepIn K (.ref C)=true
 hc:PySem.W.findIn K (.ref C) "__class__"=some (some (.builtin "object.__class__"))
 n_view:bI K C "view"
 n_start:bI K C "start"
 n_count:bI K C "count"
 m_init:aO K C "__init__" "Cut.__init__" pU
 m_rows:aO K C "rows" "Cut.rows" sM
 m_columns:aO K C "columns" "View.columns" iO
 m_value_at:aO K C "value_at" "View.value_at" lC
 m_many:aO K C "many" "View.many" hV
 m_look:aO K C "look" "View.look" hW
 m_asked_row:aO K C "asked_row" "View.asked_row" iE
 up_View:∃R,mg "View"=some (.ref R)/\PySem.W.kitOne K (.ref C) (.ref R)=some true/\PySem.W.mroIn K C (.type "object")=some true/\PySem.W.specialIn K (.builtin "object.__class__") "__get__"=some (some (.builtin "getset_descriptor.__get__"))/\PySem.W.takesIn K (.builtin "object.__class__")=some true
structure b1g(K:Fg)(mg:Str->Option Value)(C:Addr):Prop where
 c:mg "Together"=some (.ref C)
 cl:bV K C
 mks:PySem.W.makesIn K C=true
 kc:PySem.W.keepIn K (.ref C)=true
 hc:PySem.W.findIn K (.ref C) "__class__"=some (some (.builtin "object.__class__"))
 n_one:bI K C "one"
 n_other:bI K C "other"
 m_init:aO K C "__init__" "Together.__init__" oK
 m_columns:aO K C "columns" "Together.columns" jX
 m_rows:aO K C "rows" "Together.rows" tZ
 m_value_at:aO K C "value_at" "Together.value_at" tF
 m_many:aO K C "many" "View.many" hV
 m_look:aO K C "look" "View.look" hW
 m_asked_row:aO K C "asked_row" "View.asked_row" iE
 up_View:∃R,mg "View"=some (.ref R)/\PySem.W.kitOne K (.ref C) (.ref R)=some true/\PySem.W.mroIn K C (.type "object")=some true/\PySem.W.specialIn K (.builtin "object.__class__") "__get__"=some (some (.builtin "getset_descriptor.__get__"))/\PySem.W.takesIn K (.builtin "object.__class__")=some true
structure b0e(K:Fg)(mg:Str->Option Value)(C:Addr):Prop where
 c:mg "Beside"=some (.ref C)
 cl:bV K C
 mks:PySem.W.makesIn K C=true
 kc:PySem.W.keepIn K (.ref C)=true
 hc:PySem.W.findIn K (.ref C) "__class__"=some (some (.builtin "object.__class__"))
 n_view:bI K C "view"
 n_key:bI K C "key"
 n_sheet:bI K C "sheet"
 n_name:bI K C "name"
 n_theirs:bI K C "theirs"
 m_init:aO K C "__init__" "Beside.__init__" qJ
 m_columns:aO K C "columns" "Beside.columns" kE
 m_value_at:aO K C "value_at" "Beside.value_at" uQ
 m_is_theirs:aO K C "is_theirs" "Beside.is_theirs" tI
 m_matching:aO K C "matching" "Beside.matching" sI
 m_rows:aO K C "rows" "View.rows" nI
 m_many:aO K C "many" "View.many" hV
 m_look:aO K C "look" "View.look" hW
 m_asked_row:aO K C "asked_row" "View.asked_row" iE
 up_View:∃R,mg "View"=some (.ref R)/\PySem.W.kitOne K (.ref C) (.ref R)=some true/\PySem.W.mroIn K C (.type "object")=some true/\PySem.W.specialIn K (.builtin "object.__class__") "__get__"=some (some (.builtin "getset_descriptor.__get__"))/\PySem.W.takesIn K (.builtin "object.__class__")=some true
structure cT(K:Fg)(mg:Str->Option Value)(C:Addr):Prop where
 c:mg "Board"=some (.ref C)
 cl:bV K C
 mks:PySem.W.makesIn K C=true
 kc:PySem.W.keepIn K (.ref C)=true
 hc:PySem.W.findIn K (.ref C) "__class__"=some (some (.builtin "object.__class__"))
 n_given:bI K C "given"
 n_rules:bI K C "rules"
 n_memory:bI K C "memory"
 n_order:bI K C "order"
 m_init:aO K C "__init__" "Board.__init__" pF
 m_has_column:aO K C "has_column" "Board.has_column" oO
 m_content:aO K C "content" "Board.content" oA
 m_set_column:aO K C "set_column" "Board.set_column" oE
 m_empty_column:aO K C "empty_column" "Board.empty_column" nH
 m_outcome:aO K C "outcome" "Board.outcome" uA
structure rH(K:Fg)(mg:Str->Option Value)(C:Addr):Prop where
 c:mg "TableTold"=some (.ref C)
 cl:bV K C
 mks:PySem.W.makesIn K C=true
 kc:PySem.W.keepIn K (.ref C)=true
 hc:PySem.W.findIn K (.ref C) "__class__"=some (some (.builtin "object.__class__"))
 n_boards:bI K C "boards"
 n_name:bI K C "name"
 n_size:bI K C "size"
 m_init:aO K C "__init__" "TableTold.__init__" nU
 m_take:aO K C "take" "TableTold.take" rE
structure pN(K:Fg)(mg:Str->Option Value)(C:Addr):Prop where
 c:mg "ColumnSet"=some (.ref C)
 cl:bV K C
 mks:PySem.W.makesIn K C=true
 kc:PySem.W.keepIn K (.ref C)=true
 hc:PySem.W.findIn K (.ref C) "__class__"=some (some (.builtin "object.__class__"))
 n_board:bI K C "board"
 n_column:bI K C "column"
 n_after:bI K C "after"
 n_before:bI K C "before"
 m_init:aO K C "__init__" "ColumnSet.__init__" nZ
 m_take:aO K C "take" "ColumnSet.take" qW
structure b12(K:Fg)(mg:Str->Option Value)(C:Addr):Prop where
 c:mg "Trial"=some (.ref C)
 cl:bV K C
 mks:PySem.W.makesIn K C=true
 kc:PySem.W.keepIn K (.ref C)=true
 hc:PySem.W.findIn K (.ref C) "__class__"=some (some (.builtin "object.__class__"))
 n_finder:bI K C "finder"
 n_looked:bI K C "looked"
 n_lacking:bI K C "lacking"
 m_init:aO K C "__init__" "Trial.__init__" uY
 m_look:aO K C "look" "Trial.look" vH
structure lA(K:Fg)(mg:Str->Option Value)(C:Addr):Prop where
 c:mg "Finder"=some (.ref C)
 cl:bV K C
 mks:PySem.W.makesIn K C=true
 kc:PySem.W.keepIn K (.ref C)=true
 hc:PySem.W.findIn K (.ref C) "__class__"=some (some (.builtin "object.__class__"))
 n_boards:bI K C "boards"
 n_found:bI K C "found"
 n_looked:bI K C "looked"
 m_init:aO K C "__init__" "Finder.__init__" qH
 m_value_of:aO K C "value_of" "Finder.value_of" vD
 m_attempt:aO K C "attempt" "Finder.attempt" tS
 m_gathered:aO K C "gathered" "Finder.gathered" uH
 m_settle:aO K C "settle" "Finder.settle" uW
 m_knows:aO K C "knows" "Finder.knows" sB
structure dA(K:Fg)(mg:Str->Option Value)(C:Addr):Prop where
 c:mg "Sheet"=some (.ref C)
 cl:bV K C
 mks:PySem.W.makesIn K C=true
 kc:PySem.W.keepIn K (.ref C)=true
 hc:PySem.W.findIn K (.ref C) "__class__"=some (some (.builtin "object.__class__"))
 n_boards:bI K C "boards"
 n_changes:bI K C "changes"
 n_finder:bI K C "finder"
 m_init:aO K C "__init__" "Sheet.__init__" nY
 m_table:aO K C "table" "Sheet.table" qN
 m_give:aO K C "give" "Sheet.give" qC
 m_tables:aO K C "tables" "Sheet.tables" sH
 m_columns:aO K C "columns" "Sheet.columns" oU
 m_many:aO K C "many" "Sheet.many" pB
 m_cell:aO K C "cell" "Sheet.cell" sU
 m_stretch:aO K C "stretch" "Sheet.stretch" sV
 m_make:aO K C "make" "Sheet.make" pY
 m_board_of:aO K C "board_of" "Sheet.board_of" pL
 m_board_with:aO K C "board_with" "Sheet.board_with" oB
 m_board_for:aO K C "board_for" "Sheet.board_for" rX
 m_check_cell:aO K C "check_cell" "Sheet.check_cell" uO
structure bD(K:Fg)(mg:Str->Option Value):Prop where
 len:mg "len"=none
 isinstance:mg "isinstance"=none
 int:mg "int"=none
 bool:mg "bool"=none
 str:mg "str"=none
 all:mg "all"=none
 range:mg "range"=none
 abs:mg "abs"=none
 list:mg "list"=none
 tuple:mg "tuple"=none
 sorted:mg "sorted"=none
 enumerate:mg "enumerate"=none
 set:mg "set"=none
 ValueError:mg "ValueError"=none
 g_LETTERS:∃t,mg "LETTERS"=some (.str ("abcdefghijklmnopqrstuvwxyz":Str) t)
 g_MOST_LETTERS:∃t,mg "MOST_LETTERS"=some (.int 8 t)
 g_LACKS:∃p,mg "LACKS"=some (.ref p)/\∀H,eB K H p [V.str ("fault":Str),V.str ("lacks":Str)]
 g_MOST_ROWS:∃t,mg "MOST_ROWS"=some (.int 30 t)
 g_MOST_COLUMNS:∃t,mg "MOST_COLUMNS"=some (.int 8 t)
 g_MOST_TABLES:∃t,mg "MOST_TABLES"=some (.int 4 t)
 g_UNKNOWN:∃p,mg "UNKNOWN"=some (.ref p)/\∀H,eB K H p [V.str ("fault":Str),V.str ("unknown":Str)]
 d_is_whole:dJ K mg "is_whole" pV
 d_is_number:dJ K mg "is_number" pO
 d_is_name:dJ K mg "is_name" nS
 d_is_fault:dJ K mg "is_fault" nQ
 d_is_value:dJ K mg "is_value" nM
 d_check_size:dJ K mg "check_size" rZ
 d_check_place:dJ K mg "check_place" qR
 d_check_values:dJ K mg "check_values" qO
 d_check_column:dJ K mg "check_column" qG
 d_check_count:dJ K mg "check_count" qS
 d_behind_point:dJ K mg "behind_point" uJ
 d_law_whole:dJ K mg "_law_whole" pS
 d_law_kinds:dJ K mg "_law_kinds" oN
 d_law_made:dJ K mg "_law_made" pK
 d_law_due:dJ K mg "_law_due" gE
 d_law_columns:dJ K mg "_law_columns" iI
 d_law:dJ K mg "law" gK
 exc:∃c:Ad,eX K mg c
 t_Table:∃C,eL K mg C
 t_View:∃C,qQ K mg C
 t_Whole:∃C,a9J K mg C
 t_Some:∃C,b1u K mg C
 t_Ordered:∃C,a92 K mg C
 t_Cut:∃C,TCut K mg C
 t_Together:∃C,b1g K mg C
 t_Beside:∃C,b0e K mg C
 t_Board:∃C,cT K mg C
 t_TableTold:∃C,rH K mg C
 t_ColumnSet:∃C,pN K mg C
 t_Trial:∃C,b12 K mg C
 t_Finder:∃C,lA K mg C
 t_Sheet:∃C,dA K mg C
abbrev uD:Str:= "abcdefghijklmnopqrstuvwxyz"
noncomputable def nF (c:Nat):Bool:= !(Builtin.Str.occurrences uD ⟨#[c]⟩ 0 uD.length 1).isEmpty
noncomputable def iM (t:Str):Bool:=decide ((1:Int)<=t.length)&&decide ((t.length:Int)<=8)&&t.cps.toList.all nF
noncomputable def lM:PyData->Bool
 | .int _=>true
 |_=>false
noncomputable def kP:PyData->Bool
 | .int i=>decide ((if i<0 then-i else i)<10^ (60:Int).toNat)
 |_=>false
noncomputable def eG:PyData->Bool
 | .str t=>iM t
 |_=>false
noncomputable def gQ:PyData->Bool
 | .tuple [.str z,d]=>decide (z= "fault")&&eG d
 |_=>false
noncomputable def mV (d:PyData):Bool:=kP d||gQ d
def uG(d:PyData):Prop:=∀t,d= .str t->t.length<=1000
def nV(d:PyData):Prop:=∀ds,d= .tuple ds->∀e∈ds,uG e
theorem jL{t:Str}(h:t.length<=1000):uG (.str t):=fun z e=>by cases e;exact h
theorem b26{d:PyData}(h:gA d≠ .tup):nV d:=fun z e=>by subst e;exact absurd rfl h
theorem b51{ds:List PyData}(h:∀e∈ds,uG e):nV (.tuple ds):=fun z e=>by cases e;exact h
section
variable{P:Program}{w:World}{K:Fg}{mg:Str->Option Value}{base:Heap}
def nN(K:Fg):Sp:=fun vs H Q _=>∃x d,vs= [x] /\Dt K H x d/\Q (.bl (lM d)) H
theorem b4m:bB ["thing"] ["thing"] (aC pV):=⟨rfl,rfl,rfl,by decide+kernel,rfl,by decide+kernel,by decide+kernel⟩
theorem jY(T:bD K mg):bG P w K mg base aJ 1 "is_whole" ["thing"] (nN K):=by
 refine T.d_is_whole.known b4m (fun _ _ _ _ _ _ us hl=>dM (fun _=>rfl) us hl) (fun vs H Q E h=> ?_) (fun f cdv A outer s H vs Q E hr h=> ?_)
 ·obtain⟨x,a,rfl,_⟩:=h
  rfl
 ·obtain⟨x,d,rfl,hd,q⟩:=h
  refine⟨_,(aK (bK (nA (bN gO rfl T.isinstance cL (aA (pv 0) (aA (gC T.int a9z) aE))) (mM (b0y (bN gO rfl T.isinstance cL (aA (pv 0) (aA (gC T.bool b0c) aE)))))))),?_⟩
  refine⟨_,rfl,x,"int",d,_,rfl,hd,rM K _,_,rfl,?_⟩
  refine eM (fun h1=> ?_) (fun h1=> ?_)
  ·refine⟨_,rfl,x,"bool",d,_,rfl,hd,a4a K _,_,rfl,?_⟩
   have e:(!decide (gA d=Kd.bl))=lM d:=by cases d<;>simp[gA,lM]at h1|-
   show Q (.bl (!decide (gA d=Kd.bl))) H
   rw[e]
   exact q
  ·have e:false=lM d:=by cases d<;>simp[gA,lM]at h1|-
   show Q (.bl false) H
   rw[e]
   exact q
def iS(K:Fg):Sp:=fun vs H Q _=>∃x d,vs= [x] /\Dt K H x d/\uG d/\∀H',aD H H'->Q (.bl (eG d)) H'
theorem b1N:bB ["thing"] ["thing"] (aC nS):=⟨rfl,rfl,rfl,by decide+kernel,rfl,by decide+kernel,by decide+kernel⟩
theorem gL(T:bD K mg):bG P w K mg base aJ 1 "is_name" ["thing"] (iS K):=by
 refine T.d_is_name.known b1N (fun _ _ _ _ _ _ us hl=>dM (fun _=>rfl) us hl) (fun vs H Q E h=> ?_) (fun f cdv A outer s H vs Q E hr h=> ?_)
 ·obtain⟨x,a,rfl,_⟩:=h
  rfl
 ·obtain⟨x,d,rfl,hd,hsh,q⟩:=h
  refine⟨_,(aM (bL (PW.pt (eS (dG (dL (bN gO rfl T.isinstance cL (aA (pv 0) (aA (gC T.str lO) aE))) (fun _=>rfl))) (eV (dG (a2H oS oS bE (bN lL rfl T.len gX (aA (pv 0) aE)) (rK T.g_MOST_LETTERS)))))) (aK (bK lB)) bO)
   (aK (bK (bN (b0u rfl) rfl T.all b03 (aA (lU a3G rfl rfl (by decide) (b5y (pv 0)) (fun _ _ _ _ _=>sY) (fun _ _ _ _ _=>(sN b2o (pv 0) (b30 T.g_LETTERS) (by with_unfolding_all rfl)))) aE))))),?_⟩
  refine⟨_,rfl,x,"str",d,_,rfl,hd,eT K _,_,rfl,?_⟩
  by_cases hk:gA d= .str
  ·obtain⟨t,rfl⟩:∃t,d= .str t:=by cases d<;>simp[gA]at hk|-
   cases hd
   have ht:t.length<=1000:=hsh t rfl
   refine aZ ?_
   refine⟨_,rfl,_,_,rfl,⟨sl ht,rfl⟩,_,_,rfl,rfl,_,rfl,?_⟩
   refine eM (fun h1=> ?_) (fun h1=> ?_)
   ·refine⟨_,_,rfl,rfl,_,rfl,?_⟩
    refine eM (fun h2=> ?_) (fun h2=> ?_)
    ·have e:eG (.str t)=false:=by
      show iM t=false
      unfold iM
      have:decide ((t.length:Int)<=8)=false:=by simpa using h2
      rw[this,Bool.and_false,Bool.false_and]
     rw[<- e]
     exact q H (aD.refl H)
    ·have h8:t.cps.size<=8:=by
      have:(t.length:Int)<=8:=by simpa using h2
      show t.length<=8
      omega
     refine⟨_,rfl,t,rfl,fun D hD=> ?_⟩
     refine b4K (x:=t) (fun i ys H2=>ys=(t.cps.toList.take i).map (fun c=>V.bl (nF c))/\aD H H2) ⟨rfl,aD.new hD⟩ ?_ ?_
     ·rintro i c ys H2 hc h2D ⟨rfl,s2⟩
      have hi:i<t.cps.size:=(Array.getElem?_eq_some_iff.mp hc).1
      refine⟨_,rfl,_,_,rfl,rfl,h2D,?_,?_,s2.on hD⟩
      ·rw[List.length_map,List.length_take,Array.length_toList]
       exact dN (by omega)
      ·rw[List.take_add_one,List.map_append,Array.getElem?_toList,hc]
       rfl
     ·rintro ys H2 h2D ⟨rfl,s2⟩
      refine⟨D,t.cps.toList.map nF,rfl,aS.of ?_,?_⟩
      ·rw[h2D,List.take_of_length_le (by simp),List.map_map]
       rfl
      ·have e:eG (.str t)=(t.cps.toList.map nF).all id:=by
        show iM t=_
        unfold iM
        have e1:decide ((1:Int)<=t.length)=true:=h1
        have e2:decide ((t.length:Int)<=8)=true:=by simpa using h2
        rw[e1,e2,Bool.true_and,Bool.true_and,List.all_map]
        rfl
       rw[<- e]
       exact q H2 s2
   ·refine⟨_,rfl,?_⟩
    refine bC ?_
    have e:eG (.str t)=false:=by
     show iM t=false
     unfold iM
     have:decide ((1:Int)<=t.length)=false:=by simpa using h1
     rw[this,Bool.false_and,Bool.false_and]
    rw[<- e]
    exact q H (aD.refl H)
  ·rw[decide_eq_false hk]
   refine bC (bC ?_)
   have e:eG d=false:=by cases d<;>simp[gA]at hk<;>rfl
   rw[<- e]
   exact q H (aD.refl H)
def a9H(K:Fg):Sp:=fun vs H Q _=>∃x d,vs= [x] /\Dt K H x d/\Q (.bl (kP d)) H
theorem b4k:bB ["thing"] ["thing"] (aC pO):=⟨rfl,rfl,rfl,by decide+kernel,rfl,by decide+kernel,by decide+kernel⟩
theorem qY(T:bD K mg):bG P w K mg base aJ 2 "is_number" ["thing"] (a9H K):=by
 have G_is_whole:bG P w K mg base aJ 1 "is_whole" ["thing"] (nN K):=jY T
 refine T.d_is_number.known b4k (fun _ _ _ _ _ _ us hl=>dM (fun _=>rfl) us hl) (fun vs H Q E h=> ?_) (fun f cdv A outer s H vs Q E hr h=> ?_)
 ·obtain⟨x,a,rfl,_⟩:=h
  rfl
 ·obtain⟨x,d,rfl,hd,q⟩:=h
  refine⟨_,(aK (bK (nA (bZ G_is_whole (hr.mono (by decide)) bA (aA (pv 0) aE)) (mM (sN uB (bN b5X rfl T.abs b3z (aA (pv 0) aE)) (bU b3t bE bE) (cI _)))))),?_⟩
  refine⟨_,rfl,x,d,rfl,hd,_,rfl,?_⟩
  refine eM (fun h1=> ?_) (fun h1=> ?_)
  ·obtain⟨i,rfl⟩:∃i,d= .int i:=by cases d<;>simp[lM]at h1|-
   cases hd
   exact⟨_,rfl,i,rfl,_,_,rfl,rfl,⟨by decide,by decide,by decide⟩,_,_,rfl,rfl,q⟩
  ·have e:kP d=false:=by cases d<;>simp[lM]at h1<;>rfl
   show Q (.bl false) H
   rw[<- e]
   exact q
def a9r(K:Fg):Sp:=fun vs H Q _=>∃x d,vs= [x] /\Dt K H x d/\nV d/\∀H',aD H H'->Q (.bl (gQ d)) H'
theorem b2G:bB ["thing"] ["thing"] (aC nQ):=⟨rfl,rfl,rfl,by decide+kernel,rfl,by decide+kernel,by decide+kernel⟩
theorem b4q{ds:List PyData}(h:ds.length≠2):gQ (.tuple ds)=false:=by
 match ds,h with
 | [],_=>rfl
 | [a],_=>cases a<;>rfl
 | [a,b],h=>exact absurd rfl h
 |a::b::c::r,_=>cases a<;>rfl
theorem qX(T:bD K mg):bG P w K mg base aJ 2 "is_fault" ["thing"] (a9r K):=by
 have G_is_name:bG P w K mg base aJ 1 "is_name" ["thing"] (iS K):=gL T
 refine T.d_is_fault.known b2G (fun _ _ _ _ _ _ us hl=>dM (fun _=>rfl) us hl) (fun vs H Q E h=> ?_) (fun f cdv A outer s H vs Q E hr h=> ?_)
 ·obtain⟨x,a,rfl,_⟩:=h
  rfl
 ·obtain⟨x,d,rfl,hd,hsh,q⟩:=h
  refine⟨_,(aM (bL (PW.pt (eS (dG (dL (bN gO rfl T.isinstance cL (aA (pv 0) (aA (gC T.tuple b5z) aE))) (fun _=>rfl))) (eV (bP sO (bN lL rfl T.len gX (aA (pv 0) aE)) bE (cI _))))) (aK (bK lB)) bO)
   (aK (bK (nA (bN gO rfl T.isinstance cL (aA (kB a7H (pv 0) bE (fun _ _=>rfl)) (aA (gC T.str lO) aE))) (nA (sN fZ (kB a7H (pv 0) bE (fun _ _=>rfl)) bF (cI _)) (mM (bZ G_is_name (hr.mono (by decide)) bA (aA (kB a7H (pv 0) bE (fun _ _=>rfl)) aE)))))))),?_⟩
  refine⟨_,rfl,x,"tuple",d,_,rfl,hd,b5m K _,_,rfl,?_⟩
  by_cases hk:gA d= .tup
  ·obtain⟨ds,rfl⟩:∃ds,d= .tuple ds:=by cases d<;>simp[gA]at hk|-
   cases hd with
   | @tup a xs _ hq hall=>
    refine aZ ?_
    refine⟨_,rfl,_,_,rfl,.inr ⟨_,hq,rfl⟩,rfl,_,rfl,?_⟩
    have hl:=hall.length
    refine eM (fun h1=> ?_) (fun h1=> ?_)
    ·have h1':xs.length≠2:=by
      intro z
      rw[z]at h1
      exact absurd h1 (by decide)
     have e:=b4q (ds:=ds) (by rw[<- hl];exact h1')
     rw[<- e]
     exact q H (aD.refl H)
    ·have h1':xs.length=2:=by
      have z:¬(!decide (V.int (xs.length:Int)=V.int 2))=true:=h1
      have z2:(xs.length:Int)=2:=by simpa using z
      omega
     match xs,ds,hall,h1',hl with
     | [y,z],_,.cons (d:=d1) h2 (.cons (d:=d2) h3 .nil),_,_=>
      have a0:gB [y,z] 0=some y:=rfl
      have a1:gB [y,z] 1=some z:=rfl
      refine⟨_,rfl,_,_,_,_,rfl,rfl,hq,a0,y,"str",d1,_,rfl,h2,eT K _,_,rfl,?_⟩
      refine eM (fun h4=> ?_) (fun h4=> ?_)
      ·obtain⟨t,rfl⟩:∃t,d1= .str t:=by cases d1<;>simp[gA]at h4|-
       cases h2
       refine⟨_,rfl,_,_,_,_,rfl,rfl,hq,a0,rfl,_,rfl,?_⟩
       refine eM (fun h5=> ?_) (fun h5=> ?_)
       ·have h5':t= "fault":=by
         have z5:V.str t=V.str "fault":=by simpa using h5
         exact V.str.inj z5
        refine⟨_,rfl,_,_,_,_,rfl,rfl,hq,a1,z,d2,rfl,h3,hsh _ rfl _ (List.mem_cons_of_mem _ List.mem_cons_self),fun H' s'=> ?_⟩
        ·have e:gQ (.tuple [.str t,d2])=eG d2:=by
          show(decide (t= "fault")&&eG d2)=eG d2
          rw[decide_eq_true h5',Bool.true_and]
         rw[<- e]
         exact q H' s'
       ·have h5':t≠ "fault":=fun z5=>h5 (by rw[z5];rfl)
        have e:gQ (.tuple [.str t,d2])=false:=by
         show(decide (t= "fault")&&eG d2)=false
         rw[decide_eq_false h5',Bool.false_and]
        show Q (.bl false) H
        rw[<- e]
        exact q H (aD.refl H)
      ·have e:gQ (.tuple [d1,d2])=false:=by cases d1<;>simp[gA]at h4<;>rfl
       show Q (.bl false) H
       rw[<- e]
       exact q H (aD.refl H)
  ·rw[decide_eq_false hk]
   refine bC (bC ?_)
   have e:gQ d=false:=by cases d<;>simp[gA]at hk<;>rfl
   rw[<- e]
   exact q H (aD.refl H)
def b1r(K:Fg):Sp:=fun vs H Q _=>∃x d,vs= [x] /\Dt K H x d/\nV d/\∀H',aD H H'->Q (.bl (mV d)) H'
theorem b5C:bB ["thing"] ["thing"] (aC nM):=⟨rfl,rfl,rfl,by decide+kernel,rfl,by decide+kernel,by decide+kernel⟩
theorem nJ(T:bD K mg):bG P w K mg base aJ 3 "is_value" ["thing"] (b1r K):=by
 have G_is_number:bG P w K mg base aJ 2 "is_number" ["thing"] (a9H K):=qY T
 have G_is_fault:bG P w K mg base aJ 2 "is_fault" ["thing"] (a9r K):=qX T
 refine T.d_is_value.known b5C (fun _ _ _ _ _ _ us hl=>dM (fun _=>rfl) us hl) (fun vs H Q E h=> ?_) (fun f cdv A outer s H vs Q E hr h=> ?_)
 ·obtain⟨x,a,rfl,_⟩:=h
  rfl
 ·obtain⟨x,d,rfl,hd,hsh,q⟩:=h
  refine⟨_,(aK (bK (b3S (bZ G_is_number (hr.mono (by decide)) bA (aA (pv 0) aE)) (mM (bZ G_is_fault (hr.mono (by decide)) bA (aA (pv 0) aE)))))),?_⟩
  refine⟨_,rfl,x,d,rfl,hd,_,rfl,?_⟩
  refine eM (fun h1=> ?_) (fun h1=> ?_)
  ·have e:mV d=true:=by unfold mV;rw[h1,Bool.true_or]
   show Q (.bl true) H
   rw[<- e]
   exact q H (aD.refl H)
  ·refine⟨_,rfl,x,d,rfl,hd,hsh,fun H' s'=> ?_⟩
   have e:mV d=gQ d:=by
    unfold mV
    have:kP d=false:=by simpa using h1
    rw[this,Bool.false_or]
   rw[<- e]
   exact q H' s'
end
def Nl(t:Str):Prop:=1<=t.length/\t.length<=8/\∀c∈t.cps.toList,c∈uD.cps.toList
theorem Nl.name{t:Str}(h:Nl t):iM t=true:=by
 unfold iM
 have a1:decide ((1:Int)<=t.length)=true:=by rw[decide_eq_true_eq];have:=h.1;omega
 have a2:decide ((t.length:Int)<=8)=true:=by rw[decide_eq_true_eq];have:=h.2.1;omega
 have a3:t.cps.toList.all nF=true:=by
  rw[List.all_eq_true]
  intro c hc
  have:∀c∈uD.cps.toList,nF c=true:=by decide+kernel
  exact this c (h.2.2 c hc)
 rw[a1,a2,a3]
 rfl
def nD(r:Addr)(n:Int)(d:Addr):List (Str×V):=[("row_numbers",V.ref r),("fresh_number",V.int n),("kept",V.ref d)]
theorem a9V(r:Addr)(n:Int)(d:Addr):(nD r n d).lookup ("row_numbers":Str)=some (.ref r):=rfl
theorem flds_fresh(r:Addr)(n:Int)(d:Addr):(nD r n d).lookup ("fresh_number":Str)=some (.int n):=by
 show(match (("fresh_number":Str)==("row_numbers":Str))with|true=>some (V.ref r)|false=>_)=_
 rw[show (("fresh_number":Str)==("row_numbers":Str))=false by decide+kernel]
 rfl
theorem rW(r:Addr)(n:Int)(d:Addr):(nD r n d).lookup ("kept":Str)=some (.ref d):=by
 show(match (("kept":Str)==("row_numbers":Str))with|true=>some (V.ref r)|false=>(match (("kept":Str)==("fresh_number":Str))with|true=>some (V.int n)|false=>_))=_
 rw[show (("kept":Str)==("row_numbers":Str))=false by decide+kernel,show(("kept":Str)==("fresh_number":Str))=false by decide+kernel]
 rfl
theorem lJ{r:Addr}{n:Int}{d:Addr}{m:Str}(h:(m==("row_numbers":Str)||m==("fresh_number":Str)||m==("kept":Str))=false:=by decide+kernel):(nD r n d).lookup m=none:=by
 simp only[Bool.or_eq_false_iff]at h
 obtain⟨⟨h1,h2⟩,h3⟩:=h
 show(match (m==("row_numbers":Str))with|true=>some (V.ref r)|false=>(match (m==("fresh_number":Str))with|true=>some (V.int n)|false=>(match (m==("kept":Str))with|true=>some (V.ref d)|false=>none)))=none
 rw[h1,h2,h3]
theorem b5N(r:Addr)(n:Int)(d:Addr):aF "kept" (.ref d) (aF "fresh_number" (.int n) (aF "row_numbers" (.ref r) []))=nD r n d:=by
 show aF "kept" (.ref d) (if("row_numbers":Str)= "fresh_number" then _ else _)=_
 rw[if_neg (by decide+kernel)]
 show(if("row_numbers":Str)= "kept" then _ else _::(if("fresh_number":Str)= "kept" then _ else _))=_
 rw[if_neg (by decide+kernel),if_neg (by decide+kernel)]
 rfl
structure gU(C:Addr)(H:Hp)(p r d:Addr)(xs:List V)(n:Int)(kvs:List (aI×V)):Prop where
 at_:∃dx,H p=some (.ins C dx (nD r n d))
 rows:H r=some (.lst xs)
 kept:H d=some (.dK kvs)
theorem gU.same{C:Addr}{H H':Hp}{p r d:Addr}{xs:List V}{n:Int}{kvs:List (aI×V)}(T:gU C H p r d xs n kvs)(s:aD H H'):gU C H' p r d xs n kvs:=by
 obtain⟨dx,h⟩:=T.at_
 exact⟨⟨dx,s _ _ h⟩,s _ _ T.rows,s _ _ T.kept⟩
def Pv(K:Fg)(H:Hp)(v:V)(d:PyData):Prop:=(∃i,v= .int i/\d= .int i/\kP (.int i)=true)\/ ∃a y,v= .ref a/\H a=some (.tup [.str ("fault":Str),.str y])/\d= .tuple [.str "fault",.str y] /\Nl y
def Vd(d:PyData):Prop:=(∃i,d= .int i/\kP (.int i)=true)\/ ∃y,d= .tuple [.str "fault",.str y] /\Nl y
theorem Pv.dt{K:Fg}{H:Hp}{v:V}{d:PyData}(h:Pv K H v d):Dt K H v d:=by
 rcases h with⟨i,rfl,rfl,_⟩|⟨a,y,rfl,h,rfl,_⟩
 ·exact .int i
 ·exact .tup (eB.of h) (.cons (.str _) (.cons (.str _) .nil))
theorem Pv.vd{K:Fg}{H:Hp}{v:V}{d:PyData}(h:Pv K H v d):Vd d:=by
 rcases h with⟨i,rfl,rfl,hb⟩|⟨a,y,rfl,h,rfl,hy⟩
 ·exact .inl ⟨i,rfl,hb⟩
 ·exact .inr ⟨y,rfl,hy⟩
def gP(H H':Hp):Prop:=∀a xs,H a=some (.tup xs)->H' a=some (.tup xs)
theorem gP.of{H H':Hp}(s:aD H H'):gP H H':=fun a xs e=>s _ _ e
theorem gP.upd{H:Hp}{l:Addr}{o o':HO}(h:H l=some o)(n:∀xs,o≠ .tup xs):gP H (L2.upd H l o'):=fun a xs e=>by
 rw[aH (fun z=>by rw[z,h]at e;exact n _ (Option.some.inj e))]
 exact e
theorem Pv.keep{K:Fg}{H H':Hp}{v:V}{d:PyData}(s:gP H H')(h:Pv K H v d):Pv K H' v d:=by
 rcases h with h|⟨a,y,rfl,h,rfl,hy⟩
 ·exact .inl h
 ·exact .inr ⟨a,y,rfl,s _ _ h,rfl,hy⟩
theorem Vd.short{d:PyData}(h:Vd d):nV d/\mV d=true:=by
 rcases h with⟨i,rfl,hb⟩|⟨y,rfl,hy⟩
 ·refine⟨b26 (by intro z;cases z),?_⟩
  show(kP (.int i)||gQ (.int i))=true
  rw[hb];rfl
 ·have l8:=hy.2.1
  refine⟨b51 (by
   intro e he
   simp only[List.mem_cons,List.not_mem_nil,or_false]at he
   rcases he with rfl|rfl
   ·exact jL (by decide)
   ·exact jL (by omega)),?_⟩
  show(kP _||gQ (.tuple [.str "fault",.str y]))=true
  rw[show gQ (.tuple [.str "fault",.str y])=true by
   show(decide (("fault":Str)= "fault")&&eG (.str y))=true
   rw[decide_eq_true rfl,Bool.true_and]
   exact Nl.name hy,Bool.or_true]
def fM(K:Fg)(H:Hp):List V->List PyData->Prop:=Paired (Pv K H)
theorem fM.keep{K:Fg}{H H':Hp}(s:gP H H'):∀{xs:List V} {ds:List PyData},fM K H xs ds->fM K H' xs ds
 |_,_,.nil=> .nil
 |_,_,.cons h t=> .cons (h.keep s) (fM.keep s t)
theorem fM.dt{K:Fg}{H:Hp}:∀{xs:List V} {ds:List PyData},fM K H xs ds->cX K H xs ds
 |_,_,.nil=> .nil
 |_,_,.cons h t=> .cons h.dt (fM.dt t)
theorem fM.vd{K:Fg}{H:Hp}:∀{xs:List V} {ds:List PyData},fM K H xs ds->∀d∈ds,Vd d
 |_,_,.nil,_,h=>by cases h
 |_,_,.cons h t,d,hd=>by
  rcases List.mem_cons.mp hd with rfl|hd
  ·exact h.vd
  ·exact fM.vd t d hd
section
variable{P:Program}{w:World}{K:Fg}{mg:Str->Option Value}{base:Heap}
def zG:Sp:=fun vs H Q _=>∃m:Nat,vs= [.int (m:Int)] /\m<=30/\Q .non H
theorem b4a:bB ["many"] ["many"] (aC rZ):=⟨rfl,rfl,rfl,by decide+kernel,rfl,by decide+kernel,by decide+kernel⟩
theorem mJ(T:bD K mg):bG P w K mg base aJ 2 "check_size" ["many"] zG:=by
 have G_is_whole:bG P w K mg base aJ 1 "is_whole" ["thing"] (nN K):=jY T
 refine T.d_check_size.known b4a (fun _ _ _ _ _ _ us hl=>dM (fun _=>rfl) us hl) (fun vs H Q E h=> ?_) (fun f cdv A outer s H vs Q E hr h=> ?_)
 ·obtain⟨m,rfl,_⟩:=h
  rfl
 ·obtain⟨m,rfl,hm,q⟩:=h
  refine⟨_,(aK (bL (PW.pt (eS (dG (dL (bZ G_is_whole (hr.mono (by decide)) bA (aA (pv 0) aE)) (fun _=>rfl))) (eV (dG (a2H oS oS bE (pv 0) (rK T.g_MOST_ROWS)))))) (aK dP) bO)),?_⟩
  refine⟨_,rfl,_,.int (m:Int),rfl,.int _,_,rfl,aZ ?_⟩
  refine⟨_,rfl,_,_,rfl,rfl,_,rfl,?_⟩
  rw[decide_eq_true (show(0:Int)<=(m:Int)by omega)]
  refine bC ⟨_,_,rfl,rfl,_,rfl,?_⟩
  rw[decide_eq_true (show(m:Int)<=30 by omega)]
  exact aZ q
def a3e:Sp:=fun vs H Q _=>∃p m:Nat,vs= [.int (p:Int),.int (m:Int)] /\p<m/\Q .non H
theorem b3x:bB ["place","places"] ["place","places"] (aC qR):=⟨rfl,rfl,rfl,by decide+kernel,rfl,by decide+kernel,by decide+kernel⟩
theorem lS(T:bD K mg):bG P w K mg base aJ 2 "check_place" ["place","places"] a3e:=by
 have G_is_whole:bG P w K mg base aJ 1 "is_whole" ["thing"] (nN K):=jY T
 refine T.d_check_place.known b3x (fun _ _ _ _ _ _ us hl=>eY (fun _ _=>rfl) us hl) (fun vs H Q E h=> ?_) (fun f cdv A outer s H vs Q E hr h=> ?_)
 ·obtain⟨p,m,rfl,_⟩:=h
  rfl
 ·obtain⟨p,m,rfl,hm,q⟩:=h
  refine⟨_,(aK (bL (PW.pt (eS (dG (dL (bZ G_is_whole (hr.mono (by decide)) bA (aA (pv 0) aE)) (fun _=>rfl))) (eV (dG (a2H oS uB bE (pv 0) (pv 1)))))) (aK dP) bO)),?_⟩
  refine⟨_,rfl,_,.int (p:Int),rfl,.int _,_,rfl,aZ ?_⟩
  refine⟨_,rfl,_,_,rfl,rfl,_,rfl,?_⟩
  rw[decide_eq_true (show(0:Int)<=(p:Int)by omega)]
  refine bC ⟨_,rfl,_,_,rfl,rfl,_,rfl,?_⟩
  rw[decide_eq_true (show(p:Int)<(m:Int)by omega)]
  exact aZ q
def a5h(K:Fg):Sp:=fun vs H Q _=>∃(a:Addr) (xs:List V) (ds:List PyData),vs= [.ref a,.int (xs.length:Int)] /\aS K H a xs/\fM K H xs ds/\xs.length<=1000/\∀H',aD H H'->Q .non H'
theorem b4W:bB ["values","many"] ["values","many"] (aC qO):=⟨rfl,rfl,rfl,by decide+kernel,rfl,by decide+kernel,by decide+kernel⟩
theorem mQ(T:bD K mg):bG P w K mg base aJ 4 "check_values" ["values","many"] (a5h K):=by
 have G_is_value:bG P w K mg base aJ 3 "is_value" ["thing"] (b1r K):=nJ T
 refine T.d_check_values.known b4W (fun _ _ _ _ _ _ us hl=>eY (fun _ _=>rfl) us hl) (fun vs H Q E h=> ?_) (fun f cdv A outer s H vs Q E hr h=> ?_)
 ·obtain⟨a,xs,ds,rfl,_⟩:=h
  rfl
 ·obtain⟨a,xs,ds,rfl,hq,hp,l1000,q⟩:=h
  have hl:xs.length=ds.length:=Paired.length hp
  refine⟨_,(aK (bL (PW.pt (eS (dG (dL (bN gO rfl T.isinstance cL (aA (pv 0) (aA (gC T.list kW) aE))) (fun _=>rfl))) (eS (bP sO (bN lL rfl T.len gX (aA (pv 0) aE)) (pv 1) (cI _)) (eV (dG (dL (bN (b0u rfl) rfl T.all b03 (aA (lU a3G rfl rfl (by decide) (hZ (pv 0)) (fun _ _ _ _ _=>sY) (fun _ _ _ _ _=>(bZ G_is_value (hr.mono (by decide)) bA (aA (pv 0) aE)))) aE)) (fun _=>rfl))))))) (aK dP) bO)),?_⟩
  refine⟨_,rfl,_,"list",.list ds,_,rfl,.lst hq hp.dt,b0g K _,_,rfl,aZ ?_⟩
  refine⟨_,rfl,_,_,rfl,.inl ⟨_,hq,rfl⟩,_,rfl,rfl,_,rfl,?_⟩
  rw[decide_eq_true rfl]
  refine aZ ⟨_,rfl,a,rfl,⟨_,hq⟩,fun D hD=> ?_⟩
  refine a8b (K:=K) (a:=a) (xs:=xs) (fun i ys H2=>ys=(List.replicate i (V.bl true))/\aD H H2) ⟨rfl,aD.new hD⟩ (fun i ys H2 _ ⟨_,s2⟩=>s2.seq hq) ?_ ?_
  ·rintro i v ys H2 hv h2D ⟨rfl,s2⟩
   obtain⟨e,he,hde⟩:=hp.dt.get hv
   have ve:=hp.vd e (List.mem_of_getElem? he)
   have hi:i<xs.length:=(List.getElem?_eq_some_iff.mp hv).1
   refine⟨_,rfl,v,e,rfl,hde.same s2,ve.short.1,fun H3 s3=>⟨s3 _ _ h2D,?_,?_,?_⟩⟩
   ·rw[List.length_replicate]
    exact dN (by omega)
   ·rw[ve.short.2,List.replicate_succ']
   ·exact(s2.trans s3).on hD
  ·rintro ys H2 h2D ⟨rfl,s2⟩
   refine⟨D,List.replicate xs.length true,rfl,aS.of (by rw[h2D,List.map_replicate]),_,rfl,?_⟩
   rw[show (List.replicate xs.length true).all id=true by rw[List.all_eq_true];intro b hb;exact(List.mem_replicate.mp hb).2]
   exact aZ (q _ s2)
def b1e(K:Fg)(C:Addr):Sp:=fun vs H Q _=>∃(p dx:Addr) (m:Nat),vs= [.ref p,.int (m:Int)] /\H p=some (.ins C dx [])/\m<=30/\
 ∀H' r e,gU C H' p r e (fP 0 m) (m:Int) [] ->H r=none->H e=none->r≠e->(∀b o,H b=some o->b≠p->H' b=some o)->Q .non H'
theorem b5r:bB ["self","many"] ["self","many"] (aC pX):=⟨rfl,rfl,rfl,by decide+kernel,rfl,by decide+kernel,by decide+kernel⟩
theorem qD(T:bD K mg){C:Addr}(Y:eL K mg C):cA P w K mg base aJ 3 C ["self","many"] (b1e K C):=by
 have G_check_size:bG P w K mg base aJ 2 "check_size" ["many"] zG:=mJ T
 refine(Y.m_init.known b5r (fun _ _ _ _ _ _ us hl=>eY (fun _ _=>rfl) us hl) (fun vs H Q E h=> ?_) (fun f cdv A outer s H vs Q E hr h=> ?_)).init Y.mks Y.kc
 ·obtain⟨p,dx,m,rfl,_⟩:=h
  rfl
 ·obtain⟨p,dx,m,rfl,hp,hm,q1⟩:=h
  refine⟨_,(aM (dC (bZ G_check_size (hr.mono (by decide)) bA (aA (pv 1) aE)))
   (aM (bQ (pv 0) (kY (b6o rfl) rfl T.list kW (aA (kY b2x rfl T.range b6a (aA (pv 1) aE)) aE)) rfl)
   (aM (bQ (pv 0) (bN lL rfl T.len gX (aA (bH (pv 0) rfl) aE)) rfl)
   (aK (bQ (pv 0) tX rfl))))),?_⟩
  refine⟨_,rfl,m,rfl,hm,?_⟩
  refine⟨_,rfl,(m:Int),rfl,fun g hg=>⟨g,0,(m:Int),rfl,aG,by omega,by omega,by omega,by omega,by omega,fun r hr0=> ?_⟩⟩
  have ngp:p≠g:=aU hp hg
  have hgr:r≠g:=fun z=>by rw[z,aG]at hr0;cases hr0
  have hr':H r=none:=by rw[aH hgr]at hr0;exact hr0
  have npr:p≠r:=aU hp hr'
  rw[Int.sub_zero,Int.toNat_natCast]
  refine⟨_,rfl,p,C,dx,[],rfl,(by rw[aH npr,aH ngp];exact hp),Y.cl,Y.n_row_numbers,(by show 0<1000;decide),?_⟩
  refine⟨_,rfl,p,C,dx,_,_,rfl,aG,Y.cl,Y.n_row_numbers,rfl,_,_,rfl,.inl ⟨_,aS.of (by rw[aH npr.symm,aG]),rfl⟩,?_⟩
  refine⟨_,rfl,p,C,dx,_,rfl,aG,Y.cl,Y.n_fresh_number,(by show 1<1000;decide),?_⟩
  intro e he
  have npe:p≠e:=fun z=>by rw[<- z,aG]at he;cases he
  have nre:r≠e:=fun z=>by rw[<- z,aH npr.symm,aH npr.symm,aG]at he;cases he
  have nge:g≠e:=fun z=>by rw[<- z,aH ngp.symm,aH ngp.symm,aH hgr.symm,aG]at he;cases he
  have he':H e=none:=by rw[aH npe.symm,aH npe.symm,aH nre.symm,aH nge.symm]at he;exact he
  refine⟨_,rfl,p,C,dx,_,rfl,(by rw[aH npe];exact aG),Y.cl,Y.n_kept,(by show(aF "fresh_number" _ (aF "row_numbers" _ [])).length<1000;show(if("row_numbers":Str)= "fresh_number" then _ else _:List (Str×V)).length<1000;rw[if_neg (by decide+kernel)];show 2<1000;decide),?_⟩
  refine q1 _ r e ⟨⟨dx,?_⟩,?_,?_⟩ hr' he' nre fun b o hb hbp=> ?_
  ·rw[aG]
   refine congrArg (fun l=>some (HO.ins C dx l)) ?_
   have:=b5N r (fP 0 m).length e
   rw[a4w]at this|-
   exact this
  ·rw[aH npr.symm,aH nre,aH npr.symm,aH npr.symm,aG]
  ·rw[aH npe.symm,aG]
  ·rw[aH hbp,aH (aU hb he'),aH hbp,aH hbp,aH (aU hb hr'),aH (aU hb hg)]
   exact hb
def lT(C:Addr):Sp:=fun vs H Q _=>∃p r d xs n kvs,vs= [.ref p] /\gU C H p r d xs n kvs/\Q (.int xs.length) H
theorem b6p:bB ["self"] ["self"] (aC pQ):=⟨rfl,rfl,rfl,by decide+kernel,rfl,by decide+kernel,by decide+kernel⟩
theorem jN(T:bD K mg){C:Addr}(Y:eL K mg C):aX P w K mg base aJ 1 C "many" ["self"] (lT C):=by
 refine Y.m_many.known b6p (fun _ _ _ _ _ _ us hl=>dM (fun _=>rfl) us hl) (fun vs H Q E h=> ?_) (fun f cdv A outer s H vs Q E hr h=> ?_)
 ·obtain⟨p,r,d,xs,n,kvs,rfl,_⟩:=h
  rfl
 ·obtain⟨p,r,d,xs,n,kvs,rfl,⟨⟨dx,hp⟩,hr',hd⟩,q⟩:=h
  refine⟨_,(aK (bK (bN lL rfl T.len gX (aA (bH (pv 0) rfl) aE)))),?_⟩
  exact⟨_,rfl,p,C,dx,_,_,rfl,hp,Y.cl,Y.n_row_numbers,a9V _ _ _,_,_,rfl,.inl ⟨_,aS.of hr',rfl⟩,q⟩
def b0a(C:Addr):Sp:=fun vs H Q _=>∃p r d xs n kvs t v,vs= [.ref p,.str t] /\gU C H p r d xs n kvs/\Nl t/\cE kvs (.inr t:aI)=some v/\∀H',aD H H'->Q .non H'
theorem b3K:bB ["self","column"] ["self","column"] (aC rY):=⟨rfl,rfl,rfl,by decide+kernel,rfl,by decide+kernel,by decide+kernel⟩
theorem pJ(T:bD K mg){C:Addr}(Y:eL K mg C):aX P w K mg base aJ 2 C "check_column" ["self","column"] (b0a C):=by
 have G_is_name:bG P w K mg base aJ 1 "is_name" ["thing"] (iS K):=gL T
 refine Y.m_check_column.known b3K (fun _ _ _ _ _ _ us hl=>eY (fun _ _=>rfl) us hl) (fun vs H Q E h=> ?_) (fun f cdv A outer s H vs Q E hr h=> ?_)
 ·obtain⟨p,r,d,xs,n,kvs,t,v,rfl,_⟩:=h
  rfl
 ·obtain⟨p,r,d,xs,n,kvs,t,v,rfl,TA,ht,hv,q⟩:=h
  refine⟨_,(aK (bL (PW.pt (eS (dG (dL (bZ G_is_name (hr.mono (by decide)) bA (aA (pv 1) aE)) (fun _=>rfl))) (eV (kO (oQ (fB hr) (pv 1) (bH (pv 0) rfl)))))) (aK dP) bO)),?_⟩
  have h8:=ht.2.1
  refine⟨_,rfl,_,.str t,rfl,.str t,jL (by omega),fun H' s'=>⟨_,rfl,?_⟩⟩
  rw[show eG (.str t)=true from ht.name]
  obtain⟨⟨dx,h1⟩,_,h3⟩:=TA.same s'
  refine aZ ⟨_,rfl,_,rfl,p,C,dx,_,_,rfl,h1,Y.cl,Y.n_kept,rW _ _ _,d,_,rfl,cP.k (k:=Sum.inr t) h3,_,rfl,?_⟩
  rw[hv]
  exact aZ (q _ s')
def spAt(C:Addr):Sp:=fun vs H Q _=>∃p r d xs n kvs t l ys,∃(i:Nat) (v:V),vs= [.ref p,.str t,.int (i:Int)] /\gU C H p r d xs n kvs/\Nl t/\cE kvs (.inr t:aI)=some (.ref l)/\H l=some (.lst ys)/\i<xs.length/\gB ys (i:Int)=some v/\∀H',aD H H'->Q v H'
theorem b2m:bB ["self","column","place"] ["self","column","place"] (aC qI):=⟨rfl,rfl,rfl,by decide+kernel,rfl,by decide+kernel,by decide+kernel⟩
theorem tL(T:bD K mg){C:Addr}(Y:eL K mg C):aX P w K mg base aJ 3 C "at" ["self","column","place"] (spAt C):=by
 have G_check_column:aX P w K mg base aJ 2 C "check_column" ["self","column"] (b0a C):=pJ T Y
 have G_check_place:bG P w K mg base aJ 2 "check_place" ["place","places"] a3e:=lS T
 have G_many:aX P w K mg base aJ 1 C "many" ["self"] (lT C):=jN T Y
 refine Y.m_at.known b2m (fun _ _ _ _ _ _ us hl=>iB (fun _ _ _=>rfl) us hl) (fun vs H Q E h=> ?_) (fun f cdv A outer s H vs Q E hr h=> ?_)
 ·obtain⟨p,r,d,xs,n,kvs,t,l,ys,i,v,rfl,_⟩:=h
  rfl
 ·obtain⟨p,r,d,xs,n,kvs,t,l,ys,i,v,rfl,TA,ht,hv,hl,hi,ha,q⟩:=h
  refine⟨_,(aM (dC (dR (pv 0) Y.cl G_check_column (hr.mono (by decide)) bA (aA (pv 1) aE)))
   (aM (dC (bZ G_check_place (hr.mono (by decide)) bA (aA (pv 2) (aA (jU (pv 0) Y.cl G_many (hr.mono (by decide)) bA) aE))))
   (aK (bK (kB iV (gZ (fB hr) (bH (pv 0) rfl) (pv 1) (fun _ _=>rfl)) (pv 2) (fun _ _=>rfl)))))),?_⟩
  obtain⟨⟨dx,h1⟩,h2,h3⟩:=id TA
  refine⟨_,rfl,p,dx,_,rfl,h1,lJ,_,rfl,p,r,d,xs,n,kvs,t,_,rfl,TA,ht,hv,fun H1 s1=> ?_⟩
  refine⟨_,rfl,_,rfl,p,dx,_,rfl,s1 _ _ h1,lJ,p,r,d,xs,n,kvs,rfl,TA.same s1,i,xs.length,rfl,hi,?_⟩
  exact⟨_,rfl,p,C,dx,_,_,rfl,s1 _ _ h1,Y.cl,Y.n_kept,rW _ _ _,_,rfl,d,.ref l,rfl,hv▸cP.k (k:=Sum.inr t) (s1 _ _ h3),_,rfl,l,_,_,v,rfl,rfl,aS.of (s1 _ _ hl),ha,q _ s1⟩
def b2A(C:Addr):Sp:=fun vs H Q _=>∃p r d xs n kvs,∃(i:Nat) (v:V),vs= [.ref p,.int (i:Int)] /\gU C H p r d xs n kvs/\i<xs.length/\gB xs (i:Int)=some v/\Q v H
theorem b2U:bB ["self","place"] ["self","place"] (aC nX):=⟨rfl,rfl,rfl,by decide+kernel,rfl,by decide+kernel,by decide+kernel⟩
theorem uL(T:bD K mg){C:Addr}(Y:eL K mg C):aX P w K mg base aJ 3 C "number_at" ["self","place"] (b2A C):=by
 have G_check_place:bG P w K mg base aJ 2 "check_place" ["place","places"] a3e:=lS T
 have G_many:aX P w K mg base aJ 1 C "many" ["self"] (lT C):=jN T Y
 refine Y.m_number_at.known b2U (fun _ _ _ _ _ _ us hl=>eY (fun _ _=>rfl) us hl) (fun vs H Q E h=> ?_) (fun f cdv A outer s H vs Q E hr h=> ?_)
 ·obtain⟨p,r,d,xs,n,kvs,i,v,rfl,_⟩:=h
  rfl
 ·obtain⟨p,r,d,xs,n,kvs,i,v,rfl,TA,hi,ha,q⟩:=h
  refine⟨_,(aM (dC (bZ G_check_place (hr.mono (by decide)) bA (aA (pv 1) (aA (jU (pv 0) Y.cl G_many (hr.mono (by decide)) bA) aE))))
   (aK (bK (kB iV (bH (pv 0) rfl) (pv 1) (fun _ _=>rfl))))),?_⟩
  obtain⟨⟨dx,h1⟩,h2,h3⟩:=id TA
  refine⟨_,rfl,_,rfl,p,dx,_,rfl,h1,lJ,p,r,d,xs,n,kvs,rfl,TA,i,xs.length,rfl,hi,?_⟩
  exact⟨_,rfl,p,C,dx,_,_,rfl,h1,Y.cl,Y.n_row_numbers,a9V _ _ _,_,rfl,r,_,_,v,rfl,rfl,aS.of h2,ha,q⟩
def b0j(K:Fg)(C:Addr):Sp:=fun vs H Q _=>∃p r d xs n kvs t a ys ds,vs= [.ref p,.str t,.ref a] /\gU C H p r d xs n kvs/\Nl t/\((cE kvs (.inr t:aI)).isSome=true\/ kvs.length<8)/\kvs.length<=1000/\aS K H a ys/\fM K H ys ds/\ys.length=xs.length/\ys.length<=1000/\
 ∀H' l,aD H H'->H' l=none->Q .non (upd (upd H' l (.lst ys)) d (.dK (cC kvs (.inr t:aI) (.ref l))))
theorem b3n:bB ["self","column","values"] ["self","column","values"] (aC kU):=⟨rfl,rfl,rfl,by decide+kernel,rfl,by decide+kernel,by decide+kernel⟩
theorem oX(T:bD K mg){C:Addr}(Y:eL K mg C):aX P w K mg base aJ 5 C "give" ["self","column","values"] (b0j K C):=by
 have G_is_name:bG P w K mg base aJ 1 "is_name" ["thing"] (iS K):=gL T
 have G_check_values:bG P w K mg base aJ 4 "check_values" ["values","many"] (a5h K):=mQ T
 have G_many:aX P w K mg base aJ 1 C "many" ["self"] (lT C):=jN T Y
 refine Y.m_give.known b3n (fun _ _ _ _ _ _ us hl=>iB (fun _ _ _=>rfl) us hl) (fun vs H Q E h=> ?_) (fun f cdv A outer s H vs Q E hr h=> ?_)
 ·obtain⟨p,r,d,xs,n,kvs,t,a,ys,ds,rfl,_⟩:=h
  rfl
 ·obtain⟨p,r,d,xs,n,kvs,t,a,ys,ds,rfl,TA,ht,hc,hk,hs,hp,hl,l1000,q⟩:=h
  have fA:∃t',cD (dQ aJ P w K mg base ["self","column","values"] "Table.give" (aC kU) f cdv A outer s H E).nox ((aL kU).drop 2) t'/\
   ∀(H1:Hp),aD H H1->t' {nx:=fun _ H'=>Q .non H',rt:=Q} [some (.ref p),some (.str t),some (.ref a)] H1:=by
   refine⟨_,(aM (dC (bZ G_check_values (hr.mono (by decide)) bA (aA (pv 2) (aA (jU (pv 0) Y.cl G_many (hr.mono (by decide)) bA) aE))))
    (aK (b0m (fB hr) (bH (pv 0) rfl) (pv 1) (kY sQ rfl T.list kW (aA (pv 2) aE)) rfl))),fun H1 s1=> ?_⟩
   obtain⟨⟨dx,h1⟩,h2,h3⟩:=TA.same s1
   refine⟨_,rfl,_,rfl,p,dx,_,rfl,h1,lJ,p,r,d,xs,n,kvs,rfl,TA.same s1,a,ys,ds,(by rw[hl];rfl),s1.seq hs,hp.keep (gP.of s1),l1000,fun H2 s2=> ?_⟩
   have s12:=s1.trans s2
   refine⟨_,rfl,a,ys,rfl,.inl (s12.seq hs),fun l hl=> ?_⟩
   have c1:aD H2 (upd H2 l (.lst ys)):=aD.new hl
   refine⟨_,rfl,p,C,dx,_,_,rfl,c1 _ _ (s2 _ _ h1),Y.cl,Y.n_kept,rW _ _ _,_,rfl,d,_,rfl,lX.k (k:=Sum.inr t) (c1 _ _ (s2 _ _ h3)) (dN hk),?_⟩
   exact q H2 l s12 hl
  obtain⟨t2,ht2,r2⟩:=fA
  refine⟨_,(aM (bL (dG (dL (bZ G_is_name (hr.mono (by decide)) bA (aA (pv 1) aE)) (fun _=>rfl))) (aK dP) bO)
   (aM (bL (PW.pt (mR (kO (oQ (fB hr) (pv 1) (bH (pv 0) rfl))) (lP (bP a67 (bN a9E rfl T.len gX (aA (bH (pv 0) rfl) aE)) (rK T.g_MOST_COLUMNS) (cI _))))) (aK dP) bO)
   ht2)),?_⟩
  have h8:=ht.2.1
  refine⟨_,rfl,_,.str t,rfl,.str t,jL (by omega),fun H1 s1=>⟨_,rfl,?_⟩⟩
  rw[show eG (.str t)=true from ht.name]
  obtain⟨⟨dx,h2⟩,_,h3⟩:=TA.same s1
  refine aZ ⟨_,rfl,_,rfl,p,C,dx,_,_,rfl,h2,Y.cl,Y.n_kept,rW _ _ _,d,_,rfl,cP.k (k:=Sum.inr t) h3,_,rfl,?_⟩
  cases e:cE kvs (Sum.inr t:aI)with
  |some v=>exact aZ (aZ (r2 H1 s1))
  |none=>
   have hc':kvs.length<8:=by
    rcases hc with hc|hc
    ·rw[e]at hc;cases hc
    ·exact hc
   refine bC ⟨_,rfl,p,C,dx,_,_,rfl,h2,Y.cl,Y.n_kept,rW _ _ _,d,kvs,rfl,h3,_,_,rfl,rfl,_,rfl,?_⟩
   rw[decide_eq_false (show¬(kvs.length:Int)>=8 by omega)]
   exact aZ (r2 H1 s1)
end
theorem gH{H H':Hp}{a:Addr}(s:aD H H')(h:H' a=none):H a=none:=by
 cases e:H a with
 |none=>rfl
 |some o=>rw[s _ _ e]at h;cases h
def kK(p:Addr)(H H':Hp):Prop:=∀b o,b≠p->H b=some o->H' b=some o
theorem b38{H:Hp}{p b C D dx dy:Addr}{fs gs:List (Str×V)}(h:H p=some (.ins C dx fs))(g:H b=some (.ins D dy gs))(n:fs.length≠gs.length):p≠b:=fun z=>by
 rw[z,g]at h
 cases h
 exact n rfl
structure BM where
 b:Addr
 g:Addr
 r:Addr
 e:Addr
 ru:Addr
 me:Addr
 od:Addr
 xs:List V
 n:Int
 kvs:List (aI×V)
 rus:List (aI×V)
 mes:List (aI×V)
 ord:List Str
def jR(g ru me od:Addr):List (Str×V):=[("given",V.ref g),("rules",V.ref ru),("memory",V.ref me),("order",V.ref od)]
theorem fY(g ru me od:Addr):(jR g ru me od).lookup ("given":Str)=some (.ref g)/\(jR g ru me od).lookup ("rules":Str)=some (.ref ru)/\(jR g ru me od).lookup ("memory":Str)=some (.ref me)/\(jR g ru me od).lookup ("order":Str)=some (.ref od):=⟨rfl,rfl,rfl,rfl⟩
theorem tO{g ru me od:Addr}{m:Str}(h:(m==("given":Str)||m==("rules":Str)||m==("memory":Str)||m==("order":Str))=false:=by decide+kernel):(jR g ru me od).lookup m=none:=by
 simp only[Bool.or_eq_false_iff]at h
 obtain⟨⟨⟨h1,h2⟩,h3⟩,h4⟩:=h
 unfold jR
 simp[List.lookup,h1,h2,h3,h4]
theorem b58(g ru me od:Addr):aF "order" (.ref od) (aF "memory" (.ref me) (aF "rules" (.ref ru) (aF "given" (.ref g) [])))=jR g ru me od:=by
 rfl
structure cN(CB CT:Addr)(H:Hp)(B:BM):Prop where
 at_:∃dx,H B.b=some (.ins CB dx (jR B.g B.ru B.me B.od))
 tab:gU CT H B.g B.r B.e B.xs B.n B.kvs
 rul:H B.ru=some (.dK B.rus)
 mem:H B.me=some (.dK B.mes)
 ord:H B.od=some (.lst (B.ord.map V.str))
theorem cN.same{CB CT:Addr}{H H':Hp}{B:BM}(h:cN CB CT H B)(s:aD H H'):cN CB CT H' B:=
 ⟨let ⟨dx,e⟩:=h.at_;⟨dx,s _ _ e⟩,h.tab.same s,s _ _ h.rul,s _ _ h.mem,s _ _ h.ord⟩
def BM.foot(B:BM):List Addr:=[B.b,B.g,B.r,B.e,B.ru,B.me,B.od]
structure BM.sep(B:BM):Prop where
 ro:B.r≠B.od
 eu:B.e≠B.ru
 em:B.e≠B.me
 um:B.ru≠B.me
section
variable{P:Program}{w:World}{K:Fg}{mg:Str->Option Value}{base:Heap}
def b0V(CB CT:Addr):Sp:=fun vs H Q _=>∃(p dx:Addr) (m:Nat),vs= [.ref p,.int (m:Int)] /\H p=some (.ins CB dx [])/\m<=30/\
 ∀H' g r e ru me od,cN CB CT H' ⟨p,g,r,e,ru,me,od,fP 0 m,(m:Int),[],[],[],[]⟩ ->BM.sep ⟨p,g,r,e,ru,me,od,fP 0 m,(m:Int),[],[],[],[]⟩ ->(∀x∈ [g,r,e,ru,me,od],H x=none)->(∀b o,H b=some o->b≠p->H' b=some o)->Q .non H'
theorem b3G:bB ["self","many"] ["self","many"] (aC pF):=⟨rfl,rfl,rfl,by decide+kernel,rfl,by decide+kernel,by decide+kernel⟩
theorem pP(T:bD K mg){CB CT:Addr}(Y:cT K mg CB)(Z:eL K mg CT):cA P w K mg base aJ 5 CB ["self","many"] (b0V CB CT):=by
 have GI:cA P w K mg base aJ 3 CT ["self","many"] (b1e K CT):=qD T Z
 refine(Y.m_init.known b3G (fun _ _ _ _ _ _ us hl=>eY (fun _ _=>rfl) us hl) (fun vs H Q E h=> ?_) (fun f cdv A outer s H vs Q E hr h=> ?_)).init Y.mks Y.kc
 ·obtain⟨p,dx,m,rfl,_⟩:=h
  rfl
 ·obtain⟨p,dx,m,rfl,hp,hm,q⟩:=h
  refine⟨_,(aM (bQ (pv 0) (fJ GI hr Z.c bA (aA (pv 1) aE)) rfl)
   (aM (bQ (pv 0) tX rfl)
   (aM (bQ (pv 0) tX rfl)
   (aK (bQ (pv 0) (eI aE) rfl))))),?_⟩
  refine⟨_,rfl,?_⟩
  intro g dg hg hdg ne
  refine⟨g,dg,m,rfl,aG,hm,fun H1 r e TA hr1 he1 nre b1=>⟨rfl,?_⟩⟩
  have s1:aD H H1:=fun b o z=>b1 b o (by rw[aH (aU z hg),aH (aU z hdg)];exact z) (aU z hg)
  have npg:p≠g:=aU hp hg
  have hr0:H r=none:=by
   by_cases z:r=g
   ·rw[z];exact hg
   ·by_cases z2:r=dg
    ·rw[z2];exact hdg
    ·rw[aH z,aH z2]at hr1;exact hr1
  have he0:H e=none:=by
   by_cases z:e=g
   ·rw[z];exact hg
   ·by_cases z2:e=dg
    ·rw[z2];exact hdg
    ·rw[aH z,aH z2]at he1;exact he1
  obtain⟨⟨dt,ht⟩,hrr,hee⟩:=TA
  refine⟨_,rfl,p,CB,dx,[],rfl,s1 _ _ hp,Y.cl,Y.n_given,(by show 0<1000;decide),?_⟩
  have u2:∀b o,b≠p->H1 b=some o->upd H1 p (.ins CB dx (aF "given" (.ref g) [])) b=some o:=fun b o n z=>by rw[aH n];exact z
  have p2:upd H1 p (.ins CB dx (aF "given" (.ref g) [])) p=some (.ins CB dx (aF "given" (.ref g) [])):=aG
  have n2:∀b,upd H1 p (.ins CB dx (aF "given" (.ref g) [])) b=none->H1 b=none/\b≠p:=fun b z=>by
   have:b≠p:=fun y=>by rw[y,aG]at z;cases z
   rw[aH this]at z
   exact⟨z,this⟩
  generalize upd H1 p (.ins CB dx (aF "given" (.ref g) []))=H2 at u2 p2 n2|-
  have b1':∀b,H1 b=none->H b=none:=fun b z=>by
   cases e9:H b with
   |none=>rfl
   |some o=>rw[s1 _ _ e9]at z;cases z
  refine fun ru hru=> ?_
  have s3:=aD.new (o:=.dK []) hru
  have h3:upd H2 ru (.dK []) ru=some (.dK []):=aG
  have n3:∀b,upd H2 ru (.dK []) b=none->H2 b=none/\b≠ru:=fun b z=>by
   have:b≠ru:=fun y=>by rw[y,aG]at z;cases z
   rw[aH this]at z
   exact⟨z,this⟩
  refine⟨_,rfl,p,CB,dx,_,rfl,s3 _ _ p2,Y.cl,Y.n_rules,(by show 1<1000;decide),?_⟩
  have hru2:=n2 _ hru
  generalize upd H2 ru (.dK [])=H3 at s3 h3 n3|-
  have u4:∀b o,b≠p->H3 b=some o->upd H3 p (.ins CB dx (aF "rules" (.ref ru) (aF "given" (.ref g) []))) b=some o:=fun b o n z=>by rw[aH n];exact z
  have p4:upd H3 p (.ins CB dx (aF "rules" (.ref ru) (aF "given" (.ref g) []))) p=some (.ins CB dx (aF "rules" (.ref ru) (aF "given" (.ref g) []))):=aG
  have n4:∀b,upd H3 p (.ins CB dx (aF "rules" (.ref ru) (aF "given" (.ref g) []))) b=none->H3 b=none/\b≠p:=fun b z=>by
   have:b≠p:=fun y=>by rw[y,aG]at z;cases z
   rw[aH this]at z
   exact⟨z,this⟩
  generalize upd H3 p (.ins CB dx (aF "rules" (.ref ru) (aF "given" (.ref g) [])))=H4 at u4 p4 n4|-
  refine fun me hme=> ?_
  have s5:=aD.new (o:=.dK []) hme
  have h5:upd H4 me (.dK []) me=some (.dK []):=aG
  have n5:∀b,upd H4 me (.dK []) b=none->H4 b=none/\b≠me:=fun b z=>by
   have:b≠me:=fun y=>by rw[y,aG]at z;cases z
   rw[aH this]at z
   exact⟨z,this⟩
  refine⟨_,rfl,p,CB,dx,_,rfl,s5 _ _ p4,Y.cl,Y.n_memory,(by show 2<1000;decide),?_⟩
  have hme4:=n4 _ hme
  have hme3:=n3 _ hme4.1
  have hme2:=n2 _ hme3.1
  generalize upd H4 me (.dK [])=H5 at s5 h5 n5|-
  have u6:∀b o,b≠p->H5 b=some o->upd H5 p (.ins CB dx (aF "memory" (.ref me) (aF "rules" (.ref ru) (aF "given" (.ref g) [])))) b=some o:=fun b o n z=>by rw[aH n];exact z
  have p6:upd H5 p (.ins CB dx (aF "memory" (.ref me) (aF "rules" (.ref ru) (aF "given" (.ref g) [])))) p=some (.ins CB dx (aF "memory" (.ref me) (aF "rules" (.ref ru) (aF "given" (.ref g) [])))):=aG
  have n6:∀b,upd H5 p (.ins CB dx (aF "memory" (.ref me) (aF "rules" (.ref ru) (aF "given" (.ref g) [])))) b=none->H5 b=none/\b≠p:=fun b z=>by
   have:b≠p:=fun y=>by rw[y,aG]at z;cases z
   rw[aH this]at z
   exact⟨z,this⟩
  generalize upd H5 p (.ins CB dx (aF "memory" (.ref me) (aF "rules" (.ref ru) (aF "given" (.ref g) []))))=H6 at u6 p6 n6|-
  refine⟨sl,fun od hod=> ?_⟩
  have s7:=aD.new (o:=.lst []) hod
  have h7:upd H6 od (.lst []) od=some (.lst []):=aG
  refine⟨_,rfl,p,CB,dx,_,rfl,s7 _ _ p6,Y.cl,Y.n_order,(by show 3<1000;decide),?_⟩
  have hod6:=n6 _ hod
  have hod5:=n5 _ hod6.1
  have hod4:=n4 _ hod5.1
  have hod3:=n3 _ hod4.1
  have hod2:=n2 _ hod3.1
  generalize upd H6 od (.lst [])=H7 at s7 h7|-
  have up:∀b o,b≠p->H1 b=some o->upd H7 p (.ins CB dx (aF "order" (.ref od) (aF "memory" (.ref me) (aF "rules" (.ref ru) (aF "given" (.ref g) []))))) b=some o:=fun b o n z=>by
   rw[aH n]
   exact s7 _ _ (u6 _ _ n (s5 _ _ (u4 _ _ n (s3 _ _ (u2 _ _ n z)))))
  have p9:upd H7 p (.ins CB dx (aF "order" (.ref od) (aF "memory" (.ref me) (aF "rules" (.ref ru) (aF "given" (.ref g) []))))) p=some (.ins CB dx (jR g ru me od)):=by rw[aG,b58]
  have npr:r≠p:=fun z=>by rw[z,hp]at hr0;cases hr0
  have npe:e≠p:=fun z=>by rw[z,hp]at he0;cases he0
  have o7:upd H7 p (.ins CB dx (aF "order" (.ref od) (aF "memory" (.ref me) (aF "rules" (.ref ru) (aF "given" (.ref g) []))))) od=some (.lst []):=by rw[aH hod6.2];exact h7
  have m7:upd H7 p (.ins CB dx (aF "order" (.ref od) (aF "memory" (.ref me) (aF "rules" (.ref ru) (aF "given" (.ref g) []))))) me=some (.dK []):=by
   rw[aH hme4.2]
   exact s7 _ _ (u6 _ _ hme4.2 h5)
  have r7:upd H7 p (.ins CB dx (aF "order" (.ref od) (aF "memory" (.ref me) (aF "rules" (.ref ru) (aF "given" (.ref g) []))))) ru=some (.dK []):=by
   rw[aH hru2.2]
   exact s7 _ _ (u6 _ _ hru2.2 (s5 _ _ (u4 _ _ hru2.2 h3)))
  generalize upd H7 p (.ins CB dx (aF "order" (.ref od) (aF "memory" (.ref me) (aF "rules" (.ref ru) (aF "given" (.ref g) [])))))=H9 at up p9 o7 m7 r7|-
  refine q H9 g r e ru me od ⟨⟨dx,p9⟩,⟨⟨dt,up _ _ npg.symm ht⟩,up _ _ npr hrr,up _ _ npe hee⟩,r7,m7,o7⟩ ⟨?_,?_,?_,?_⟩ ?_ fun b o z n=>up _ _ n (s1 _ _ z)
  ·exact aU hrr hod2.1
  ·exact aU hee hru2.1
  ·exact aU hee hme2.1
  ·exact fun z=>hme3.2 z.symm
  ·intro x hx
   simp only[List.mem_cons,List.not_mem_nil,or_false]at hx
   rcases hx with rfl|rfl|rfl|rfl|rfl|rfl
   ·exact hg
   ·exact hr0
   ·exact he0
   ·exact b1' _ hru2.1
   ·exact b1' _ hme2.1
   ·exact b1' _ hod2.1
def a9Z(CB CT:Addr):Sp:=fun vs H Q _=>∃(B:BM) (t:Str),vs= [.ref B.b,.str t] /\cN CB CT H B/\Nl t/\∀H',aD H H'->Q (.bl (decide (t∈B.ord))) H'
theorem b3I:bB ["self","column"] ["self","column"] (aC oO):=⟨rfl,rfl,rfl,by decide+kernel,rfl,by decide+kernel,by decide+kernel⟩
theorem pM(T:bD K mg){CB CT:Addr}(Y:cT K mg CB):aX P w K mg base aJ 2 CB "has_column" ["self","column"] (a9Z CB CT):=by
 have G_is_name:bG P w K mg base aJ 1 "is_name" ["thing"] (iS K):=gL T
 refine Y.m_has_column.known b3I (fun _ _ _ _ _ _ us hl=>eY (fun _ _=>rfl) us hl) (fun vs H Q E h=> ?_) (fun f cdv A outer s H vs Q E hr h=> ?_)
 ·obtain⟨B,t,rfl,_⟩:=h
  rfl
 ·obtain⟨B,t,rfl,hB,ht,q⟩:=h
  refine⟨_,(aK (bK (nA (bZ G_is_name (hr.mono (by decide)) bA (aA (pv 1) aE)) (mM (sN kJ (pv 1) (bH (pv 0) rfl) (by with_unfolding_all rfl)))))),?_⟩
  have h8:=ht.2.1
  refine⟨_,rfl,_,.str t,rfl,.str t,jL (by omega),fun H' s'=>⟨_,rfl,?_⟩⟩
  rw[show eG (.str t)=true from ht.name]
  obtain⟨⟨dx,h1⟩,_,_,_,h5⟩:=hB.same s'
  refine bC ⟨_,rfl,_,rfl,B.b,CB,dx,_,_,rfl,h1,Y.cl,Y.n_order,(fY _ _ _ _).2.2.2,B.od,_,rfl,.inl (aS.of h5),rfl,gN _,?_⟩
  rw[show (if false=true then !cB (.str t) (B.ord.map V.str) else cB (.str t) (B.ord.map V.str))=decide (t∈B.ord)by rw[if_neg Bool.false_ne_true,gW]]
  exact q _ s'
def vE(B:BM)(t:Str):Prop:=cE B.rus (.inr t:aI)=none/\t∉B.ord
def tP(CB CT:Addr):Sp:=fun vs H Q _=>∃(B:BM) (t:Str),vs= [.ref B.b,.str t] /\cN CB CT H B/\vE B t/\Q .non H
theorem b2j:bB ["self","column"] ["self","column"] (aC oA):=⟨rfl,rfl,rfl,by decide+kernel,rfl,by decide+kernel,by decide+kernel⟩
theorem qK(T:bD K mg){CB CT:Addr}(Y:cT K mg CB):aX P w K mg base aJ 2 CB "content" ["self","column"] (tP CB CT):=by
 refine Y.m_content.known b2j (fun _ _ _ _ _ _ us hl=>eY (fun _ _=>rfl) us hl) (fun vs H Q E h=> ?_) (fun f cdv A outer s H vs Q E hr h=> ?_)
 ·obtain⟨B,t,rfl,_⟩:=h
  rfl
 ·obtain⟨B,t,rfl,hB,⟨n1,n2⟩,q⟩:=h
  refine⟨_,(aM (bL (kO (a5N (fB hr) (pv 1) (bH (pv 0) rfl))) (aK dP) bO)
   (aM (bL (bP kJ (pv 1) (bH (pv 0) rfl) (by with_unfolding_all rfl)) (aK dP) bO)
   (aK (bK jZ)))),?_⟩
  obtain⟨⟨dx,h1⟩,_,h3,_,h5⟩:=id hB
  refine⟨_,rfl,_,rfl,B.b,CB,dx,_,_,rfl,h1,Y.cl,Y.n_rules,(fY _ _ _ _).2.1,B.ru,_,rfl,cP.k (k:=Sum.inr t) h3,_,rfl,?_⟩
  rw[n1]
  refine aZ ⟨_,rfl,_,rfl,B.b,CB,dx,_,_,rfl,h1,Y.cl,Y.n_order,(fY _ _ _ _).2.2.2,B.od,_,rfl,.inl (aS.of h5),rfl,gN _,_,rfl,?_⟩
  rw[show (if false=true then !cB (.str t) (B.ord.map V.str) else cB (.str t) (B.ord.map V.str))=false by rw[if_neg Bool.false_ne_true,gW,decide_eq_false n2]]
  exact aZ q
theorem b17:bB ["self","column"] ["self","column"] (aC nH):=⟨rfl,rfl,rfl,by decide+kernel,rfl,by decide+kernel,by decide+kernel⟩
theorem qL(T:bD K mg){CB CT:Addr}(Y:cT K mg CB):aX P w K mg base aJ 2 CB "empty_column" ["self","column"] (tP CB CT):=by
 refine Y.m_empty_column.known b17 (fun _ _ _ _ _ _ us hl=>eY (fun _ _=>rfl) us hl) (fun vs H Q E h=> ?_) (fun f cdv A outer s H vs Q E hr h=> ?_)
 ·obtain⟨B,t,rfl,_⟩:=h
  rfl
 ·obtain⟨B,t,rfl,hB,⟨n1,n2⟩,q⟩:=h
  refine⟨_,(aK (bL (kO (a5N (fB hr) (pv 1) (bH (pv 0) rfl))) (aM dP (aK dP)) (aK (bL (bP kJ (pv 1) (bH (pv 0) rfl) (by with_unfolding_all rfl)) (aK dP) bO)))),?_⟩
  obtain⟨⟨dx,h1⟩,_,h3,_,h5⟩:=id hB
  refine⟨_,rfl,_,rfl,B.b,CB,dx,_,_,rfl,h1,Y.cl,Y.n_rules,(fY _ _ _ _).2.1,B.ru,_,rfl,cP.k (k:=Sum.inr t) h3,_,rfl,?_⟩
  rw[n1]
  refine aZ ⟨_,rfl,_,rfl,B.b,CB,dx,_,_,rfl,h1,Y.cl,Y.n_order,(fY _ _ _ _).2.2.2,B.od,_,rfl,.inl (aS.of h5),rfl,gN _,_,rfl,?_⟩
  rw[show (if false=true then !cB (.str t) (B.ord.map V.str) else cB (.str t) (B.ord.map V.str))=false by rw[if_neg Bool.false_ne_true,gW,decide_eq_false n2]]
  exact aZ q
def a2Y(K:Fg)(CB CT:Addr):Sp:=fun vs H Q _=>∃(B:BM) (t:Str) (a:Addr) (ys:List V) (ds:List PyData),vs= [.ref B.b,.str t,.ref a] /\cN CB CT H B/\B.sep/\vE B t/\Nl t/\H a=some (.lst ys)/\a≠B.od/\fM K H ys ds/\ys.length=B.xs.length/\ys.length<=30/\B.kvs.length<8/\B.ord.length<100/\
 ∀H' l,H l=none->cN CB CT H' {B with kvs:=cC B.kvs (.inr t:aI) (.ref l),ord:=B.ord++ [t]} ->H' l=some (.lst ys)->(∀b o,b≠B.od->b≠B.e->H b=some o->H' b=some o)->Q .non H'
theorem b2f:bB ["self","column","content"] ["self","column","content"] (aC oE):=⟨rfl,rfl,rfl,by decide+kernel,rfl,by decide+kernel,by decide+kernel⟩
theorem b2L(T:bD K mg){CB CT:Addr}(Y:cT K mg CB)(Z:eL K mg CT):aX P w K mg base aJ 6 CB "set_column" ["self","column","content"] (a2Y K CB CT):=by
 have G_empty:aX P w K mg base aJ 2 CB "empty_column" ["self","column"] (tP CB CT):=qL T Y
 have G_give:aX P w K mg base aJ 5 CT "give" ["self","column","values"] (b0j K CT):=oX T Z
 refine Y.m_set_column.known b2f (fun _ _ _ _ _ _ us hl=>iB (fun _ _ _=>rfl) us hl) (fun vs H Q E h=> ?_) (fun f cdv A outer s H vs Q E hr h=> ?_)
 ·obtain⟨B,t,a,ys,ds,rfl,_⟩:=h
  rfl
 ·obtain⟨B,t,a,ys,ds,rfl,hB,sp,⟨n1,n2⟩,ht,ha,nao,hp,hl,l30,k8,o100,q⟩:=h
  refine⟨_,(aM (dC (dR (pv 0) Y.cl G_empty (hr.mono (by decide)) bA (aA (pv 1) aE)))
   (aM (bL (bP b0o (pv 2) jZ (cI _)) (aM dP (aK dP)) bO)
   (aM (bL (bP rP (pv 1) (bH (pv 0) rfl) (by with_unfolding_all rfl)) (aK (dC (b1t PySem.F.plainAttrs_list PySem.F.slot_list_append PySem.F.type_list_append uS (bH (pv 0) rfl) (aA (pv 1) aE)))) bO)
   (aK (bL (dL (bN b4B rfl T.isinstance cL (aA (pv 2) (aA (gC T.list kW) aE))) (fun _=>rfl)) (aK (dC (dR (bH (pv 0) rfl) Z.cl G_give (hr.mono (by decide)) bA (aA (pv 1) (aA (pv 2) aE))))) (aM dP (aK dP))))))),?_⟩
  obtain⟨⟨dx,h1⟩,tb,h3,h4,h5⟩:=id hB
  refine⟨_,rfl,B.b,dx,_,rfl,h1,tO,_,rfl,B,t,rfl,hB,⟨n1,n2⟩,?_⟩
  refine⟨_,rfl,rfl,_,rfl,?_⟩
  rw[decide_eq_false (show¬V.ref a=V.non from fun z=>by cases z)]
  refine aZ ⟨_,rfl,_,rfl,B.b,CB,dx,_,_,rfl,h1,Y.cl,Y.n_order,(fY _ _ _ _).2.2.2,B.od,_,rfl,.inl (aS.of h5),rfl,gN _,_,rfl,?_⟩
  rw[show (if true=true then !cB (.str t) (B.ord.map V.str) else cB (.str t) (B.ord.map V.str))=true by rw[if_pos rfl,gW,decide_eq_false n2];rfl]
  refine bC ⟨_,rfl,B.b,CB,dx,_,_,rfl,h1,Y.cl,Y.n_order,(fY _ _ _ _).2.2.2,.inl ⟨rfl,_,aS.of h5⟩,_,rfl,B.od,_,_,rfl,rfl,h5,dN (by rw[List.length_map];omega),?_⟩
  have u6:∀b o,b≠B.od->H b=some o->upd H B.od (.lst (B.ord.map V.str++ [.str t])) b=some o:=fun b o n z=>by rw[aH n];exact z
  have o6:upd H B.od (.lst (B.ord.map V.str++ [.str t])) B.od=some (.lst ((B.ord++ [t]).map V.str)):=by rw[aG,List.map_append];rfl
  have kt:gP H (upd H B.od (.lst (B.ord.map V.str++ [.str t]))):=gP.upd h5 (fun xs z=>by cases z)
  have n6:∀b,upd H B.od (.lst (B.ord.map V.str++ [.str t])) b=none->H b=none:=fun b z=>by
   have:b≠B.od:=fun y=>by rw[y,aG]at z;cases z
   rw[aH this]at z
   exact z
  generalize upd H B.od (.lst (B.ord.map V.str++ [.str t]))=H6 at u6 o6 kt n6|-
  have a6:=u6 _ _ nao ha
  have b6:=u6 _ _ (fun z=>by rw[z,h5]at h1;cases h1) h1
  obtain⟨⟨dt,t1⟩,t2,t3⟩:=id tb
  have g6:=u6 _ _ (fun z=>by rw[z,h5]at t1;cases t1) t1
  have e6:=u6 _ _ (fun z=>by rw[z,h5]at t3;cases t3) t3
  have tb6:gU CT H6 B.g B.r B.e B.xs B.n B.kvs:=⟨⟨dt,g6⟩,u6 _ _ sp.ro t2,e6⟩
  refine⟨_,rfl,_,"list",.type "list",_,rfl,.lst a6,b0g K .lst,_,rfl,bC ?_⟩
  refine⟨_,rfl,B.b,CB,dx,_,_,rfl,b6,Y.cl,Y.n_given,(fY _ _ _ _).1,B.g,dt,_,rfl,g6,lJ,_,rfl,_,rfl,B.g,B.r,B.e,B.xs,B.n,B.kvs,t,a,ys,ds,rfl,tb6,ht,.inr k8,by omega,aS.of a6,hp.keep kt,hl,by omega,fun H7 l s7 hl7=> ?_⟩
  have u9:∀b o,b≠B.e->H7 b=some o->upd (upd H7 l (.lst ys)) B.e (.dK (cC B.kvs (.inr t:aI) (.ref l))) b=some o:=fun b o n z=>by
   rw[aH n,aH (aU z hl7)]
   exact z
  have nle:l≠B.e:=fun z=>by rw[z,s7 _ _ e6]at hl7;cases hl7
  have e9:upd (upd H7 l (.lst ys)) B.e (.dK (cC B.kvs (.inr t:aI) (.ref l))) B.e=some (.dK (cC B.kvs (.inr t:aI) (.ref l))):=aG
  have l9:upd (upd H7 l (.lst ys)) B.e (.dK (cC B.kvs (.inr t:aI) (.ref l))) l=some (.lst ys):=by rw[aH nle,aG]
  generalize upd (upd H7 l (.lst ys)) B.e (.dK (cC B.kvs (.inr t:aI) (.ref l)))=H9 at u9 e9 l9|-
  have up:∀b o,b≠B.od->b≠B.e->H b=some o->H9 b=some o:=fun b o n1 n2 z=>u9 _ _ n2 (s7 _ _ (u6 _ _ n1 z))
  have ne_:∀{b:Addr} {o:HO},H6 b=some o->(∀kvs,o≠ .dK kvs)->b≠B.e:=fun z n y=>by rw[y,e6]at z;exact n _ (Option.some.inj z).symm
  refine q H9 l (n6 _ (gH s7 hl7)) ⟨⟨dx,u9 _ _ (ne_ b6 (fun kvs z=>by cases z)) (s7 _ _ b6)⟩,⟨⟨dt,u9 _ _ (ne_ g6 (fun kvs z=>by cases z)) (s7 _ _ g6)⟩,?_,e9⟩,?_,?_,?_⟩ l9 up
  ·exact up _ _ sp.ro (fun z=>by rw[z,t3]at t2;cases t2) t2
  ·exact up _ _ (fun z=>by rw[z,h5]at h3;cases h3) sp.eu.symm h3
  ·exact up _ _ (fun z=>by rw[z,h5]at h4;cases h4) sp.em.symm h4
  ·exact u9 _ _ (ne_ o6 (fun kvs z=>by cases z)) (s7 _ _ o6)
end
noncomputable def lR (bd:Addr) (nm:Str) (m:Nat):List (Str×V):=[("boards",V.ref bd),("name",V.str nm),("size",V.int (m:Int))]
theorem uT(bd:Addr)(nm:Str)(m:Nat):(lR bd nm m).lookup ("boards":Str)=some (.ref bd)/\(lR bd nm m).lookup ("name":Str)=some (.str nm)/\(lR bd nm m).lookup ("size":Str)=some (.int (m:Int))/\(lR bd nm m).lookup ("take":Str)=none:=⟨rfl,rfl,rfl,rfl⟩
noncomputable def jT (b:Addr) (t:Str) (a:Addr):List (Str×V):=[("board",V.ref b),("column",V.str t),("after",V.ref a),("before",V.non)]
theorem a9o(b:Addr)(t:Str)(a:Addr):(jT b t a).lookup ("board":Str)=some (.ref b)/\(jT b t a).lookup ("column":Str)=some (.str t)/\(jT b t a).lookup ("after":Str)=some (.ref a)/\(jT b t a).lookup ("take":Str)=none/\aF "before" .non (jT b t a)=jT b t a:=⟨rfl,rfl,rfl,rfl,rfl⟩
section
variable{P:Program}{w:World}{K:Fg}{mg:Str->Option Value}{base:Heap}
def a9N(C:Addr):Sp:=fun vs H Q _=>∃(p dx bd:Addr) (nm:Str) (m:Nat),vs= [.ref p,.ref bd,.str nm,.int (m:Int)] /\H p=some (.ins C dx [])/\∀H',kK p H H'->H' p=some (.ins C dx (lR bd nm m))->Q .non H'
theorem b4E:bB ["self","boards","name","size"] ["self","boards","name","size"] (aC nU):=⟨rfl,rfl,rfl,by decide+kernel,rfl,by decide+kernel,by decide+kernel⟩
theorem rL(T:bD K mg){C:Addr}(Y:rH K mg C):cA P w K mg base aJ 1 C ["self","boards","name","size"] (a9N C):=by
 refine(Y.m_init.known b4E (fun _ _ _ _ _ _ us hl=>rB (fun _ _ _ _=>rfl) us hl) (fun vs H Q E h=> ?_) (fun f cdv A outer s H vs Q E hr h=> ?_)).init Y.mks Y.kc
 ·obtain⟨p,dx,bd,nm,m,rfl,_⟩:=h
  rfl
 ·obtain⟨p,dx,bd,nm,m,rfl,hp,q⟩:=h
  refine⟨_,(aM (bQ (pv 0) (pv 1) rfl) (aM (bQ (pv 0) (pv 2) rfl) (aK (bQ (pv 0) (pv 3) rfl)))),?_⟩
  refine⟨_,rfl,_,rfl,p,C,dx,[],rfl,hp,Y.cl,Y.n_boards,(by show 0<1000;decide),?_⟩
  refine⟨_,rfl,_,rfl,p,C,dx,_,rfl,aG,Y.cl,Y.n_name,(by show 1<1000;decide),?_⟩
  refine⟨_,rfl,_,rfl,p,C,dx,_,rfl,aG,Y.cl,Y.n_size,(by show 2<1000;decide),?_⟩
  exact q _ (fun b o n z=>by rw[aH n,aH n,aH n];exact z) aG
def b0K(C:Addr):Sp:=fun vs H Q _=>∃(p dx b a:Addr) (t:Str),vs= [.ref p,.ref b,.str t,.ref a] /\H p=some (.ins C dx [])/\∀H',kK p H H'->H' p=some (.ins C dx (jT b t a))->Q .non H'
theorem b50:bB ["self","board","column","content"] ["self","board","column","content"] (aC nZ):=⟨rfl,rfl,rfl,by decide+kernel,rfl,by decide+kernel,by decide+kernel⟩
theorem qT(T:bD K mg){C:Addr}(Y:pN K mg C):cA P w K mg base aJ 1 C ["self","board","column","content"] (b0K C):=by
 refine(Y.m_init.known b50 (fun _ _ _ _ _ _ us hl=>rB (fun _ _ _ _=>rfl) us hl) (fun vs H Q E h=> ?_) (fun f cdv A outer s H vs Q E hr h=> ?_)).init Y.mks Y.kc
 ·obtain⟨p,dx,b,a,t,rfl,_⟩:=h
  rfl
 ·obtain⟨p,dx,b,a,t,rfl,hp,q⟩:=h
  refine⟨_,(aM (bQ (pv 0) (pv 1) rfl) (aM (bQ (pv 0) (pv 2) rfl) (aM (bQ (pv 0) (pv 3) rfl) (aK (bQ (pv 0) jZ rfl))))),?_⟩
  refine⟨_,rfl,_,rfl,p,C,dx,[],rfl,hp,Y.cl,Y.n_board,(by show 0<1000;decide),?_⟩
  refine⟨_,rfl,_,rfl,p,C,dx,_,rfl,aG,Y.cl,Y.n_column,(by show 1<1000;decide),?_⟩
  refine⟨_,rfl,_,rfl,p,C,dx,_,rfl,aG,Y.cl,Y.n_after,(by show 2<1000;decide),?_⟩
  refine⟨_,rfl,p,C,dx,_,rfl,aG,Y.cl,Y.n_before,(by show 3<1000;decide),?_⟩
  exact q _ (fun b o n z=>by rw[aH n,aH n,aH n,aH n];exact z) aG
def spTT(C CB CT:Addr):Sp:=fun vs H Q _=>∃(p dx bd:Addr) (nm:Str) (m:Nat) (kb:List (aI×V)),vs= [.ref p] /\H p=some (.ins C dx (lR bd nm m))/\H bd=some (.dK kb)/\kb.length<100/\m<=30/\
 ∀H' b g r e ru me od,cN CB CT H' ⟨b,g,r,e,ru,me,od,fP 0 m,(m:Int),[],[],[],[]⟩ ->BM.sep ⟨b,g,r,e,ru,me,od,fP 0 m,(m:Int),[],[],[],[]⟩ ->(∀x∈ [b,g,r,e,ru,me,od],H x=none)->H' bd=some (.dK (cC kb (.inr nm:aI) (.ref b)))->(∀x o,x≠bd->H x=some o->H' x=some o)->Q .non H'
theorem b5J:bB ["self"] ["self"] (aC rE):=⟨rfl,rfl,rfl,by decide+kernel,rfl,by decide+kernel,by decide+kernel⟩
theorem rN(T:bD K mg){C CB CT:Addr}(Y:rH K mg C)(W:cT K mg CB)(Z:eL K mg CT):aX P w K mg base aJ 7 C "take" ["self"] (spTT C CB CT):=by
 have GI:cA P w K mg base aJ 5 CB ["self","many"] (b0V CB CT):=pP T W Z
 refine Y.m_take.known b5J (fun _ _ _ _ _ _ us hl=>dM (fun _=>rfl) us hl) (fun vs H Q E h=> ?_) (fun f cdv A outer s H vs Q E hr h=> ?_)
 ·obtain⟨p,dx,bd,nm,m,kb,rfl,_⟩:=h
  rfl
 ·obtain⟨p,dx,bd,nm,m,kb,rfl,hp,hb,kl,hm,q⟩:=h
  refine⟨_,(aK (b0m (fB hr) (bH (pv 0) rfl) (bH (pv 0) rfl) (fJ GI hr W.c bA (aA (bH (pv 0) rfl) aE)) rfl)),?_⟩
  refine⟨_,rfl,p,C,dx,_,_,rfl,hp,Y.cl,Y.n_size,(uT _ _ _).2.2.1,?_⟩
  intro b db hb0 hdb ne
  refine⟨b,db,m,rfl,aG,hm,fun H1 g r e ru me od hB sp fr fm=>⟨rfl,?_⟩⟩
  have s1:aD H H1:=fun x o z=>fm x o (by rw[aH (aU z hb0),aH (aU z hdb)];exact z) (aU z hb0)
  have fr':∀x∈ [b,g,r,e,ru,me,od],H x=none:=fun x hx=>by
   rcases List.mem_cons.mp hx with rfl|hx
   ·exact hb0
   ·have:=fr x hx
    by_cases z:x=b
    ·rw[z];exact hb0
    ·by_cases z2:x=db
     ·rw[z2];exact hdb
     ·rw[aH z,aH z2]at this;exact this
  refine⟨_,rfl,p,C,dx,_,_,rfl,s1 _ _ hp,Y.cl,Y.n_boards,(uT _ _ _).1,_,rfl,p,C,dx,_,_,rfl,s1 _ _ hp,Y.cl,Y.n_name,(uT _ _ _).2.1,bd,_,rfl,lX.k (k:=Sum.inr nm) (s1 _ _ hb) (dN (by omega)),?_⟩
  have nb:∀{x:Addr},x∈ [b,g,r,e,ru,me,od] ->x≠bd:=fun hx z=>by rw[<- z,fr' _ hx]at hb;cases hb
  have u:∀x o,x≠bd->H1 x=some o->upd H1 bd (.dK (cC kb (.inr nm:aI) (.ref b))) x=some o:=fun x o n z=>by rw[aH n];exact z
  obtain⟨⟨d1,e1⟩,⟨⟨d2,e2⟩,e3,e4⟩,e5,e6,e7⟩:=hB
  exact q _ b g r e ru me od ⟨⟨d1,u _ _ (nb (by simp)) e1⟩,⟨⟨d2,u _ _ (nb (by simp)) e2⟩,u _ _ (nb (by simp)) e3,u _ _ (nb (by simp)) e4⟩,u _ _ (nb (by simp)) e5,u _ _ (nb (by simp)) e6,u _ _ (nb (by simp)) e7⟩ sp fr' aG (fun x o n z=>u _ _ n (s1 _ _ z))
def spCS(C CB CT:Addr)(sp:Sp):Sp:=fun vs H Q _=>∃(p dx a:Addr) (B:BM) (t:Str),vs= [.ref p] /\H p=some (.ins C dx (jT B.b t a))/\cN CB CT H B/\vE B t/\sp [.ref B.b,.str t,.ref a] H (fun _ H'=>Q .non H') E0
theorem b4Q:bB ["self"] ["self"] (aC qW):=⟨rfl,rfl,rfl,by decide+kernel,rfl,by decide+kernel,by decide+kernel⟩
theorem pC(T:bD K mg){C CB CT:Addr}(Y:pN K mg C)(W:cT K mg CB){sp:Sp}(G:aX P w K mg base aJ 6 CB "set_column" ["self","column","content"] sp):aX P w K mg base aJ 7 C "take" ["self"] (spCS C CB CT sp):=by
 have G_content:aX P w K mg base aJ 2 CB "content" ["self","column"] (tP CB CT):=qK T W
 refine Y.m_take.known b4Q (fun _ _ _ _ _ _ us hl=>dM (fun _=>rfl) us hl) (fun vs H Q E h=> ?_) (fun f cdv A outer s H vs Q E hr h=> ?_)
 ·obtain⟨p,dx,a,B,t,rfl,_⟩:=h
  rfl
 ·obtain⟨p,dx,a,B,t,rfl,hp,hB,hn,q⟩:=h
  refine⟨_,(aM (bQ (pv 0) (dR (bH (pv 0) rfl) W.cl G_content (hr.mono (by decide)) bA (aA (bH (pv 0) rfl) aE)) rfl)
   (aK (dC (dR (bH (pv 0) rfl) W.cl G hr bA (aA (bH (pv 0) rfl) (aA (bH (pv 0) rfl) aE)))))),?_⟩
  obtain⟨c1,c2,c3,c4,c5⟩:=a9o B.b t a
  obtain⟨dB,h1⟩:=hB.at_
  refine⟨_,rfl,p,C,dx,_,_,rfl,hp,Y.cl,Y.n_board,c1,B.b,dB,_,rfl,h1,tO,_,rfl,p,C,dx,_,_,rfl,hp,Y.cl,Y.n_column,c2,B,t,rfl,hB,hn,?_⟩
  refine⟨_,rfl,p,C,dx,_,rfl,hp,Y.cl,Y.n_before,(by show 4<1000;decide),?_⟩
  rw[c5,b4X hp]
  exact⟨_,rfl,p,C,dx,_,_,rfl,hp,Y.cl,Y.n_board,c1,B.b,dB,_,rfl,h1,tO,_,rfl,p,C,dx,_,_,rfl,hp,Y.cl,Y.n_column,c2,_,rfl,p,C,dx,_,_,rfl,hp,Y.cl,Y.n_after,c3,q⟩
end
def eF(bd ch fi:Addr):List (Str×V):=[("boards",V.ref bd),("changes",V.ref ch),("finder",V.ref fi)]
theorem nE(bd ch fi:Addr):(eF bd ch fi).lookup ("boards":Str)=some (.ref bd)/\(eF bd ch fi).lookup ("changes":Str)=some (.ref ch)/\(eF bd ch fi).lookup ("finder":Str)=some (.ref fi)/\∀fi',aF "finder" (.ref fi') (eF bd ch fi)=eF bd ch fi':=⟨rfl,rfl,rfl,fun _=>rfl⟩
theorem fX{bd ch fi:Addr}{m:Str}(h:(m==("boards":Str)||m==("changes":Str)||m==("finder":Str))=false:=by decide+kernel):(eF bd ch fi).lookup m=none:=by
 simp only[Bool.or_eq_false_iff]at h
 obtain⟨⟨h1,h2⟩,h3⟩:=h
 unfold eF
 simp[List.lookup,h1,h2,h3]
noncomputable def sL (bd fd lk:Addr):List (Str×V):=[("boards",V.ref bd),("found",V.ref fd),("looked",V.ref lk)]
section
variable{P:Program}{w:World}{K:Fg}{mg:Str->Option Value}{base:Heap}
def spFI(C:Addr):Sp:=fun vs H Q _=>∃(p dx bd:Addr),vs= [.ref p,.ref bd] /\H p=some (.ins C dx [])/\
 ∀H' fd lk,H fd=none->H lk=none->fd≠lk->H' p=some (.ins C dx (sL bd fd lk))->H' fd=some (.dT [])->H' lk=some (.dT [])->kK p H H'->Q .non H'
theorem b2g:bB ["self","boards"] ["self","boards"] (aC qH):=⟨rfl,rfl,rfl,by decide+kernel,rfl,by decide+kernel,by decide+kernel⟩
theorem mE(T:bD K mg){C:Addr}(Y:lA K mg C):cA P w K mg base aJ 1 C ["self","boards"] (spFI C):=by
 refine(Y.m_init.known b2g (fun _ _ _ _ _ _ us hl=>eY (fun _ _=>rfl) us hl) (fun vs H Q E h=> ?_) (fun f cdv A outer s H vs Q E hr h=> ?_)).init Y.mks Y.kc
 ·obtain⟨p,dx,bd,rfl,_⟩:=h
  rfl
 ·obtain⟨p,dx,bd,rfl,hp,q⟩:=h
  refine⟨_,(aM (bQ (pv 0) (pv 1) rfl) (aM (bQ (pv 0) a9u rfl) (aK (bQ (pv 0) a9u rfl)))),?_⟩
  refine⟨_,rfl,_,rfl,p,C,dx,[],rfl,hp,Y.cl,Y.n_boards,(by show 0<1000;decide),?_⟩
  have u1:∀b o,b≠p->H b=some o->upd H p (.ins C dx (aF "boards" (.ref bd) [])) b=some o:=fun b o n z=>by rw[aH n];exact z
  have p1:upd H p (.ins C dx (aF "boards" (.ref bd) [])) p=some (.ins C dx (aF "boards" (.ref bd) [])):=aG
  have n1:∀b,upd H p (.ins C dx (aF "boards" (.ref bd) [])) b=none->H b=none/\b≠p:=fun b z=>by
   have:b≠p:=fun y=>by rw[y,aG]at z;cases z
   rw[aH this]at z
   exact⟨z,this⟩
  generalize upd H p (.ins C dx (aF "boards" (.ref bd) []))=H1 at u1 p1 n1|-
  refine fun fd hfd=> ?_
  have s2:=aD.new (o:=.dT []) hfd
  have h2:upd H1 fd (.dT []) fd=some (.dT []):=aG
  have n2:∀b,upd H1 fd (.dT []) b=none->H1 b=none/\b≠fd:=fun b z=>by
   have:b≠fd:=fun y=>by rw[y,aG]at z;cases z
   rw[aH this]at z
   exact⟨z,this⟩
  refine⟨_,rfl,p,C,dx,_,rfl,s2 _ _ p1,Y.cl,Y.n_found,(by show 1<1000;decide),?_⟩
  have hf:=n1 _ hfd
  generalize upd H1 fd (.dT [])=H2 at s2 h2 n2|-
  have u3:∀b o,b≠p->H2 b=some o->upd H2 p (.ins C dx (aF "found" (.ref fd) (aF "boards" (.ref bd) []))) b=some o:=fun b o n z=>by rw[aH n];exact z
  have p3:upd H2 p (.ins C dx (aF "found" (.ref fd) (aF "boards" (.ref bd) []))) p=some (.ins C dx (aF "found" (.ref fd) (aF "boards" (.ref bd) []))):=aG
  have n3:∀b,upd H2 p (.ins C dx (aF "found" (.ref fd) (aF "boards" (.ref bd) []))) b=none->H2 b=none/\b≠p:=fun b z=>by
   have:b≠p:=fun y=>by rw[y,aG]at z;cases z
   rw[aH this]at z
   exact⟨z,this⟩
  generalize upd H2 p (.ins C dx (aF "found" (.ref fd) (aF "boards" (.ref bd) [])))=H3 at u3 p3 n3|-
  refine fun lk hlk=> ?_
  have s4:=aD.new (o:=.dT []) hlk
  have h4:upd H3 lk (.dT []) lk=some (.dT []):=aG
  refine⟨_,rfl,p,C,dx,_,rfl,s4 _ _ p3,Y.cl,Y.n_looked,(by show 2<1000;decide),?_⟩
  have k3:=n3 _ hlk
  have k2:=n2 _ k3.1
  have k1:=n1 _ k2.1
  generalize upd H3 lk (.dT [])=H4 at s4 h4|-
  exact q _ fd lk hf.1 k1.1 k2.2.symm aG (by rw[aH hf.2];exact s4 _ _ (u3 _ _ hf.2 h2)) (by rw[aH k1.2];exact h4) (fun b o n z=>by rw[aH n];exact s4 _ _ (u3 _ _ n (s2 _ _ (u1 _ _ n z))))
def spMk(CS CF C:Addr)(sp:Sp):Sp:=fun vs H Q _=>∃(s c bd ch fi dx dc:Addr) (cs:List V) (fs:List (Str×V)),vs= [.ref s,.ref c] /\H c=some (.ins C dc fs)/\fs.lookup ("take":Str)=none/\
 sp [.ref c] H (fun _ H1=>H1 s=some (.ins CS dx (eF bd ch fi))/\H1 ch=some (.lst cs)/\cs.length<900/\∀H2 fi' fd lk df,H1 fi'=none->H1 fd=none->H1 lk=none->fd≠lk->H2 s=some (.ins CS dx (eF bd ch fi'))->H2 ch=some (.lst (cs++ [.ref c]))->H2 fi'=some (.ins CF df (sL bd fd lk))->H2 fd=some (.dT [])->H2 lk=some (.dT [])->
  (∀x o,x≠s->x≠ch->H1 x=some o->H2 x=some o)->Q .non H2) E0
theorem b6j:bB ["self","change"] ["self","change"] (aC pY):=⟨rfl,rfl,rfl,by decide+kernel,rfl,by decide+kernel,by decide+kernel⟩
def pW(sp:Sp):Prop:=∀vs H (Q Q':VK),(∀v H',Q v H'->Q' v H')->sp vs H Q E0->sp vs H Q' E0
theorem mW(T:bD K mg){CS CF C:Addr}(Y:dA K mg CS)(Z:lA K mg CF)(cl:bV K C){sp:Sp}(mono:pW sp)(G:aX P w K mg base aJ 7 C "take" ["self"] sp):aX P w K mg base aJ 8 CS "make" ["self","change"] (spMk CS CF C sp):=by
 have GI:cA P w K mg base aJ 1 CF ["self","boards"] (spFI CF):=mE T Z
 refine Y.m_make.known b6j (fun _ _ _ _ _ _ us hl=>eY (fun _ _=>rfl) us hl) (fun vs H Q E h=> ?_) (fun f cdv A outer s H vs Q E hr h=> ?_)
 ·obtain⟨s',c,bd,ch,fi,dx,dc,cs,fs,rfl,_⟩:=h
  rfl
 ·obtain⟨s',c,bd,ch,fi,dx,dc,cs,fs,rfl,hc,hf,q⟩:=h
  refine⟨_,(aM (dC (jU (pv 1) cl G hr bA))
   (aM (dC (b1t PySem.F.plainAttrs_list PySem.F.slot_list_append PySem.F.type_list_append uS (bH (pv 0) rfl) (aA (pv 1) aE)))
   (aK (bQ (pv 0) (fJ GI (hr.mono (by decide)) Z.c bA (aA (bH (pv 0) rfl) aE)) rfl)))),?_⟩
  refine⟨_,rfl,c,dc,fs,rfl,hc,hf,?_⟩
  refine mono _ _ _ _ (fun v0 H1 hQ=> ?_) q
  obtain⟨h1,h2,l9,qq⟩:=hQ
  obtain⟨a1,a2,a3,a4⟩:=nE bd ch fi
  refine⟨_,rfl,s',CS,dx,_,_,rfl,h1,Y.cl,Y.n_changes,a2,.inl ⟨rfl,_,aS.of h2⟩,_,rfl,ch,_,_,rfl,rfl,h2,dN (by omega),?_⟩
  have nsc:s'≠ch:=fun z=>by rw[z,h2]at h1;cases h1
  have u2:∀x o,x≠ch->H1 x=some o->upd H1 ch (.lst (cs++ [.ref c])) x=some o:=fun x o n z=>by rw[aH n];exact z
  have c2:upd H1 ch (.lst (cs++ [.ref c])) ch=some (.lst (cs++ [.ref c])):=aG
  have n2:∀b,upd H1 ch (.lst (cs++ [.ref c])) b=none->H1 b=none/\b≠ch:=fun b z=>by
   have:b≠ch:=fun y=>by rw[y,aG]at z;cases z
   rw[aH this]at z
   exact⟨z,this⟩
  generalize upd H1 ch (.lst (cs++ [.ref c]))=H2 at u2 c2 n2|-
  have s2:=u2 _ _ nsc h1
  refine⟨_,rfl,s',CS,dx,_,_,rfl,s2,Y.cl,Y.n_boards,a1,?_⟩
  intro fi' df hfi hdf ne
  refine⟨fi',df,bd,rfl,aG,fun H3 fd lk hfd hlk nfl g1 g2 g3 b3=>⟨rfl,?_⟩⟩
  have s3:aD H2 H3:=fun b o z=>b3 b o (aU z hfi) (by rw[aH (aU z hfi),aH (aU z hdf)];exact z)
  have fr:∀{x:Addr},upd (upd H2 df (.own fi')) fi' (.ins CF df []) x=none->H2 x=none:=fun{x} z=>by
   by_cases z1:x=fi'
   ·rw[z1];exact hfi
   ·by_cases z2:x=df
    ·rw[z2];exact hdf
    ·rw[aH z1,aH z2]at z;exact z
  refine⟨_,rfl,s',CS,dx,_,rfl,s3 _ _ s2,Y.cl,Y.n_finder,(by show 3<1000;decide),?_⟩
  rw[a4]
  have ns:∀{x:Addr},H2 x=none->x≠s':=fun z y=>by rw[y,s2]at z;cases z
  exact qq _ fi' fd lk df (n2 _ hfi).1 (n2 _ (fr hfd)).1 (n2 _ (fr hlk)).1 nfl aG (by rw[aH nsc.symm];exact s3 _ _ c2) (by rw[aH (ns hfi)];exact g1) (by rw[aH (ns (fr hfd))];exact g2) (by rw[aH (ns (fr hlk))];exact g3) (fun x o n1 n2' z=>by rw[aH n1];exact s3 _ _ (u2 _ _ n2' z))
def uP(CS CB CT:Addr):Sp:=fun vs H Q _=>∃(s bd ch fi dx:Addr) (kb:List (aI×V)) (nm:Str) (v:V),vs= [.ref s,.str nm] /\H s=some (.ins CS dx (eF bd ch fi))/\H bd=some (.dK kb)/\Nl nm/\cE kb (.inr nm:aI)=some v/\∀H',aD H H'->Q v H'
theorem a9v:bB ["self","table"] ["self","table"] (aC pL):=⟨rfl,rfl,rfl,by decide+kernel,rfl,by decide+kernel,by decide+kernel⟩
theorem kQ(T:bD K mg){CS CB CT:Addr}(Y:dA K mg CS):aX P w K mg base aJ 2 CS "board_of" ["self","table"] (uP CS CB CT):=by
 have G_is_name:bG P w K mg base aJ 1 "is_name" ["thing"] (iS K):=gL T
 refine Y.m_board_of.known a9v (fun _ _ _ _ _ _ us hl=>eY (fun _ _=>rfl) us hl) (fun vs H Q E h=> ?_) (fun f cdv A outer s H vs Q E hr h=> ?_)
 ·obtain⟨s',bd,ch,fi,dx,kb,nm,v,rfl,_⟩:=h
  rfl
 ·obtain⟨s',bd,ch,fi,dx,kb,nm,v,rfl,h1,h2,ht,hv,q⟩:=h
  refine⟨_,(aM (bL (PW.pt (eS (dG (dL (bZ G_is_name (hr.mono (by decide)) bA (aA (pv 1) aE)) (fun _=>rfl))) (eV (kO (oQ (fB hr) (pv 1) (bH (pv 0) rfl)))))) (aK dP) bO)
   (aK (bK (gZ (fB hr) (bH (pv 0) rfl) (pv 1) (fun _ _=>rfl))))),?_⟩
  have h8:=ht.2.1
  refine⟨_,rfl,_,.str nm,rfl,.str nm,jL (by omega),fun H' s9=>⟨_,rfl,?_⟩⟩
  rw[show eG (.str nm)=true from ht.name]
  refine aZ ⟨_,rfl,_,rfl,s',CS,dx,_,_,rfl,s9 _ _ h1,Y.cl,Y.n_boards,(nE _ _ _).1,bd,_,rfl,cP.k (k:=Sum.inr nm) (s9 _ _ h2),_,rfl,?_⟩
  rw[hv]
  exact aZ ⟨_,rfl,s',CS,dx,_,_,rfl,s9 _ _ h1,Y.cl,Y.n_boards,(nE _ _ _).1,_,rfl,bd,v,rfl,hv▸cP.k (k:=Sum.inr nm) (s9 _ _ h2),q _ s9⟩
def b2h(CS CB CT:Addr):Sp:=fun vs H Q _=>∃(s bd ch fi dx:Addr) (kb:List (aI×V)) (nm t:Str) (B:BM),vs= [.ref s,.str nm,.str t] /\H s=some (.ins CS dx (eF bd ch fi))/\H bd=some (.dK kb)/\Nl nm/\cE kb (.inr nm:aI)=some (.ref B.b)/\cN CB CT H B/\Nl t/\t∈B.ord/\∀H',aD H H'->Q (.ref B.b) H'
theorem b0O:bB ["self","table","column","board"] ["self","table","column"] (aC oB):=⟨rfl,rfl,rfl,by decide+kernel,rfl,by decide+kernel,by decide+kernel⟩
theorem tY(T:bD K mg){CS CB CT:Addr}(Y:dA K mg CS)(W:cT K mg CB):aX P w K mg base aJ 3 CS "board_with" ["self","table","column"] (b2h CS CB CT):=by
 have G_of:aX P w K mg base aJ 2 CS "board_of" ["self","table"] (uP CS CB CT):=kQ T Y
 have G_has:aX P w K mg base aJ 2 CB "has_column" ["self","column"] (a9Z CB CT):=pM T W
 refine Y.m_board_with.known b0O (fun _ _ _ _ _ _ us hl=>iB (fun _ _ _=>rfl) us hl) (fun vs H Q E h=> ?_) (fun f cdv A outer s H vs Q E hr h=> ?_)
 ·obtain⟨s',bd,ch,fi,dx,kb,nm,t,B,rfl,_⟩:=h
  rfl
 ·obtain⟨s',bd,ch,fi,dx,kb,nm,t,B,rfl,h1,h2,hn,hv,hB,ht,ho,q⟩:=h
  refine⟨_,(aM (cQ (i:=3) b0O.nd rfl (Or.inl rfl) (dR (pv 0) Y.cl G_of hr bA (aA (pv 1) aE)))
   (aM (bL (dG (dL (dR (pv 3) W.cl G_has hr bA (aA (pv 2) aE)) (fun _=>rfl))) (aK dP) bO)
   (aK (bK (pv 3))))),?_⟩
  refine⟨_,rfl,s',dx,_,rfl,h1,fX,_,rfl,s',bd,ch,fi,dx,kb,nm,_,rfl,h1,h2,hn,hv,fun H1 s1=> ?_⟩
  have hB1:=hB.same s1
  obtain⟨dB,b1⟩:=hB1.at_
  refine⟨_,rfl,B.b,dB,_,rfl,b1,tO,_,rfl,B,t,rfl,hB1,ht,fun H2 s2=>⟨_,rfl,?_⟩⟩
  rw[decide_eq_true ho]
  exact aZ ⟨_,rfl,q _ (s1.trans s2)⟩
def b0S(CS CB CT:Addr):Sp:=fun vs H Q _=>∃(s bd ch fi dx:Addr) (kb:List (aI×V)) (nm t:Str) (B:BM),vs= [.ref s,.str nm,.str t] /\H s=some (.ins CS dx (eF bd ch fi))/\H bd=some (.dK kb)/\Nl nm/\cE kb (.inr nm:aI)=some (.ref B.b)/\cN CB CT H B/\Nl t/\B.ord.length<8/\∀H',aD H H'->Q (.ref B.b) H'
theorem b0I:bB ["self","table","column","board"] ["self","table","column"] (aC rX):=⟨rfl,rfl,rfl,by decide+kernel,rfl,by decide+kernel,by decide+kernel⟩
theorem nP(T:bD K mg){CS CB CT:Addr}(Y:dA K mg CS)(W:cT K mg CB):aX P w K mg base aJ 3 CS "board_for" ["self","table","column"] (b0S CS CB CT):=by
 have G_of:aX P w K mg base aJ 2 CS "board_of" ["self","table"] (uP CS CB CT):=kQ T Y
 have G_is_name:bG P w K mg base aJ 1 "is_name" ["thing"] (iS K):=gL T
 refine Y.m_board_for.known b0I (fun _ _ _ _ _ _ us hl=>iB (fun _ _ _=>rfl) us hl) (fun vs H Q E h=> ?_) (fun f cdv A outer s H vs Q E hr h=> ?_)
 ·obtain⟨s',bd,ch,fi,dx,kb,nm,t,B,rfl,_⟩:=h
  rfl
 ·obtain⟨s',bd,ch,fi,dx,kb,nm,t,B,rfl,h1,h2,hn,hv,hB,ht,ho,q⟩:=h
  refine⟨_,(aM (cQ (i:=3) b0I.nd rfl (Or.inl rfl) (dR (pv 0) Y.cl G_of hr bA (aA (pv 1) aE)))
   (aM (bL (dG (dL (bZ G_is_name (hr.mono (by decide)) bA (aA (pv 2) aE)) (fun _=>rfl))) (aK dP) bO)
   (aM (bL (PW.pt (mR (bP rP (pv 2) (bH (pv 3) rfl) (by with_unfolding_all rfl)) (lP (bP a67 (bN lL rfl T.len gX (aA (bH (pv 3) rfl) aE)) (rK T.g_MOST_COLUMNS) (cI _))))) (aK dP) bO)
   (aK (bK (pv 3)))))),?_⟩
  refine⟨_,rfl,s',dx,_,rfl,h1,fX,_,rfl,s',bd,ch,fi,dx,kb,nm,_,rfl,h1,h2,hn,hv,fun H1 s1=> ?_⟩
  have h8:=ht.2.1
  refine⟨_,rfl,_,.str t,rfl,.str t,jL (by omega),fun H2 s2=>⟨_,rfl,?_⟩⟩
  rw[show eG (.str t)=true from ht.name]
  obtain⟨⟨dB,b1⟩,_,_,_,o1⟩:=(hB.same s1).same s2
  refine aZ ⟨_,rfl,_,rfl,B.b,CB,dB,_,_,rfl,b1,W.cl,W.n_order,(fY _ _ _ _).2.2.2,B.od,_,rfl,.inl (aS.of o1),rfl,gN _,_,rfl,?_⟩
  have fin:Q (.ref B.b) H2:=q _ (s1.trans s2)
  refine eM (fun _=> ?_) (fun _=> ?_)
  ·refine⟨_,rfl,B.b,CB,dB,_,_,rfl,b1,W.cl,W.n_order,(fY _ _ _ _).2.2.2,_,_,rfl,.inl ⟨_,aS.of o1,rfl⟩,_,_,rfl,rfl,_,rfl,?_⟩
   rw[List.length_map,decide_eq_false (show¬(B.ord.length:Int)>=8 by omega)]
   exact aZ ⟨_,rfl,fin⟩
  ·exact aZ ⟨_,rfl,fin⟩
end
theorem b3Y{C CB CT:Addr}:pW (spTT C CB CT):=fun vs H Q Q' hQ h=>by
 obtain⟨p,dx,bd,nm,m,kb,e1,e2,e3,e4,e5,q⟩:=h
 exact⟨p,dx,bd,nm,m,kb,e1,e2,e3,e4,e5,fun H' b g r e ru me od a1 a2 a3 a4 a5=>hQ _ _ (q H' b g r e ru me od a1 a2 a3 a4 a5)⟩
theorem b3h{K:Fg}{CB CT:Addr}:pW (a2Y K CB CT):=fun vs H Q Q' hQ h=>by
 obtain⟨B,t,a,ys,ds,e1,e2,e3,e4,e5,e6,e7,e8,e9,e10,e11,e12,q⟩:=h
 exact⟨B,t,a,ys,ds,e1,e2,e3,e4,e5,e6,e7,e8,e9,e10,e11,e12,fun H' l a1 a2 a3 a4=>hQ _ _ (q H' l a1 a2 a3 a4)⟩
theorem b3Z{C CB CT:Addr}{sp:Sp}(h:pW sp):pW (spCS C CB CT sp):=fun vs H Q Q' hQ g=>by
 obtain⟨p,dx,a,B,t,e1,e2,e3,e4,q⟩:=g
 exact⟨p,dx,a,B,t,e1,e2,e3,e4,h _ _ _ _ (fun v H' z=>hQ _ _ z) q⟩
theorem jV{H:Hp}{a b:Addr}{o:HO}(h:upd H a o b=none):H b=none/\b≠a:=by
 have:b≠a:=fun y=>by rw[y,aG]at h;cases h
 rw[aH this]at h
 exact⟨h,this⟩
section
variable{P:Program}{w:World}{K:Fg}{mg:Str->Option Value}{base:Heap}
theorem b3m(bd ch fi:Addr):aF "finder" (.ref fi) (aF "changes" (.ref ch) (aF "boards" (.ref bd) []))=eF bd ch fi:=by
 rfl
def spSI(CS CF:Addr):Sp:=fun vs H Q _=>∃(p dx:Addr),vs= [.ref p] /\H p=some (.ins CS dx [])/\
 ∀H' bd ch fi fd lk df,(∀x∈ [bd,ch,fi,fd,lk],H x=none)->fd≠lk->H' p=some (.ins CS dx (eF bd ch fi))->H' bd=some (.dK [])->H' ch=some (.lst [])->H' fi=some (.ins CF df (sL bd fd lk))->H' fd=some (.dT [])->H' lk=some (.dT [])->kK p H H'->Q .non H'
theorem b5L:bB ["self"] ["self"] (aC nY):=⟨rfl,rfl,rfl,by decide+kernel,rfl,by decide+kernel,by decide+kernel⟩
theorem oF(T:bD K mg){CS CF:Addr}(Y:dA K mg CS)(Z:lA K mg CF):cA P w K mg base aJ 3 CS ["self"] (spSI CS CF):=by
 have GI:cA P w K mg base aJ 1 CF ["self","boards"] (spFI CF):=mE T Z
 refine(Y.m_init.known b5L (fun _ _ _ _ _ _ us hl=>dM (fun _=>rfl) us hl) (fun vs H Q E h=> ?_) (fun f cdv A outer s H vs Q E hr h=> ?_)).init Y.mks Y.kc
 ·obtain⟨p,dx,rfl,_⟩:=h
  rfl
 ·obtain⟨p,dx,rfl,hp,q⟩:=h
  refine⟨_,(aM (bQ (pv 0) tX rfl)
   (aM (bQ (pv 0) (eI aE) rfl)
   (aK (bQ (pv 0) (fJ GI hr Z.c bA (aA (bH (pv 0) rfl) aE)) rfl)))),?_⟩
  intro bd hbd
  have s1:=aD.new (o:=.dK []) hbd
  have b1:upd H bd (.dK []) bd=some (.dK []):=aG
  have n1:∀{b:Addr},upd H bd (.dK []) b=none->H b=none/\b≠bd:=jV
  generalize upd H bd (.dK [])=H1 at s1 b1 n1|-
  refine⟨_,rfl,p,CS,dx,[],rfl,s1 _ _ hp,Y.cl,Y.n_boards,(by show 0<1000;decide),?_⟩
  have u2:kK p H1 (upd H1 p (.ins CS dx (aF "boards" (.ref bd) []))):=fun b o n z=>by rw[aH n];exact z
  have p2:upd H1 p (.ins CS dx (aF "boards" (.ref bd) [])) p=some (.ins CS dx (aF "boards" (.ref bd) [])):=aG
  have n2:∀{b:Addr},upd H1 p (.ins CS dx (aF "boards" (.ref bd) [])) b=none->H1 b=none/\b≠p:=jV
  generalize upd H1 p (.ins CS dx (aF "boards" (.ref bd) []))=H2 at u2 p2 n2|-
  refine⟨sl,fun ch hch=> ?_⟩
  have s3:=aD.new (o:=.lst []) hch
  have c3:upd H2 ch (.lst []) ch=some (.lst []):=aG
  have n3:∀{b:Addr},upd H2 ch (.lst []) b=none->H2 b=none/\b≠ch:=jV
  generalize upd H2 ch (.lst [])=H3 at s3 c3 n3|-
  refine⟨_,rfl,p,CS,dx,_,rfl,s3 _ _ p2,Y.cl,Y.n_changes,(by show 1<1000;decide),?_⟩
  have u4:kK p H3 (upd H3 p (.ins CS dx (aF "changes" (.ref ch) (aF "boards" (.ref bd) [])))):=fun b o n z=>by rw[aH n];exact z
  have p4:upd H3 p (.ins CS dx (aF "changes" (.ref ch) (aF "boards" (.ref bd) []))) p=some (.ins CS dx (aF "changes" (.ref ch) (aF "boards" (.ref bd) []))):=aG
  have n4:∀{b:Addr},upd H3 p (.ins CS dx (aF "changes" (.ref ch) (aF "boards" (.ref bd) []))) b=none->H3 b=none/\b≠p:=jV
  generalize upd H3 p (.ins CS dx (aF "changes" (.ref ch) (aF "boards" (.ref bd) [])))=H4 at u4 p4 n4|-
  have npb:bd≠p:=fun y=>by rw[y,hp]at hbd;cases hbd
  have npc:ch≠p:=fun y=>by rw[y,p2]at hch;cases hch
  refine⟨_,rfl,p,CS,dx,_,_,rfl,p4,Y.cl,Y.n_boards,(show List.lookup ("boards":Str) (aF "changes" (V.ref ch) (aF "boards" (V.ref bd) []))=some (.ref bd) from rfl),?_⟩
  intro fi df hfi hdf ne
  refine⟨fi,df,bd,rfl,aG,fun H5 fd lk hfd hlk nfl g1 g2 g3 b5=>⟨rfl,?_⟩⟩
  have s5:aD H4 H5:=fun b o z=>b5 b o (aU z hfi) (by rw[aH (aU z hfi),aH (aU z hdf)];exact z)
  have fr:∀{x:Addr},upd (upd H4 df (.own fi)) fi (.ins CF df []) x=none->H4 x=none:=fun{x} z=>(jV (jV z).1).1
  refine⟨_,rfl,p,CS,dx,_,rfl,s5 _ _ p4,Y.cl,Y.n_finder,(by show 2<1000;decide),?_⟩
  rw[b3m]
  have u6:kK p H5 (upd H5 p (.ins CS dx (eF bd ch fi))):=fun b o n z=>by rw[aH n];exact z
  have dn:∀{x:Addr},H4 x=none->H x=none/\x≠p:=fun z=>⟨(n1 (n2 (n3 (n4 z).1).1).1).1,(n4 z).2⟩
  have cW:=dn (fr hfd)
  have frl:=dn (fr hlk)
  have frf:=dn hfi
  have hc0:H ch=none:=(n1 (n2 hch).1).1
  refine q _ bd ch fi fd lk df (fun x hx=> ?_) nfl aG (u6 _ _ npb (s5 _ _ (u4 _ _ npb (s3 _ _ (u2 _ _ npb b1))))) (u6 _ _ npc (s5 _ _ (u4 _ _ npc c3))) (u6 _ _ frf.2 g1) (u6 _ _ cW.2 g2) (u6 _ _ frl.2 g3) (fun b o n z=>u6 _ _ n (s5 _ _ (u4 _ _ n (s3 _ _ (u2 _ _ n (s1 _ _ z))))))
  simp only[List.mem_cons,List.not_mem_nil,or_false]at hx
  rcases hx with rfl|rfl|rfl|rfl|rfl
  ·exact hbd
  ·exact hc0
  ·exact frf.1
  ·exact cW.1
  ·exact frl.1
def vI(CS:Addr)(s bd ch:Addr)(cs:List V)(kb:List (aI×V))(H:Hp):Prop:=(∃dx fi,H s=some (.ins CS dx (eF bd ch fi)))/\H ch=some (.lst cs)/\H bd=some (.dK kb)
def b1q(CS CF:Addr)(s bd ch fi fd lk:Addr)(cs:List V)(kb:List (aI×V))(H0 H:Hp):Prop:=(∃dx,H s=some (.ins CS dx (eF bd ch fi)))/\H ch=some (.lst cs)/\H bd=some (.dK kb)/\(∃df,H fi=some (.ins CF df (sL bd fd lk)))/\H fd=some (.dT [])/\H lk=some (.dT [])/\fd≠lk/\H0 fi=none/\H0 fd=none/\H0 lk=none
def a9R(CS CF CB CT:Addr):Sp:=fun vs H Q _=>∃(s bd ch:Addr) (cs:List V) (kb:List (aI×V)) (nm:Str) (m:Nat),vs= [.ref s,.str nm,.int (m:Int)] /\vI CS s bd ch cs kb H/\cs.length<900/\kb.length<4/\Nl nm/\cE kb (.inr nm:aI)=none/\m<=30/\
 ∀H' fi fd lk c b g r e ru me od,b1q CS CF s bd ch fi fd lk (cs++ [.ref c]) (cC kb (.inr nm:aI) (.ref b)) H H'->cN CB CT H' ⟨b,g,r,e,ru,me,od,fP 0 m,(m:Int),[],[],[],[]⟩ ->BM.sep ⟨b,g,r,e,ru,me,od,fP 0 m,(m:Int),[],[],[],[]⟩ ->(∀x∈ [b,g,r,e,ru,me,od],H x=none)->(∀x o,x≠s->x≠ch->x≠bd->H x=some o->H' x=some o)->Q .non H'
theorem b2i:bB ["self","name","many"] ["self","name","many"] (aC qN):=⟨rfl,rfl,rfl,by decide+kernel,rfl,by decide+kernel,by decide+kernel⟩
theorem nW(T:bD K mg){CS CF CB CT CC:Addr}(Y:dA K mg CS)(Z:lA K mg CF)(W:cT K mg CB)(U:eL K mg CT)(C:rH K mg CC):aX P w K mg base aJ 9 CS "table" ["self","name","many"] (a9R CS CF CB CT):=by
 have G_is_name:bG P w K mg base aJ 1 "is_name" ["thing"] (iS K):=gL T
 have G_size:bG P w K mg base aJ 2 "check_size" ["many"] zG:=mJ T
 have GI:cA P w K mg base aJ 1 CC ["self","boards","name","size"] (a9N CC):=rL T C
 have G_make:aX P w K mg base aJ 8 CS "make" ["self","change"] (spMk CS CF CC (spTT CC CB CT)):=mW T Y Z C.cl b3Y (rN T C W U)
 refine Y.m_table.known b2i (fun _ _ _ _ _ _ us hl=>iB (fun _ _ _=>rfl) us hl) (fun vs H Q E h=> ?_) (fun f cdv A outer s H vs Q E hr h=> ?_)
 ·obtain⟨s',bd,ch,cs,kb,nm,m,rfl,_⟩:=h
  rfl
 ·obtain⟨s',bd,ch,cs,kb,nm,m,rfl,hS,cl,kl,hn,hv,hm,q⟩:=h
  have hu:=fB hr
  refine⟨_,(aM (bL (PW.pt (eS (dG (dL (bZ G_is_name (hr.mono (by decide)) bA (aA (pv 1) aE)) (fun _=>rfl))) (eV (kO (a5N hu (pv 1) (bH (pv 0) rfl)))))) (aK dP) bO)
   (aM (dC (bZ G_size (hr.mono (by decide)) bA (aA (pv 2) aE)))
   (aM (bL (bP a67 (bN a9E rfl T.len gX (aA (bH (pv 0) rfl) aE)) (rK T.g_MOST_TABLES) (cI _)) (aK dP) bO)
   (aK (dC (dR (pv 0) Y.cl G_make hr bA (aA (fJ GI (hr.mono (by decide)) C.c bA (aA (bH (pv 0) rfl) (aA (pv 1) (aA (pv 2) aE)))) aE))))))),?_⟩
  have h8:=hn.2.1
  obtain⟨⟨dx,fi0,h1⟩,h2,h3⟩:=hS
  obtain⟨a1,a2,a3,a4⟩:=nE bd ch fi0
  refine⟨_,rfl,_,.str nm,rfl,.str nm,jL (by omega),fun H0 s9=>⟨_,rfl,?_⟩⟩
  rw[show eG (.str nm)=true from hn.name]
  have h1:=s9 _ _ h1
  have h2':=s9 _ _ h2
  have h3':=s9 _ _ h3
  refine aZ ⟨_,rfl,_,rfl,s',CS,dx,_,_,rfl,h1,Y.cl,Y.n_boards,a1,bd,_,rfl,cP.k (k:=Sum.inr nm) h3',_,rfl,?_⟩
  rw[hv]
  refine aZ ⟨_,rfl,m,rfl,hm,?_⟩
  refine⟨_,rfl,s',CS,dx,_,_,rfl,h1,Y.cl,Y.n_boards,a1,bd,kb,rfl,h3',_,_,rfl,rfl,_,rfl,?_⟩
  refine eM (fun g=>absurd (of_decide_eq_true g) (by omega)) (fun g=> ?_)
  refine⟨_,rfl,s',dx,_,rfl,h1,fX,_,rfl,s',CS,dx,_,_,rfl,h1,Y.cl,Y.n_boards,a1,_,rfl,_,rfl,?_⟩
  intro c dc hc hdc ne
  refine⟨c,dc,bd,nm,m,rfl,aG,fun H1 b1 c1=>⟨rfl,?_⟩⟩
  have s1:aD H0 H1:=fun b o z=>b1 b o (aU z hc) (by rw[aH (aU z hc),aH (aU z hdc)];exact z)
  refine⟨s',c,bd,ch,fi0,dx,dc,cs,_,rfl,c1,(uT _ _ _).2.2.2,c,dc,bd,nm,m,kb,rfl,c1,s1 _ _ h3',by omega,hm,fun H2 b g r e ru me od B2 sp2 fr2 bd2 u2=> ?_⟩
  have ns:s'≠bd:=fun y=>by rw[y,h3']at h1;cases h1
  have nc:ch≠bd:=fun y=>by rw[y,h3']at h2';cases h2'
  have nsc:s'≠ch:=fun y=>by rw[y,h2']at h1;cases h1
  refine⟨u2 _ _ ns (s1 _ _ h1),u2 _ _ nc (s1 _ _ h2'),cl,fun H3 fi fd lk df f1 f2 f3 nfl g1 g2 g3 g4 g5 u3=> ?_⟩
  have n0:∀{x:Addr},H2 x=none->H x=none:=fun{x} e=>by
   cases e2:H x with
   |none=>rfl
   |some o=>
    by_cases y:x=bd
    ·rw[y,bd2]at e;cases e
    ·rw[u2 _ _ y (s1 _ _ (s9 _ _ e2))]at e;cases e
  have k3:∀{x:Addr} {o:HO},H2 x=some o->x≠s'->x≠ch->H3 x=some o:=fun e n m=>u3 _ _ n m e
  have fr:∀x∈ [b,g,r,e,ru,me,od],H x=none:=fun x hx=>gH (s9.trans s1) (fr2 x hx)
  have nb:∀{x:Addr},x∈ [b,g,r,e,ru,me,od] ->x≠s'/\x≠ch:=fun hx=>⟨fun y=>by{have:=s1 _ _ h1;rw[<- y,fr2 _ hx]at this;cases this},fun y=>by{have:=s1 _ _ h2';rw[<- y,fr2 _ hx]at this;cases this}⟩
  obtain⟨⟨d1,e1⟩,⟨⟨d2,e2⟩,e3,e4⟩,e5,e6,e7⟩:=B2
  have kb2:∀{x:Addr} {o:HO},x∈ [b,g,r,e,ru,me,od] ->H2 x=some o->H3 x=some o:=fun hx e=>k3 e (nb hx).1 (nb hx).2
  exact q H3 fi fd lk c b g r e ru me od ⟨⟨dx,g1⟩,g2,k3 bd2 ns.symm nc.symm,⟨df,g3⟩,g4,g5,nfl,n0 f1,n0 f2,n0 f3⟩ ⟨⟨d1,kb2 (by simp) e1⟩,⟨⟨d2,kb2 (by simp) e2⟩,kb2 (by simp) e3,kb2 (by simp) e4⟩,kb2 (by simp) e5,kb2 (by simp) e6,kb2 (by simp) e7⟩ sp2 fr (fun x o n1 n2 n3 e=>k3 (u2 _ _ n3 (s1 _ _ (s9 _ _ e))) n1 n2)
theorem cN.off{CS CB CT s ch:Addr}{cs:List V}{H H':Hp}{B:BM}(h:cN CB CT H B)(hs:∃dx bd ch' fi,H s=some (.ins CS dx (eF bd ch' fi)))(hc:H ch=some (.lst cs))(n1:ch≠B.r)(n2:ch≠B.od)(u:∀x o,x≠s->x≠ch->H x=some o->H' x=some o):cN CB CT H' B:=by
 obtain⟨dx,bd,ch',fi,hs⟩:=hs
 obtain⟨⟨d1,e1⟩,⟨⟨d2,e2⟩,e3,e4⟩,e5,e6,e7⟩:=h
 have k:∀{x:Addr} {o:HO},H x=some o->(∀a b c,o≠ .ins a b c)->x≠ch->H' x=some o:=fun e n m=>u _ _ (fun y=>by rw[y,hs]at e;exact n _ _ _ (Option.some.inj e).symm) m e
 have nc:∀{x:Addr} {o:HO},H x=some o->(∀a,o≠ .lst a)->x≠ch:=fun e n y=>by rw[y,hc]at e;exact n _ (Option.some.inj e).symm
 refine⟨⟨d1,u _ _ (b38 e1 hs (show 4≠3 by decide)) (nc e1 (fun _ y=>by cases y)) e1⟩,⟨⟨d2,u _ _ (fun y=> ?_) (nc e2 (fun _ y=>by cases y)) e2⟩,k e3 (fun _ _ _ y=>by cases y) n1.symm,k e4 (fun _ _ _ y=>by cases y) (nc e4 (fun _ y=>by cases y))⟩,k e5 (fun _ _ _ y=>by cases y) (nc e5 (fun _ y=>by cases y)),k e6 (fun _ _ _ y=>by cases y) (nc e6 (fun _ y=>by cases y)),k e7 (fun _ _ _ y=>by cases y) n2.symm⟩
 rw[y,hs]at e2
 cases e2
structure b4l(bd ch:Addr)(B:BM):Prop where
 r:ch≠B.r
 o:ch≠B.od
 e:bd≠B.e
 u:bd≠B.ru
 m:bd≠B.me
def b0M(K:Fg)(CS CF CB CT:Addr):Sp:=fun vs H Q _=>∃(s bd ch a:Addr) (cs:List V) (kb:List (aI×V)) (nm t:Str) (ys:List V) (ds:List PyData) (B:BM),vs= [.ref s,.str nm,.str t,.ref a] /\vI CS s bd ch cs kb H/\cs.length<900/\Nl nm/\cE kb (.inr nm:aI)=some (.ref B.b)/\cN CB CT H B/\B.sep/\b4l bd ch B/\vE B t/\Nl t/\H a=some (.lst ys)/\a≠B.od/\fM K H ys ds/\ys.length=B.xs.length/\ys.length<=30/\B.kvs.length<8/\B.ord.length<8/\
 ∀H' fi fd lk c l,b1q CS CF s bd ch fi fd lk (cs++ [.ref c]) kb H H'->H l=none->cN CB CT H' {B with kvs:=cC B.kvs (.inr t:aI) (.ref l),ord:=B.ord++ [t]} ->H' l=some (.lst ys)->(∀x o,x≠s->x≠ch->x≠B.od->x≠B.e->H x=some o->H' x=some o)->Q .non H'
theorem b1n:bB ["self","table","column","values","board"] ["self","table","column","values"] (aC qC):=⟨rfl,rfl,rfl,by decide+kernel,rfl,by decide+kernel,by decide+kernel⟩
theorem qV(T:bD K mg){CS CF CB CT CC:Addr}(Y:dA K mg CS)(Z:lA K mg CF)(W:cT K mg CB)(U:eL K mg CT)(C:pN K mg CC):aX P w K mg base aJ 9 CS "give" ["self","table","column","values"] (b0M K CS CF CB CT):=by
 have G_for:aX P w K mg base aJ 3 CS "board_for" ["self","table","column"] (b0S CS CB CT):=nP T Y W
 have G_many:aX P w K mg base aJ 1 CT "many" ["self"] (lT CT):=jN T U
 have G_cv:bG P w K mg base aJ 4 "check_values" ["values","many"] (a5h K):=mQ T
 have GI:cA P w K mg base aJ 1 CC ["self","board","column","content"] (b0K CC):=qT T C
 have G_make:aX P w K mg base aJ 8 CS "make" ["self","change"] (spMk CS CF CC (spCS CC CB CT (a2Y K CB CT))):=mW T Y Z C.cl (b3Z b3h) (pC T C W (b2L T W U))
 refine Y.m_give.known b1n (fun _ _ _ _ _ _ us hl=>rB (fun _ _ _ _=>rfl) us hl) (fun vs H Q E h=> ?_) (fun f cdv A outer s H vs Q E hr h=> ?_)
 ·obtain⟨s',bd,ch,a,cs,kb,nm,t,ys,ds,B,rfl,_⟩:=h
  rfl
 ·obtain⟨s',bd,ch,a,cs,kb,nm,t,ys,ds,B,rfl,hS,cl,hn,hv,hB,sep,ss,new,ht,ha,nao,hp,ly,l30,k8,o8,q⟩:=h
  refine⟨_,(aM (cQ (i:=4) b1n.nd rfl (Or.inl rfl) (dR (pv 0) Y.cl G_for (hr.mono (by decide)) bA (aA (pv 1) (aA (pv 2) aE))))
   (aM (dC (bZ G_cv (hr.mono (by decide)) bA (aA (pv 3) (aA (jU (bH (pv 4) rfl) U.cl G_many (hr.mono (by decide)) bA) aE))))
   (aK (dC (dR (pv 0) Y.cl G_make hr bA (aA (fJ GI (hr.mono (by decide)) C.c bA (aA (pv 4) (aA (pv 2) (aA (pv 3) aE)))) aE)))))),?_⟩
  obtain⟨⟨dx,fi0,h1⟩,h2,h3⟩:=hS
  refine⟨_,rfl,s',dx,_,rfl,h1,fX,_,rfl,_,rfl,s',bd,ch,fi0,dx,kb,nm,t,B,rfl,h1,h3,hn,hv,hB,ht,o8,fun H1 s1=> ?_⟩
  obtain⟨dB,b1⟩:=(hB.same s1).at_
  obtain⟨dT,t1⟩:=(hB.same s1).tab.at_
  refine⟨_,rfl,_,rfl,B.b,CB,dB,_,_,rfl,b1,W.cl,W.n_given,(fY _ _ _ _).1,B.g,dT,_,rfl,t1,lJ,B.g,B.r,B.e,B.xs,B.n,B.kvs,rfl,(hB.same s1).tab,?_⟩
  refine⟨a,ys,ds,by rw[ly];rfl,aS.of (s1 _ _ ha),hp.keep (gP.of s1),by omega,fun H2 s2=> ?_⟩
  have s12:=s1.trans s2
  refine⟨_,rfl,s',dx,_,rfl,s12 _ _ h1,fX,_,rfl,_,rfl,_,rfl,?_⟩
  intro c dc hc hdc ne
  refine⟨c,dc,B.b,a,t,rfl,aG,fun H3 b3 c3=>⟨rfl,?_⟩⟩
  have s3:aD H H3:=fun b o z=>b3 b o (aU (s12 _ _ z) hc) (by rw[aH (aU (s12 _ _ z) hc),aH (aU (s12 _ _ z) hdc)];exact s12 _ _ z)
  have hB3:=hB.same s3
  refine⟨s',c,bd,ch,fi0,dx,dc,cs,_,rfl,c3,(a9o _ _ _).2.2.2.1,c,dc,a,B,t,rfl,c3,hB3,new,B,t,a,ys,ds,rfl,hB3,sep,new,ht,s3 _ _ ha,nao,hp.keep (gP.of s3),ly,l30,k8,by omega,fun H4 l hl B4 l4 u4=> ?_⟩
  have hB0:=hB.ord
  have he0:=hB.tab.kept
  have k4:∀{x:Addr} {o:HO},H x=some o->x≠B.od->x≠B.e->H4 x=some o:=fun e n m=>u4 _ _ n m (s3 _ _ e)
  have ns:s'≠B.od/\s'≠B.e:=⟨fun y=>by{rw[y,hB0]at h1;cases h1},fun y=>by{rw[y,he0]at h1;cases h1}⟩
  have nce:ch≠B.e:=fun y=>by rw[y,he0]at h2;cases h2
  have nbo:bd≠B.od:=fun y=>by rw[y,hB0]at h3;cases h3
  have ns4:=k4 h1 ns.1 ns.2
  have ch4:=k4 h2 ss.o nce
  refine⟨ns4,ch4,cl,fun H5 fi fd lk df f1 f2 f3 nfl g1 g2 g3 g4 g5 u5=> ?_⟩
  have nn:∀{x:Addr},H4 x=none->H x=none:=fun{x} e=>by
   cases e2:H x with
   |none=>rfl
   |some o=>
    by_cases y:x=B.od
    ·rw[y,B4.ord]at e;cases e
    ·by_cases y2:x=B.e
     ·rw[y2,B4.tab.kept]at e;cases e
     ·rw[k4 e2 y y2]at e;cases e
  have hl0:H l=none:=gH s3 hl
  have nl:l≠s'/\l≠ch:=⟨fun y=>by{rw[y,h1]at hl0;cases hl0},fun y=>by{rw[y,h2]at hl0;cases hl0}⟩
  have nb:bd≠s'/\bd≠ch:=⟨fun y=>by{rw[y,h1]at h3;cases h3},fun y=>by{rw[y,h2]at h3;cases h3}⟩
  exact q H5 fi fd lk c l ⟨⟨dx,g1⟩,g2,u5 _ _ nb.1 nb.2 (k4 h3 nbo ss.e),⟨df,g3⟩,g4,g5,nfl,nn f1,nn f2,nn f3⟩ hl0 (B4.off ⟨dx,bd,ch,fi0,ns4⟩ ch4 ss.r ss.o u5) (u5 _ _ nl.1 nl.2 l4) (fun x o n1 n2 n3 n4 e=>u5 _ _ n1 n2 (k4 e n3 n4))
end
end My
namespace L2
open PySem PySem.Spec PyProof.Rows
theorem a9U{K:Fg}{cp:List (Nat×Str)}{tt:TT}{te:TE}{σ:St}{a:Addr}{xs:List V}{D:Addr}{Q:VK}{H1:Hp}(Pv:Nat->List V->Hp->Prop)(h0:Pv 0 [] (upd H1 D (.lst [])))
 (hl:∀i ys H,H D=some (.lst ys)->Pv i ys H->aS K H a xs)
 (hs:∀i x ys H,xs[i]?=some x->H D=some (.lst ys)->Pv i ys H->tt (some x::cO cp σ) H fun b H4=>if b=true then te (some x::cO cp σ) H4 (kN D Pv i ys) else∃ys',H4 D=some (.lst ys')/\Pv (i+ 1) ys' H4)
 (hd:∀ys H,H D=some (.lst ys)->Pv xs.length ys H->Q (.ref D) H):mL cp tt te σ (kC K a) D Q H1:=by
 refine⟨fun i m H=>m=xs.length- i/\i<=xs.length/\∃ys,H D=some (.lst ys)/\Pv i ys H,⟨xs.length,by simp,Nat.zero_le _,[],aG,h0⟩,?_⟩
 rintro i m H ⟨rfl,hi,ys,hD,p⟩
 by_cases hlt:i<xs.length
 ·refine .inr ⟨⟨xs,xs[i],hl i ys H hD p,by simp[hlt]⟩,kN D Pv i ys,fun H4=>∃ys',H4 D=some (.lst ys')/\Pv (i+ 1) ys' H4,fun y H5 ⟨h1,h2,h3⟩=>⟨ys,xs.length- (i+ 1),h1,h2,by omega,rfl,hlt,_,aG,h3⟩,fun H4 ⟨ys',h1,h2⟩=>⟨xs.length- (i+ 1),by omega,rfl,hlt,ys',h1,h2⟩,fun v H' y=> ?_⟩
  obtain⟨e,y⟩:=y
  subst e
  exact hs i v ys _ (y xs (hl i ys _ hD p)) hD p
 ·have e:i=xs.length:=by omega
  subst e
  exact .inl ⟨⟨xs,hl _ ys H hD p,Nat.le_refl _⟩,hd ys H hD p⟩
end L2
namespace My
open PySem L2
theorem a9C(f:Str->Bool)(cs:List Str)(i:Nat)(c:Str)(h:cs[i]?=some c):(cs.take (i+ 1)).filter f=(cs.take i).filter f++ (if f c=true then [c] else []):=by
 rw[List.take_add_one,h,List.filter_append]
 congr 1
 show [c].filter f=_
 by_cases e:f c=true
 ·rw[if_pos e];simp[e]
 ·rw[if_neg e];simp[e]
def aR(nm:Str):List Str:=if nm= "one" then ["a","b","key"] else ["b","key","c"]
def bX(nm:Str):Bool:=nm== "one"||nm== "two"
theorem iA{nm:Str}(h:bX nm=true):nm= "one"\/ nm= "two":=by
 unfold bX at h
 rw[Bool.or_eq_true,beq_iff_eq,beq_iff_eq]at h
 exact h
theorem uK{nm:Str}(h:bX nm=true):Nl nm:=by
 rcases iA h with rfl|rfl
 ·unfold Nl;decide+kernel
 ·unfold Nl;decide+kernel
structure Sx(CS CB CT s:Addr)(H:Hp):Prop where
 ex:∃(bd ch fi dx:Addr) (kb:List (aI×V)),H s=some (.ins CS dx (eF bd ch fi))/\H bd=some (.dK kb)/\(∀nm,bX nm=true->∃B:BM,cE kb (.inr nm:aI)=some (.ref B.b)/\cN CB CT H B/\B.ord=aR nm)/\∀nm,bX nm=false->cE kb (.inr nm:aI)=none
theorem Sx.same{CS CB CT s:Addr}{H H':Hp}(h:Sx CS CB CT s H)(e:aD H H'):Sx CS CB CT s H':=by
 obtain⟨bd,ch,fi,dx,kb,h1,h2,h3,h4⟩:=h.ex
 refine⟨bd,ch,fi,dx,kb,e _ _ h1,e _ _ h2,fun nm hn=> ?_,h4⟩
 obtain⟨B,b1,b2,b3⟩:=h3 nm hn
 exact⟨B,b1,b2.same e,b3⟩
inductive VQ where
 |whole(a:Addr)(nm:Str)
 |via(k:Nat)(a:Addr)(v:VQ)
 |tog(a:Addr)(v u:VQ)
 |bes(a:Addr)(v:VQ)(nm:Str)
def VQ.a:VQ->Addr
 | .whole a _=>a
 | .via _ a _=>a
 | .tog a _ _=>a
 | .bes a _ _=>a
def VQ.sh:VQ->Nat
 | .whole _ _=>0
 | .via k _ _=>k
 | .tog _ _ _=>4
 | .bes _ _ _=>5
noncomputable def VQ.rk:VQ->Nat
 | .whole _ _=>0
 | .via _ _ v=>v.rk+ 1
 | .tog _ v u=>max v.rk u.rk+ 1
 | .bes _ v _=>v.rk+ 1
noncomputable def cR (nm c:Str):Str:=nm++ "." ++ c
noncomputable def VQ.cols:VQ->List Str
 | .whole _ nm=>aR nm
 | .via _ _ v=>v.cols
 | .tog _ v u=>v.cols.filter fun c=>decide (c∈u.cols)
 | .bes _ v nm=>v.cols++ (aR nm).map (cR nm)
noncomputable def wfl (s:Addr) (nm:Str):List (Str×V):=[("sheet",V.ref s),("name",V.str nm)]
noncomputable def jfl (a b:Addr):List (Str×V):=[("one",V.ref a),("other",V.ref b)]
structure Bf(v s:Addr)(nm:Str)(fs:List (Str×V)):Prop where
 vw:fs.lookup ("view":Str)=some (.ref v)
 sh:fs.lookup ("sheet":Str)=some (.ref s)
 nm:fs.lookup ("name":Str)=some (.str nm)
 co:fs.lookup ("columns":Str)=none
def VQ.At(C:Nat->Addr)(s:Addr)(H:Hp):VQ->Prop
 | .whole a nm=>bX nm=true/\∃dx,H a=some (.ins (C 0) dx (wfl s nm))
 | .via k a v=>(1<=k/\k<=3)/\(∃dx fs,H a=some (.ins (C k) dx fs)/\fs.lookup ("view":Str)=some (.ref v.a)/\fs.lookup ("columns":Str)=none)/\v.At C s H
 | .tog a v u=>(∃dx,H a=some (.ins (C 4) dx (jfl v.a u.a)))/\v.At C s H/\u.At C s H
 | .bes a v nm=>bX nm=true/\(∃dx fs,H a=some (.ins (C 5) dx fs)/\Bf v.a s nm fs)/\v.At C s H
theorem VQ.At.same{C:Nat->Addr}{s:Addr}{H H':Hp}(e:aD H H'):∀{v:VQ},v.At C s H->v.At C s H'
 | .whole a nm,h=>⟨h.1,h.2.imp fun _ x=>e _ _ x⟩
 | .via k a v,h=>⟨h.1,let ⟨dx,fs,x,y⟩:=h.2.1;⟨dx,fs,e _ _ x,y⟩,VQ.At.same e h.2.2⟩
 | .tog a v u,h=>⟨h.1.imp fun _ x=>e _ _ x,VQ.At.same e h.2.1,VQ.At.same e h.2.2⟩
 | .bes a v nm,h=>⟨h.1,let ⟨dx,fs,x,y⟩:=h.2.1;⟨dx,fs,e _ _ x,y⟩,VQ.At.same e h.2.2⟩
theorem VQ.At.ins{C:Nat->Addr}{s:Addr}{H:Hp}:∀{v:VQ},v.At C s H->v.sh<6/\∃dx fs,H v.a=some (.ins (C v.sh) dx fs)/\fs.lookup ("columns":Str)=none
 | .whole a nm,h=>⟨(show 0<6 by decide),let ⟨dx,x⟩:=h.2;⟨dx,_,x,rfl⟩⟩
 | .via k a v,h=>⟨Nat.lt_of_le_of_lt h.1.2 (by decide),let ⟨dx,fs,x,_,y⟩:=h.2.1;⟨dx,fs,x,y⟩⟩
 | .tog a v u,h=>⟨(show 4<6 by decide),let ⟨dx,x⟩:=h.1;⟨dx,_,x,rfl⟩⟩
 | .bes a v nm,h=>⟨(show 5<6 by decide),let ⟨dx,fs,x,y⟩:=h.2.1;⟨dx,fs,x,y.co⟩⟩
theorem kS(nm:Str):(aR nm).length=3:=by unfold aR;split<;>rfl
theorem VQ.len:∀v:VQ,v.cols.length<=3* (v.rk+ 1)
 | .whole a nm=>by show(aR nm).length<=_;rw[kS];exact Nat.le_refl 3
 | .via k a v=>Nat.le_trans (VQ.len v) (Nat.mul_le_mul_left 3 (Nat.le_succ _))
 | .tog a v u=>by
  have h1:=VQ.len v
  have h2:=List.length_filter_le (fun c=>decide (c∈u.cols)) v.cols
  show(v.cols.filter _).length<=3* (max v.rk u.rk+ 1+ 1)
  omega
 | .bes a v nm=>by
  have h1:=VQ.len v
  show(v.cols++ (aR nm).map _).length<=3* (v.rk+ 1+ 1)
  rw[List.length_append,List.length_map,kS]
  omega
section
variable{P:Program}{w:World}{K:Fg}{mg:Str->Option Value}{base:Heap}
structure Z6(K:Fg)(mg:Str->Option Value)(C:Nat->Addr):Prop where
 W:a9J K mg (C 0)
 S:b1u K mg (C 1)
 O:a92 K mg (C 2)
 U:TCut K mg (C 3)
 J:b1g K mg (C 4)
 B:b0e K mg (C 5)
theorem Z6.cl{C:Nat->Addr}(Z:Z6 K mg C):∀k,k<6->bV K (C k)
 |0,_=>Z.W.cl
 |1,_=>Z.S.cl
 |2,_=>Z.O.cl
 |3,_=>Z.U.cl
 |4,_=>Z.J.cl
 |5,_=>Z.B.cl
 |_+ 6,h=>absurd h (by omega)
def iG(C:Nat->Addr)(CS CB CT:Addr)(n k:Nat):Sp:=fun vs H Q _=>∃(s:Addr) (v:VQ),vs= [.ref v.a] /\v.sh=k/\v.rk<=n/\v.At C s H/\Sx CS CB CT s H/\∀H' l,aD H H'->H l=none->H' l=some (.lst (v.cols.map V.str))->Q (.ref l) H'
def RQ(C:Nat->Addr)(sp:Nat->Sp):Addr->Sp->Prop:=fun C' s=>∃k,k<6/\C'=C k/\s=sp k
theorem RQ.at{C:Nat->Addr}{sp:Nat->Sp}{k:Nat}(h:k<6):RQ C sp (C k) (sp k):=⟨k,h,rfl,rfl⟩
theorem RQ.k{C:Nat->Addr}{sp:Nat->Sp}{d:Nat}{m:Str}{ps:List Str}(Z:Z6 K mg C)(h:∀k,k<6->aX P w K mg base aJ d (C k) m ps (sp k)):∀C' s,RQ C sp C' s->bV K C'/\aX P w K mg base aJ d C' m ps s:=fun C' s ⟨k,hk,e1,e2⟩=>by
 subst e1 e2
 exact⟨Z.cl k hk,h k hk⟩
def a2v(CS CB CT:Addr):Sp:=fun vs H Q _=>∃(s:Addr) (nm:Str),vs= [.ref s,.str nm] /\Sx CS CB CT s H/\bX nm=true/\∀H' l,aD H H'->H l=none->H' l=some (.lst ((aR nm).map V.str))->Q (.ref l) H'
theorem b0Z:bB ["self","table"] ["self","table"] (aC oU):=⟨rfl,rfl,rfl,by decide+kernel,rfl,by decide+kernel,by decide+kernel⟩
theorem mY(T:bD K mg){CS CB CT:Addr}(Y:dA K mg CS)(W:cT K mg CB):aX P w K mg base aJ 3 CS "columns" ["self","table"] (a2v CS CB CT):=by
 have G_of:aX P w K mg base aJ 2 CS "board_of" ["self","table"] (uP CS CB CT):=kQ T Y
 refine Y.m_columns.known b0Z (fun _ _ _ _ _ _ us hl=>eY (fun _ _=>rfl) us hl) (fun vs H Q E h=> ?_) (fun f cdv A outer s H vs Q E hr h=> ?_)
 ·obtain⟨s',nm,rfl,_⟩:=h
  rfl
 ·obtain⟨s',nm,rfl,hx,hn,q⟩:=h
  obtain⟨bd,ch,fi,dx,kb,h1,h2,h3,_⟩:=hx.ex
  obtain⟨B,hv,hB,ho⟩:=h3 nm hn
  refine⟨_,(aK (bK (kY sQ rfl T.list kW (aA (bH (dR (pv 0) Y.cl G_of hr bA (aA (pv 1) aE)) rfl) aE)))),?_⟩
  refine⟨_,rfl,s',dx,_,rfl,h1,fX,_,rfl,s',bd,ch,fi,dx,kb,nm,_,rfl,h1,h2,uK hn,hv,fun H1 s1=> ?_⟩
  obtain⟨dB,b1⟩:=(hB.same s1).at_
  exact⟨B.b,CB,dB,_,_,rfl,b1,W.cl,W.n_order,(fY _ _ _ _).2.2.2,B.od,_,rfl,.inl (aS.of (hB.same s1).ord),fun l hl=>q _ l (s1.trans (aD.new hl)) (gH s1 hl) (by rw[<- ho];exact aG)⟩
theorem b3v:bB ["self"] ["self"] (aC rD):=⟨rfl,rfl,rfl,by decide+kernel,rfl,by decide+kernel,by decide+kernel⟩
theorem b01(T:bD K mg){C:Nat->Addr}{CS CB CT:Addr}(Y:dA K mg CS)(W:cT K mg CB)(Z:Z6 K mg C)(n:Nat):aX P w K mg base aJ 4 (C 0) "columns" ["self"] (iG C CS CB CT n 0):=by
 have G:aX P w K mg base aJ 3 CS "columns" ["self","table"] (a2v CS CB CT):=mY T Y W
 refine Z.W.m_columns.known b3v (fun _ _ _ _ _ _ us hl=>dM (fun _=>rfl) us hl) (fun vs H Q E h=> ?_) (fun f cdv A outer s1 H vs Q E hr h=> ?_)
 ·obtain⟨s,v,rfl,_⟩:=h
  rfl
 ·obtain⟨s,v,rfl,hs,hk,hA,hX,q⟩:=h
  cases v with
  |tog _ _ _=>cases hs
  |bes _ _ _=>cases hs
  |via k a v=>
   have:=hA.1.1
   have:k=0:=hs
   omega
  |whole a nm=>
   obtain⟨ht,dx,e⟩:=hA
   refine⟨_,(aK (bK (dR (bH (pv 0) rfl) Y.cl G hr bA (aA (bH (pv 0) rfl) aE)))),?_⟩
   obtain⟨bd,ch,fi,ds,kb,h1,_⟩:=hX.ex
   exact⟨_,rfl,a,C 0,dx,_,_,rfl,e,Z.W.cl,Z.W.n_sheet,rfl,s,ds,_,rfl,h1,fX,_,rfl,a,C 0,dx,_,_,rfl,e,Z.W.cl,Z.W.n_name,rfl,s,nm,rfl,hX,ht,fun H' l s1 hl hl'=>q H' l s1 hl hl'⟩
theorem sF:bB ["self"] ["self"] (aC iO):=⟨rfl,rfl,rfl,by decide+kernel,rfl,by decide+kernel,by decide+kernel⟩
theorem a61{C:Nat->Addr}{CS CB CT:Addr}(Z:Z6 K mg C){n:Nat}(IH:∀k,k<6->aX P w K mg base aJ (4+ n) (C k) "columns" ["self"] (iG C CS CB CT n k)){j:Nat}(hj:1<=j/\j<=3)(cl:bV K (C j))(m:aO K (C j) "columns" "View.columns" iO)(nv:bI K (C j) "view"):aX P w K mg base aJ (4+ (n+ 1)) (C j) "columns" ["self"] (iG C CS CB CT (n+ 1) j):=by
 refine m.known sF (fun _ _ _ _ _ _ us hl=>dM (fun _=>rfl) us hl) (fun vs H Q E h=> ?_) (fun f cdv A outer s1 H vs Q E hr h=> ?_)
 ·obtain⟨s,v,rfl,_⟩:=h
  rfl
 ·obtain⟨s,v,rfl,hs,hk,hA,hX,q⟩:=h
  cases v with
  |whole _ _=>
   have:0=j:=hs
   omega
  |tog _ _ _=>
   have:4=j:=hs
   omega
  |bes _ _ _=>
   have:5=j:=hs
   omega
  |via k a v=>
   have:k=j:=hs
   subst this
   obtain⟨_,⟨dx,fs,e,f1,f2⟩,hv⟩:=hA
   obtain⟨h6,dv,gs,ev,no⟩:=hv.ins
   refine⟨_,(aK (bK (kI (bH (pv 0) rfl) (RQ.k Z IH) hr bA))),?_⟩
   exact⟨_,rfl,a,C k,dx,_,_,rfl,e,cl,nv,f1,_,_,v.a,dv,gs,RQ.at h6,rfl,ev,no,s,v,rfl,rfl,Nat.le_of_succ_le_succ hk,hv,hX,q⟩
theorem a8m:bB ["self","shared"] ["self"] (aC jX):=⟨rfl,rfl,rfl,by decide+kernel,rfl,by decide+kernel,by decide+kernel⟩
theorem b4n{C:Nat->Addr}{CS CB CT:Addr}(Z:Z6 K mg C){n:Nat}(n9:n<=9)(IH:∀k,k<6->aX P w K mg base aJ (4+ n) (C k) "columns" ["self"] (iG C CS CB CT n k)):aX P w K mg base aJ (4+ (n+ 1)) (C 4) "columns" ["self"] (iG C CS CB CT (n+ 1) 4):=by
 refine Z.J.m_columns.known a8m (fun _ _ _ _ _ _ us hl=>dM (fun _=>rfl) us hl) (fun vs H Q E h=> ?_) (fun f cdv A outer s1 H vs Q E hr h=> ?_)
 ·obtain⟨s,v,rfl,_⟩:=h
  rfl
 ·obtain⟨s,v,rfl,hs,hk,hA,hX,q⟩:=h
  cases v with
  |whole _ _=>cases hs
  |bes _ _ _=>cases hs
  |via k a v=>
   have:=hA.1.2
   have:k=4:=hs
   omega
  |tog a x y=>
   obtain⟨⟨dx,e⟩,hx,hy⟩:=hA
   have hk:max x.rk y.rk+ 1<=n+ 1:=hk
   have hcl:∀x,(dQ aJ P w K mg base ["self","shared"] "Together.columns" (aC jX) f cdv A outer s1 H E).nox.env.scope.names.lookup x=some .cell->∃c,(dQ aJ P w K mg base ["self","shared"] "Together.columns" (aC jX) f cdv A outer s1 H E).nox.env.cells.lookup x=some c:=fun x hx=>Option.isSome_iff_exists.mp (PySem.W.cellsFrom_some _ _ _ (.inl hx))
   refine⟨_,(aM (cQ (i:=1) a8m.nd rfl (by first|exact Or.inl rfl|exact Or.inr rfl) (kI (bH (pv 0) rfl) (RQ.k Z IH) hr bA))
    (aK (bK (lU (tt:=tM (iQ (vF K false) (kZ 0) (kZ 1))) (uZ (sc:=aC jX) (N:=["self","shared"]) (cp:=[(1,"shared")]) hcl) rfl rfl (by decide) (hZ (kI (bH (pv 0) rfl) (RQ.k Z IH) hr bA)) (fun _ _ _ _ _=>(a3E (bP kJ (pv 0) (pv 1) (by with_unfolding_all rfl)))) (fun _ _ _ _ _=>(pv 0)))))),?_⟩
   obtain⟨y6,dy,fy,ey,noy⟩:=hy.ins
   refine⟨_,rfl,a,C 4,dx,_,_,rfl,e,Z.J.cl,Z.J.n_other,rfl,_,_,y.a,dy,fy,RQ.at y6,rfl,ey,noy,s,y,rfl,rfl,by omega,hy,hX,fun H1 l1 s1 hl1 e1=> ?_⟩
   have hX1:=hX.same s1
   have hx1:=hx.same s1
   obtain⟨x6,dx',fx,ex,nox⟩:=hx1.ins
   refine⟨_,rfl,a,C 4,dx,_,_,rfl,s1 _ _ e,Z.J.cl,Z.J.n_one,rfl,_,_,x.a,dx',fx,RQ.at x6,rfl,ex,nox,s,x,rfl,rfl,by omega,hx1,hX1,fun H2 l2 s2 hl2 e2=> ?_⟩
   have e1':=s2 _ _ e1
   have ll:=x.len
   refine⟨l2,rfl,⟨_,aS.of e2⟩,fun D hD=> ?_⟩
   refine a9U (K:=K) (a:=l2) (xs:=x.cols.map V.str) (fun i ys H3=>aD H2 H3/\ys=((x.cols.take i).filter fun c=>decide (c∈y.cols)).map V.str) ⟨aD.new hD,rfl⟩ (by rintro i ys H3 _ ⟨s3,_⟩;exact aS.of (s3 _ _ e2)) ?_ ?_
   ·rintro i z ys H3 hz h3 ⟨s3,rfl⟩
    rw[List.getElem?_map]at hz
    cases ec:x.cols[i]? with
    |none=>rw[ec]at hz;cases hz
    |some c=>
     rw[ec]at hz
     obtain rfl:=Option.some.inj hz
     refine⟨_,rfl,_,rfl,l1,_,rfl,.inl (aS.of (s3 _ _ e1')),rfl,gN _,_,rfl,?_⟩
     rw[show (if false=true then !cB (.str c) (y.cols.map V.str) else cB (.str c) (y.cols.map V.str))=decide (c∈y.cols)by rw[if_neg Bool.false_ne_true,gW]]
     have fs:=a9C (fun c=>decide (c∈y.cols)) _ i c ec
     by_cases hc:c∈y.cols
     ·rw[if_pos (decide_eq_true hc)]at fs
      rw[decide_eq_true hc]
      refine bC ⟨_,rfl,h3,dN ?_,s3.on hD,?_⟩
      ·rw[List.length_map]
       have h1:=List.length_filter_le (fun c=>decide (c∈y.cols)) (x.cols.take i)
       rw[List.length_take]at h1
       omega
      ·rw[fs,List.map_append]
       rfl
     ·have hcf:decide (c∈y.cols)=false:=decide_eq_false hc
      rw[if_neg (by rw[hcf];exact Bool.false_ne_true)]at fs
      rw[hcf]
      exact aZ ⟨_,h3,s3,by rw[fs,List.append_nil]⟩
   ·rintro ys H3 h3 ⟨s3,rfl⟩
    rw[List.length_map,List.take_length]at h3
    exact q H3 D ((s1.trans s2).trans s3) (gH (s1.trans s2) hD) h3
theorem a93:bB ["self"] ["self"] (aC kE):=⟨rfl,rfl,rfl,by decide+kernel,rfl,by decide+kernel,by decide+kernel⟩
theorem a4S{nm c:Str}(h:bX nm=true)(hc:c∈aR nm):nm.length<=3/\c.length<=3:=by
 rcases iA h with rfl|rfl
 ·have hc:c∈ [("a":Str),"b","key"]:=hc
  simp only[List.mem_cons,List.not_mem_nil,or_false]at hc
  rcases hc with rfl|rfl|rfl<;>decide+kernel
 ·have hc:c∈ [("b":Str),"key","c"]:=hc
  simp only[List.mem_cons,List.not_mem_nil,or_false]at hc
  rcases hc with rfl|rfl|rfl<;>decide+kernel
theorem b56(T:bD K mg){C:Nat->Addr}{CS CB CT:Addr}(Y:dA K mg CS)(W:cT K mg CB)(Z:Z6 K mg C){n:Nat}(n9:n<=9)(IH:∀k,k<6->aX P w K mg base aJ (4+ n) (C k) "columns" ["self"] (iG C CS CB CT n k)):aX P w K mg base aJ (4+ (n+ 1)) (C 5) "columns" ["self"] (iG C CS CB CT (n+ 1) 5):=by
 have G:aX P w K mg base aJ 3 CS "columns" ["self","table"] (a2v CS CB CT):=mY T Y W
 refine Z.B.m_columns.known a93 (fun _ _ _ _ _ _ us hl=>dM (fun _=>rfl) us hl) (fun vs H Q E h=> ?_) (fun f cdv A outer s1 H vs Q E hr h=> ?_)
 ·obtain⟨s,v,rfl,_⟩:=h
  rfl
 ·obtain⟨s,v,rfl,hs,hk,hA,hX,q⟩:=h
  cases v with
  |whole _ _=>cases hs
  |tog _ _ _=>cases hs
  |via k a v=>
   have:=hA.1.2
   have:k=5:=hs
   omega
  |bes a v nm=>
   obtain⟨ht,⟨dx,fs,e,bf⟩,hv⟩:=hA
   have hk:v.rk<=n:=Nat.le_of_succ_le_succ hk
   have hcl:∀x,(dQ aJ P w K mg base ["self"] "Beside.columns" (aC kE) f cdv A outer s1 H E).nox.env.scope.names.lookup x=some .cell->∃c,(dQ aJ P w K mg base ["self"] "Beside.columns" (aC kE) f cdv A outer s1 H E).nox.env.cells.lookup x=some c:=fun x hx=>Option.isSome_iff_exists.mp (PySem.W.cellsFrom_some _ _ _ (.inl hx))
   refine⟨_,(aK (bK (bU gY (kI (bH (pv 0) rfl) (RQ.k Z IH) hr bA) (lU (te:=iQ (fun x y H Q=>∃i j,x= .str i/\y= .str j/\i.length+ j.length<=sizeLine/\Q (.str (i++ j)) H) (iQ (fun x y H Q=>∃i j,x= .str i/\y= .str j/\i.length+ j.length<=sizeLine/\Q (.str (i++ j)) H) (tFld K (kZ 1) "name") _) (kZ 0)) (uZ (sc:=aC kE) (N:=["self"]) (cp:=[(0,"self")]) hcl) rfl rfl (by decide) (hZ (dR (bH (pv 0) rfl) Y.cl G (hr.mono (Nat.le_trans (by decide) (Nat.le_add_right 4 n))) bA (aA (bH (pv 0) rfl) aE))) (fun _ _ _ _ _=>sY) (fun _ _ _ _ _=>(bU mK (bU mK (bH (pv 1) rfl) bF) (pv 0))))))),?_⟩
   obtain⟨v6,dv,gs,ev,no⟩:=hv.ins
   refine⟨_,rfl,a,C 5,dx,_,_,rfl,e,Z.B.cl,Z.B.n_view,bf.vw,_,_,v.a,dv,gs,RQ.at v6,rfl,ev,no,s,v,rfl,rfl,hk,hv,hX,fun H1 l1 s1 hl1 e1=> ?_⟩
   have hX1:=hX.same s1
   obtain⟨bd,ch,fi,ds,kb,h1,_⟩:=hX1.ex
   have e':=s1 _ _ e
   refine⟨_,rfl,a,C 5,dx,_,_,rfl,e',Z.B.cl,Z.B.n_sheet,bf.sh,s,ds,_,rfl,h1,fX,_,rfl,a,C 5,dx,_,_,rfl,e',Z.B.cl,Z.B.n_name,bf.nm,s,nm,rfl,hX1,ht,fun H2 l2 s2 hl2 e2=> ?_⟩
   have e'':=s2 _ _ e'
   have e1':=s2 _ _ e1
   refine⟨l2,rfl,⟨_,aS.of e2⟩,fun D hD=> ?_⟩
   refine a8b (K:=K) (a:=l2) (xs:=(aR nm).map V.str) (fun i ys H3=>aD H2 H3/\ys=(((aR nm).take i).map (cR nm)).map V.str) ⟨aD.new hD,rfl⟩ (fun i ys H3 _ h=>aS.of (h.1 _ _ e2)) ?_ ?_
   ·rintro i z ys H3 hz h3 ⟨s3,rfl⟩
    rw[List.getElem?_map]at hz
    cases ec:(aR nm)[i]? with
    |none=>rw[ec]at hz;cases hz
    |some c=>
     rw[ec]at hz
     obtain rfl:=Option.some.inj hz
     obtain⟨l1',l2'⟩:=a4S ht (List.mem_of_getElem? ec)
     have d1:(".":Str).length=1:=by decide+kernel
     have d2:(nm++ (".":Str)).length=nm.length+ 1:=by rw[Str.length_append,d1]
     refine⟨_,rfl,a,C 5,dx,_,_,rfl,s3 _ _ e'',Z.B.cl,Z.B.n_name,bf.nm,nm,".",rfl,rfl,sl (by omega),_,rfl,_,c,rfl,rfl,sl (by omega),h3,dN ?_,s3.on hD,?_⟩
     ·rw[List.length_map,List.length_map,List.length_take,kS]
      omega
     ·rw[List.take_add_one,ec,List.map_append,List.map_append]
      rfl
   ·rintro ys H3 h3 ⟨s3,rfl⟩
    rw[List.length_map,List.take_length]at h3
    have vl:=v.len
    refine⟨l1,D,_,_,rfl,rfl,s3 _ _ e1',h3,Nat.le_of_lt (dN ?_),fun d hd=> ?_⟩
    ·rw[List.length_map,List.length_map,List.length_map,kS]
     omega
    ·refine q _ d (((s1.trans s2).trans s3).trans (aD.new hd)) (gH ((s1.trans s2).trans s3) hd) ?_
     rw[aG]
     show _=some (HO.lst ((v.cols++ (aR nm).map (cR nm)).map V.str))
     rw[List.map_append]
theorem hG{C:Nat->Addr}{CS CB CT:Addr}{k:Nat}(h:1<=k)(vs:List V)(H:Hp)(Q:VK)(E:XK):¬iG C CS CB CT 0 k vs H Q E:=fun⟨_,v,_,hs,hk,hA,_⟩=>by
 cases v with
 |whole _ _=>
  have:0=k:=hs
  omega
 |via k' a v=>
  have:v.rk+ 1<=0:=hk
  omega
 |tog a v u=>
  have:max v.rk u.rk+ 1<=0:=hk
  omega
 |bes a v nm=>
  have:v.rk+ 1<=0:=hk
  omega
theorem vq(T:bD K mg){C:Nat->Addr}{CS CB CT:Addr}(Y:dA K mg CS)(W:cT K mg CB)(Z:Z6 K mg C):∀n,n<=9->∀k,k<6->aX P w K mg base aJ (4+ n) (C k) "columns" ["self"] (iG C CS CB CT n k)
 |0,_,0,_=>b01 T Y W Z 0
 |0,_,1,_=>Z.S.m_columns.known (k:=3) sF (fun _ _ _ _ _ _ us hl=>dM (fun _=>rfl) us hl) (fun vs H Q E h=>absurd h (hG (by decide) _ _ _ _)) (fun f cdv A outer s H vs Q E hr h=>absurd h (hG (by decide) _ _ _ _))
 |0,_,2,_=>Z.O.m_columns.known (k:=3) sF (fun _ _ _ _ _ _ us hl=>dM (fun _=>rfl) us hl) (fun vs H Q E h=>absurd h (hG (by decide) _ _ _ _)) (fun f cdv A outer s H vs Q E hr h=>absurd h (hG (by decide) _ _ _ _))
 |0,_,3,_=>Z.U.m_columns.known (k:=3) sF (fun _ _ _ _ _ _ us hl=>dM (fun _=>rfl) us hl) (fun vs H Q E h=>absurd h (hG (by decide) _ _ _ _)) (fun f cdv A outer s H vs Q E hr h=>absurd h (hG (by decide) _ _ _ _))
 |0,_,4,_=>Z.J.m_columns.known (k:=3) a8m (fun _ _ _ _ _ _ us hl=>dM (fun _=>rfl) us hl) (fun vs H Q E h=>absurd h (hG (by decide) _ _ _ _)) (fun f cdv A outer s H vs Q E hr h=>absurd h (hG (by decide) _ _ _ _))
 |0,_,5,_=>Z.B.m_columns.known (k:=3) a93 (fun _ _ _ _ _ _ us hl=>dM (fun _=>rfl) us hl) (fun vs H Q E h=>absurd h (hG (by decide) _ _ _ _)) (fun f cdv A outer s H vs Q E hr h=>absurd h (hG (by decide) _ _ _ _))
 |n+ 1,_,0,_=>(b01 T Y W Z (n+ 1)).le (by omega)
 |n+ 1,h,1,_=>a61 Z (vq T Y W Z n (by omega)) (by decide) Z.S.cl Z.S.m_columns Z.S.n_view
 |n+ 1,h,2,_=>a61 Z (vq T Y W Z n (by omega)) (by decide) Z.O.cl Z.O.m_columns Z.O.n_view
 |n+ 1,h,3,_=>a61 Z (vq T Y W Z n (by omega)) (by decide) Z.U.cl Z.U.m_columns Z.U.n_view
 |n+ 1,h,4,_=>b4n Z (by omega) (vq T Y W Z n (by omega))
 |n+ 1,h,5,_=>b56 T Y W Z (by omega) (vq T Y W Z n (by omega))
 |_,_,k+ 6,h=>absurd h (by omega)
end
inductive bM:V->Prop
 |non:bM .non
 |bl (b:Bool):bM (.bl b)
 |int (i:Int):bM (.int i)
 |str (t:Str) (h:t.length<=8):bM (.str t)
noncomputable def cK:V->Bool
 | .str t=>bX t
 |_=>false
noncomputable def cU (cs:List Str):V->Bool
 | .str t=>decide (t∈cs)
 |_=>false
noncomputable def dX:V->Bool
 | .int i=>decide (0<=i)
 |_=>false
section
variable{K:Fg}{p:Addr}{H H1 H':Hp}
theorem gR(s:aD H H'):eD p H H':=fun b o _ e=>s b o e
theorem fU(s:eD p H H1)(t:eD p H1 H'):eD p H H':=fun b o n e=>t b o n (s b o n e)
theorem fE{o:HO}:eD p H (upd H p o):=fun b u n e=>by rw[aH n];exact e
end
theorem sW{a b c d:Addr}{fs:List (Str×V)}(x:some (HO.ins a b [])=some (.ins c d fs)):fs= []:=(HO.ins.inj (Option.some.inj x)).2.2.symm
theorem VQ.At.sx{C:Nat->Addr}{s p dp:Addr}{k:Nat}{H H':Hp}(hp:H p=some (.ins (C k) dp []))(e:eD p H H'):∀{v:VQ},v.At C s H->v.At C s H'
 | .whole a nm,h=>⟨h.1,let ⟨dx,x⟩:=h.2;⟨dx,e _ _ (fun z=>by rw[z,hp]at x;exact absurd (sW x) (by unfold wfl;exact List.cons_ne_nil _ _)) x⟩⟩
 | .via k a v,h=>⟨h.1,let ⟨dx,fs,x,y1,y2⟩:=h.2.1;⟨dx,fs,e _ _ (fun z=>by rw[z,hp]at x;rw[sW x]at y1;cases y1) x,y1,y2⟩,VQ.At.sx hp e h.2.2⟩
 | .tog a v u,h=>⟨let ⟨dx,x⟩:=h.1;⟨dx,e _ _ (fun z=>by rw[z,hp]at x;exact absurd (sW x) (by unfold jfl;exact List.cons_ne_nil _ _)) x⟩,VQ.At.sx hp e h.2.1,VQ.At.sx hp e h.2.2⟩
 | .bes a v nm,h=>⟨h.1,let ⟨dx,fs,x,y⟩:=h.2.1;⟨dx,fs,e _ _ (fun z=>by rw[z,hp]at x;have y1:=y.vw;rw[sW x]at y1;cases y1) x,y⟩,VQ.At.sx hp e h.2.2⟩
theorem Sx.sx{CS CB CT s p dp Cp:Addr}{H H':Hp}(hp:H p=some (.ins Cp dp []))(e:eD p H H')(h:Sx CS CB CT s H):Sx CS CB CT s H':=by
 obtain⟨bd,ch,fi,dx,kb,h1,h2,h3,h4⟩:=h.ex
 have k:∀{x:Addr} {o:HO},H x=some o->(∀a b,o≠ .ins a b [])->H' x=some o:=fun x n=>e _ _ (fun z=>by rw[z,hp]at x;exact n _ _ (Option.some.inj x).symm) x
 refine⟨bd,ch,fi,dx,kb,k h1 (fun _ _ y=>by cases y),k h2 (fun _ _ y=>by cases y),fun nm hn=> ?_,h4⟩
 obtain⟨B,b1,⟨⟨d1,e1⟩,⟨⟨d2,e2⟩,e3,e4⟩,e5,e6,e7⟩,b3⟩:=h3 nm hn
 exact⟨B,b1,⟨⟨d1,k e1 (fun _ _ y=>by cases y)⟩,⟨⟨d2,k e2 (fun _ _ y=>by cases y)⟩,k e3 (fun _ _ y=>by cases y),k e4 (fun _ _ y=>by cases y)⟩,k e5 (fun _ _ y=>by cases y),k e6 (fun _ _ y=>by cases y),k e7 (fun _ _ y=>by cases y)⟩,b3⟩
section
variable{P:Program}{w:World}{K:Fg}{mg:Str->Option Value}{base:Heap}
def a2D(c:Ad)(CS CB CT:Addr):Sp:=fun vs H Q E=>∃(s:Addr) (x:V),vs= [.ref s,x] /\Sx CS CB CT s H/\bM x/\(cK x=true->∀H' B nm,aD H H'->x= .str nm->bX nm=true->cN CB CT H' B->B.ord=aR nm->Q (.ref B.b) H')/\(cK x=false->∀H',aD H H'->E (.ref c.NoTable) none H')
theorem a9B(T:bD K mg){c:Ad}(X:eX K mg c){CS CB CT:Addr}(Y:dA K mg CS):aX P w K mg base (bR P w) 2 CS "board_of" ["self","table"] (a2D c CS CB CT):=by
 have G_is_name:bG P w K mg base aJ 1 "is_name" ["thing"] (iS K):=gL T
 refine Y.m_board_of.knownE a9v (fun _ _ _ _ _ _ us hl=>eY (fun _ _=>rfl) us hl) (fun vs H Q E h=> ?_) (fun f cdv A outer s H vs Q E hr h=> ?_)
 ·obtain⟨s',x,rfl,_⟩:=h
  rfl
 ·obtain⟨s',x,rfl,hX,hF,q1,q2⟩:=h
  obtain⟨bd,ch,fi,dx,kb,h1,h2,h3,h4⟩:=hX.ex
  refine⟨_,(aM (bL (PW.pt (eS (dG (dL (bZ G_is_name (hr.mono (by decide)) bA (aA (pv 1) aE)) (fun _=>rfl))) (eV (kO (oQ (fB hr) (pv 1) (bH (pv 0) rfl)))))) (aK (vC X.c_NoTable X.x_NoTable (aA bF aE))) bO)
   (aK (bK (gZ (fB hr) (bH (pv 0) rfl) (pv 1) (fun _ _=>rfl))))),?_⟩
  cases hF with
  |non=>exact⟨_,rfl,_,.none,rfl,.non,(fun t e=>by cases e),fun H' s9=>⟨_,rfl,bC ⟨sl,q2 rfl _ s9⟩⟩⟩
  |bl b=>exact⟨_,rfl,_,.bool b,rfl,.bl b,(fun t e=>by cases e),fun H' s9=>⟨_,rfl,bC ⟨sl,q2 rfl _ s9⟩⟩⟩
  |int i=>exact⟨_,rfl,_,.int i,rfl,.int i,(fun t e=>by cases e),fun H' s9=>⟨_,rfl,bC ⟨sl,q2 rfl _ s9⟩⟩⟩
  |str nm h8=>
   refine⟨_,rfl,_,.str nm,rfl,.str nm,jL (by omega),fun H' s9=>⟨_,rfl,?_⟩⟩
   cases hn:eG (.str nm)with
   |false=>
    refine bC ⟨sl,q2 ?_ _ s9⟩
    show bX nm=false
    cases ht:bX nm with
    |false=>rfl
    |true=>rw[show eG (.str nm)=true from(uK ht).name]at hn;cases hn
   |true=>
    refine aZ ⟨_,rfl,_,rfl,s',CS,dx,_,_,rfl,s9 _ _ h1,Y.cl,Y.n_boards,(nE _ _ _).1,bd,_,rfl,cP.k (k:=Sum.inr nm) (s9 _ _ h2),_,rfl,?_⟩
    cases ht:bX nm with
    |false=>
     rw[h4 nm ht]
     exact bC ⟨sl,q2 ht _ s9⟩
    |true=>
     obtain⟨B,b1,b2,b3⟩:=h3 nm ht
     rw[b1]
     exact aZ ⟨_,rfl,s',CS,dx,_,_,rfl,s9 _ _ h1,Y.cl,Y.n_boards,(nE _ _ _).1,_,rfl,bd,_,rfl,b1▸cP.k (k:=Sum.inr nm) (s9 _ _ h2),q1 ht _ B nm s9 rfl ht (b2.same s9) b3⟩
def b0b(c:Ad)(CS CB CT:Addr):Sp:=fun vs H Q E=>∃(s:Addr) (x:V),vs= [.ref s,x] /\Sx CS CB CT s H/\bM x/\(cK x=true->∀H' i,aD H H'->Q (.int i) H')/\(cK x=false->∀H',aD H H'->E (.ref c.NoTable) none H')
theorem b3d:bB ["self","table"] ["self","table"] (aC pB):=⟨rfl,rfl,rfl,by decide+kernel,rfl,by decide+kernel,by decide+kernel⟩
theorem b6t(T:bD K mg){c:Ad}(X:eX K mg c){CS CB CT:Addr}(Y:dA K mg CS)(W:cT K mg CB)(U:eL K mg CT):aX P w K mg base (bR P w) 3 CS "many" ["self","table"] (b0b c CS CB CT):=by
 have G_of:aX P w K mg base (bR P w) 2 CS "board_of" ["self","table"] (a2D c CS CB CT):=a9B T X Y
 have G_many:aX P w K mg base aJ 1 CT "many" ["self"] (lT CT):=jN T U
 refine Y.m_many.knownE b3d (fun _ _ _ _ _ _ us hl=>eY (fun _ _=>rfl) us hl) (fun vs H Q E h=> ?_) (fun f cdv A outer s H vs Q E hr h=> ?_)
 ·obtain⟨s',x,rfl,_⟩:=h
  rfl
 ·obtain⟨s',x,rfl,hX,hF,q1,q2⟩:=h
  obtain⟨bd,ch,fi,dx,kb,h1,_⟩:=hX.ex
  refine⟨_,(aK (bK (jU (bH (dR (pv 0) Y.cl G_of hr fH (aA (pv 1) aE)) rfl) U.cl G_many (hr.mono (by decide)) bA))),?_⟩
  refine⟨_,rfl,s',dx,_,rfl,h1,fX,_,rfl,s',x,rfl,hX,hF,fun ht H1 B nm s1 _ _ hB _=> ?_,q2⟩
  obtain⟨dB,b1⟩:=hB.at_
  obtain⟨dT,hT⟩:=hB.tab.at_
  exact⟨B.b,CB,dB,_,_,rfl,b1,W.cl,W.n_given,(fY _ _ _ _).1,B.g,dT,_,rfl,hT,lJ,B.g,B.r,B.e,B.xs,B.n,B.kvs,rfl,hB.tab,q1 ht _ _ s1⟩
def b0A(c:Ad)(CS CB CT:Addr):Sp:=fun vs H Q E=>∃(s:Addr) (x:V),vs= [.ref s,x] /\Sx CS CB CT s H/\bM x/\(cK x=true->∀H' l nm,aD H H'->x= .str nm->bX nm=true->H l=none->H' l=some (.lst ((aR nm).map V.str))->Q (.ref l) H')/\(cK x=false->∀H',aD H H'->E (.ref c.NoTable) none H')
theorem b47(T:bD K mg){c:Ad}(X:eX K mg c){CS CB CT:Addr}(Y:dA K mg CS)(W:cT K mg CB):aX P w K mg base (bR P w) 3 CS "columns" ["self","table"] (b0A c CS CB CT):=by
 have G_of:aX P w K mg base (bR P w) 2 CS "board_of" ["self","table"] (a2D c CS CB CT):=a9B T X Y
 refine Y.m_columns.knownE b0Z (fun _ _ _ _ _ _ us hl=>eY (fun _ _=>rfl) us hl) (fun vs H Q E h=> ?_) (fun f cdv A outer s H vs Q E hr h=> ?_)
 ·obtain⟨s',x,rfl,_⟩:=h
  rfl
 ·obtain⟨s',x,rfl,hX,hF,q1,q2⟩:=h
  obtain⟨bd,ch,fi,dx,kb,h1,_⟩:=hX.ex
  refine⟨_,(aK (bK (kY sQ rfl T.list kW (aA (bH (dR (pv 0) Y.cl G_of hr fH (aA (pv 1) aE)) rfl) aE)))),?_⟩
  refine⟨_,rfl,s',dx,_,rfl,h1,fX,_,rfl,s',x,rfl,hX,hF,fun ht H1 B nm s1 ex hn hB ho=> ?_,q2⟩
  obtain⟨dB,b1⟩:=hB.at_
  exact⟨B.b,CB,dB,_,_,rfl,b1,W.cl,W.n_order,(fY _ _ _ _).2.2.2,B.od,_,rfl,.inl (aS.of hB.ord),fun l hl=>q1 ht _ l nm (s1.trans (aD.new hl)) ex hn (gH s1 hl) (by rw[<- ho];exact aG)⟩
def uF(c:Ad):Sp:=fun vs H Q E=>∃(x:V) (l:Addr) (cs:List Str),vs= [x,.ref l] /\bM x/\H l=some (.lst (cs.map V.str))/\(cU cs x=true->Q .non H)/\(cU cs x=false->E (.ref c.NoColumn) none H)
theorem b5u:bB ["column","columns"] ["column","columns"] (aC qG):=⟨rfl,rfl,rfl,by decide+kernel,rfl,by decide+kernel,by decide+kernel⟩
theorem a3M(T:bD K mg){c:Ad}(X:eX K mg c):bG P w K mg base (bR P w) 1 "check_column" ["column","columns"] (uF c):=by
 refine T.d_check_column.knownE b5u (fun _ _ _ _ _ _ us hl=>eY (fun _ _=>rfl) us hl) (fun vs H Q E h=> ?_) (fun f cdv A outer s H vs Q E hr h=> ?_)
 ·obtain⟨x,l,cs,rfl,_⟩:=h
  rfl
 ·obtain⟨x,l,cs,rfl,hF,hl,q1,q2⟩:=h
  refine⟨_,(aK (bL (PW.pt (eS (dG (dL (bN gO rfl T.isinstance cL (aA (pv 0) (aA (gC T.str lO) aE))) (fun _=>rfl))) (eV (bP rP (pv 0) (pv 1) (by with_unfolding_all rfl))))) (aK (vC X.c_NoColumn X.x_NoColumn (aA bF aE))) bO)),?_⟩
  cases hF with
  |non=>exact⟨_,rfl,_,"str",.none,_,rfl,.non,eT K _,_,rfl,bC ⟨sl,q2 rfl⟩⟩
  |bl b=>exact⟨_,rfl,_,"str",.bool b,_,rfl,.bl b,eT K _,_,rfl,bC ⟨sl,q2 rfl⟩⟩
  |int i=>exact⟨_,rfl,_,"str",.int i,_,rfl,.int i,eT K _,_,rfl,bC ⟨sl,q2 rfl⟩⟩
  |str t h8=>
   refine⟨_,rfl,_,"str",.str t,_,rfl,.str t,eT K _,_,rfl,aZ ⟨_,rfl,_,rfl,l,_,rfl,.inl (aS.of hl),rfl,gN _,_,rfl,?_⟩⟩
   rw[show (if true=true then !cB (.str t) (cs.map V.str) else cB (.str t) (cs.map V.str))= !decide (t∈cs)by rw[if_pos rfl,gW]]
   by_cases hc:t∈cs
   ·rw[decide_eq_true hc]
    exact aZ (q1 (decide_eq_true hc))
   ·rw[decide_eq_false hc]
    exact bC ⟨sl,q2 (decide_eq_false hc)⟩
def a9L(c:Ad):Sp:=fun vs H Q E=>∃x,vs= [x] /\bM x/\(dX x=true->Q .non H)/\(dX x=false->E (.ref c.NoPlace) none H)
theorem b45:bB ["count"] ["count"] (aC qS):=⟨rfl,rfl,rfl,by decide+kernel,rfl,by decide+kernel,by decide+kernel⟩
theorem b6n(T:bD K mg){c:Ad}(X:eX K mg c):bG P w K mg base (bR P w) 2 "check_count" ["count"] (a9L c):=by
 have G_is_whole:bG P w K mg base aJ 1 "is_whole" ["thing"] (nN K):=jY T
 refine T.d_check_count.knownE b45 (fun _ _ _ _ _ _ us hl=>dM (fun _=>rfl) us hl) (fun vs H Q E h=> ?_) (fun f cdv A outer s H vs Q E hr h=> ?_)
 ·obtain⟨x,rfl,_⟩:=h
  rfl
 ·obtain⟨x,rfl,hF,q1,q2⟩:=h
  refine⟨_,(aK (bL (PW.pt (eS (dG (dL (bZ G_is_whole (hr.mono (by decide)) bA (aA (pv 0) aE)) (fun _=>rfl))) (eV (bP uB (pv 0) bE (cI _))))) (aK (vC X.c_NoPlace X.x_NoPlace (aA bF aE))) bO)),?_⟩
  cases hF with
  |non=>exact⟨_,rfl,_,.none,rfl,.non,_,rfl,bC ⟨sl,q2 rfl⟩⟩
  |bl b=>exact⟨_,rfl,_,.bool b,rfl,.bl b,_,rfl,bC ⟨sl,q2 rfl⟩⟩
  |str t h=>exact⟨_,rfl,_,.str t,rfl,.str t,_,rfl,bC ⟨sl,q2 rfl⟩⟩
  |int i=>
   refine⟨_,rfl,_,.int i,rfl,.int i,_,rfl,aZ ⟨_,rfl,_,_,rfl,rfl,_,rfl,?_⟩⟩
   by_cases hi:i<0
   ·rw[decide_eq_true hi]
    exact bC ⟨sl,q2 (decide_eq_false (by omega))⟩
   ·rw[decide_eq_false hi]
    exact aZ (q1 (decide_eq_true (by omega)))
def a42(c:Ad)(C:Nat->Addr)(CS CB CT:Addr):Sp:=fun vs H Q E=>∃(p dx s:Addr) (x:V),vs= [.ref p,.ref s,x] /\H p=some (.ins (C 0) dx [])/\Sx CS CB CT s H/\bM x/\(cK x=true->∀H' nm,eD p H H'->x= .str nm->H' p=some (.ins (C 0) dx (wfl s nm))->Q .non H')/\(cK x=false->∀H',eD p H H'->E (.ref c.NoTable) none H')
theorem b1M:bB ["self","sheet","table"] ["self","sheet","table"] (aC oY):=⟨rfl,rfl,rfl,by decide+kernel,rfl,by decide+kernel,by decide+kernel⟩
theorem b0F(T:bD K mg){c:Ad}(X:eX K mg c){C:Nat->Addr}{CS CB CT:Addr}(Y:dA K mg CS)(W:cT K mg CB)(U:eL K mg CT)(Z:Z6 K mg C):cA P w K mg base (bR P w) 4 (C 0) ["self","sheet","table"] (a42 c C CS CB CT):=by
 have G:aX P w K mg base (bR P w) 3 CS "many" ["self","table"] (b0b c CS CB CT):=b6t T X Y W U
 refine(Z.W.m_init.knownE b1M (fun _ _ _ _ _ _ us hl=>iB (fun _ _ _=>rfl) us hl) (fun vs H Q E h=> ?_) (fun f cdv A outer s H vs Q E hr h=> ?_)).init Z.W.mks Z.W.kc
 ·obtain⟨p,dx,s',x,rfl,_⟩:=h
  rfl
 ·obtain⟨p,dx,s',x,rfl,hp,hX,hF,q1,q2⟩:=h
  refine⟨_,(aM (dC (dR (pv 1) Y.cl G hr fH (aA (pv 2) aE)))
   (aM (bQ (pv 0) (pv 1) rfl)
   (aK (bQ (pv 0) (pv 2) rfl)))),?_⟩
  obtain⟨bd,ch,fi,ds,kb,h1,_⟩:=hX.ex
  refine⟨_,rfl,s',ds,_,rfl,h1,fX,_,rfl,s',x,rfl,hX,hF,fun ht H1 i s1=> ?_,fun ht H1 s1=>q2 ht H1 (gR s1)⟩
  refine⟨_,rfl,_,rfl,p,C 0,dx,[],rfl,s1 _ _ hp,Z.W.cl,Z.W.n_sheet,by decide,?_⟩
  refine⟨_,rfl,_,rfl,p,C 0,dx,_,rfl,aG,Z.W.cl,Z.W.n_name,(show 1<1000 by decide),?_⟩
  cases hF with
  |str nm h8=>exact q1 ht _ nm (fU (fU (gR s1) fE) fE) rfl aG
  |non=>cases ht
  |bl b=>cases ht
  |int i=>cases ht
noncomputable def cfl7 (v:Addr) (x:V):List (Str×V):=[("view",V.ref v),("column",x)]
def rJ(c:Ad)(C:Nat->Addr)(CS CB CT:Addr)(n j:Nat):Sp:=fun vs H Q E=>∃(p dx s:Addr) (v:VQ) (x:V),vs= [.ref p,.ref v.a,x] /\H p=some (.ins (C j) dx [])/\v.rk<=n/\v.At C s H/\Sx CS CB CT s H/\bM x/\(cU v.cols x=true->∀H',eD p H H'->H' p=some (.ins (C j) dx (cfl7 v.a x))->Q .non H')/\(cU v.cols x=false->∀H',eD p H H'->E (.ref c.NoColumn) none H')
theorem b24:bB ["self","view","column"] ["self","view","column"] (aC qZ):=⟨rfl,rfl,rfl,by decide+kernel,rfl,by decide+kernel,by decide+kernel⟩
theorem b0T(T:bD K mg){c:Ad}(X:eX K mg c){C:Nat->Addr}{CS CB CT:Addr}(Y:dA K mg CS)(W:cT K mg CB)(Z:Z6 K mg C){n:Nat}(n9:n<=9):cA P w K mg base (bR P w) (4+ n+ 1) (C 1) ["self","view","column"] (rJ c C CS CB CT n 1):=by
 have G_col:bG P w K mg base (bR P w) 1 "check_column" ["column","columns"] (uF c):=a3M T X
 have N:=vq (P:=P) (w:=w) (base:=base) (CT:=CT) T Y W Z n n9
 refine(Z.S.m_init.knownE b24 (fun _ _ _ _ _ _ us hl=>iB (fun _ _ _=>rfl) us hl) (fun vs H Q E h=> ?_) (fun f cdv A outer s1 H vs Q E hr h=> ?_)).init Z.S.mks Z.S.kc
 ·obtain⟨p,dx,s,v,x,rfl,_⟩:=h
  rfl
 ·obtain⟨p,dx,s,v,x,rfl,hp,hk,hv,hX,hF,q1,q2⟩:=h
  refine⟨_,(aM (dC (bZ G_col (hr.mono (Nat.le_trans (by decide) (Nat.le_add_right 4 n))) fH (aA (pv 2) (aA (kI (pv 1) (RQ.k Z N) hr bA) aE))))
   (aM (bQ (pv 0) (pv 1) rfl)
   (aK (bQ (pv 0) (pv 2) rfl)))),?_⟩
  obtain⟨v6,dv,fs,ev,no⟩:=hv.ins
  refine⟨_,rfl,_,rfl,_,_,v.a,dv,fs,RQ.at v6,rfl,ev,no,s,v,rfl,rfl,hk,hv,hX,fun H1 l1 s1 hl1 e1=>⟨x,l1,_,rfl,hF,e1,fun hc=> ?_,fun hc=>q2 hc H1 (gR s1)⟩⟩
  refine⟨_,rfl,_,rfl,p,C 1,dx,[],rfl,s1 _ _ hp,Z.S.cl,Z.S.n_view,by decide,?_⟩
  refine⟨_,rfl,_,rfl,p,C 1,dx,_,rfl,aG,Z.S.cl,Z.S.n_column,(show 1<1000 by decide),?_⟩
  exact q1 hc _ (fU (fU (gR s1) fE) fE) aG
theorem b3U:bB ["self","view","column"] ["self","view","column"] (aC rC):=⟨rfl,rfl,rfl,by decide+kernel,rfl,by decide+kernel,by decide+kernel⟩
theorem b3s(T:bD K mg){c:Ad}(X:eX K mg c){C:Nat->Addr}{CS CB CT:Addr}(Y:dA K mg CS)(W:cT K mg CB)(Z:Z6 K mg C){n:Nat}(n9:n<=9):cA P w K mg base (bR P w) (4+ n+ 1) (C 2) ["self","view","column"] (rJ c C CS CB CT n 2):=by
 have G_col:bG P w K mg base (bR P w) 1 "check_column" ["column","columns"] (uF c):=a3M T X
 have N:=vq (P:=P) (w:=w) (base:=base) (CT:=CT) T Y W Z n n9
 refine(Z.O.m_init.knownE b3U (fun _ _ _ _ _ _ us hl=>iB (fun _ _ _=>rfl) us hl) (fun vs H Q E h=> ?_) (fun f cdv A outer s1 H vs Q E hr h=> ?_)).init Z.O.mks Z.O.kc
 ·obtain⟨p,dx,s,v,x,rfl,_⟩:=h
  rfl
 ·obtain⟨p,dx,s,v,x,rfl,hp,hk,hv,hX,hF,q1,q2⟩:=h
  refine⟨_,(aM (dC (bZ G_col (hr.mono (Nat.le_trans (by decide) (Nat.le_add_right 4 n))) fH (aA (pv 2) (aA (kI (pv 1) (RQ.k Z N) hr bA) aE))))
   (aM (bQ (pv 0) (pv 1) rfl)
   (aK (bQ (pv 0) (pv 2) rfl)))),?_⟩
  obtain⟨v6,dv,fs,ev,no⟩:=hv.ins
  refine⟨_,rfl,_,rfl,_,_,v.a,dv,fs,RQ.at v6,rfl,ev,no,s,v,rfl,rfl,hk,hv,hX,fun H1 l1 s1 hl1 e1=>⟨x,l1,_,rfl,hF,e1,fun hc=> ?_,fun hc=>q2 hc H1 (gR s1)⟩⟩
  refine⟨_,rfl,_,rfl,p,C 2,dx,[],rfl,s1 _ _ hp,Z.O.cl,Z.O.n_view,by decide,?_⟩
  refine⟨_,rfl,_,rfl,p,C 2,dx,_,rfl,aG,Z.O.cl,Z.O.n_column,(show 1<1000 by decide),?_⟩
  exact q1 hc _ (fU (fU (gR s1) fE) fE) aG
noncomputable def ufl (v:Addr) (x y:V):List (Str×V):=[("view",V.ref v),("start",x),("count",y)]
def a95(c:Ad)(C:Nat->Addr):Sp:=fun vs H Q E=>∃(p dx a:Addr) (x y:V),vs= [.ref p,.ref a,x,y] /\H p=some (.ins (C 3) dx [])/\bM x/\bM y/\((dX x&&dX y)=true->∀H',eD p H H'->H' p=some (.ins (C 3) dx (ufl a x y))->Q .non H')/\((dX x&&dX y)=false->E (.ref c.NoPlace) none H)
theorem b2F:bB ["self","view","start","count"] ["self","view","start","count"] (aC pU):=⟨rfl,rfl,rfl,by decide+kernel,rfl,by decide+kernel,by decide+kernel⟩
theorem b41(T:bD K mg){c:Ad}(X:eX K mg c){C:Nat->Addr}(Z:Z6 K mg C):cA P w K mg base (bR P w) 3 (C 3) ["self","view","start","count"] (a95 c C):=by
 have G:bG P w K mg base (bR P w) 2 "check_count" ["count"] (a9L c):=b6n T X
 refine(Z.U.m_init.knownE b2F (fun _ _ _ _ _ _ us hl=>rB (fun _ _ _ _=>rfl) us hl) (fun vs H Q E h=> ?_) (fun f cdv A outer s1 H vs Q E hr h=> ?_)).init Z.U.mks Z.U.kc
 ·obtain⟨p,dx,a,x,y,rfl,_⟩:=h
  rfl
 ·obtain⟨p,dx,a,x,y,rfl,hp,hx,hy,q1,q2⟩:=h
  refine⟨_,(aM (dC (bZ G hr fH (aA (pv 2) aE)))
   (aM (dC (bZ G hr fH (aA (pv 3) aE)))
   (aM (bQ (pv 0) (pv 1) rfl)
   (aM (bQ (pv 0) (pv 2) rfl)
   (aK (bQ (pv 0) (pv 3) rfl)))))),?_⟩
  refine⟨_,rfl,x,rfl,hx,fun c1=>⟨_,rfl,y,rfl,hy,fun c2=> ?_,fun c2=>q2 (by rw[c1,c2];rfl)⟩,fun c1=>q2 (by rw[c1];rfl)⟩
  refine⟨_,rfl,_,rfl,p,C 3,dx,[],rfl,hp,Z.U.cl,Z.U.n_view,by decide,?_⟩
  refine⟨_,rfl,_,rfl,p,C 3,dx,_,rfl,aG,Z.U.cl,Z.U.n_start,(show 1<1000 by decide),?_⟩
  refine⟨_,rfl,_,rfl,p,C 3,dx,_,rfl,aG,Z.U.cl,Z.U.n_count,(show 2<1000 by decide),?_⟩
  exact q1 (by rw[c1,c2];rfl) _ (fU (fU fE fE) fE) aG
def a9Y(C:Nat->Addr):Sp:=fun vs H Q _=>∃(p dx a b:Addr),vs= [.ref p,.ref a,.ref b] /\H p=some (.ins (C 4) dx [])/\∀H',eD p H H'->H' p=some (.ins (C 4) dx (jfl a b))->Q .non H'
theorem b4S:bB ["self","one","other"] ["self","one","other"] (aC oK):=⟨rfl,rfl,rfl,by decide+kernel,rfl,by decide+kernel,by decide+kernel⟩
theorem b2y{C:Nat->Addr}(Z:Z6 K mg C):cA P w K mg base aJ 1 (C 4) ["self","one","other"] (a9Y C):=by
 refine(Z.J.m_init.known b4S (fun _ _ _ _ _ _ us hl=>iB (fun _ _ _=>rfl) us hl) (fun vs H Q E h=> ?_) (fun f cdv A outer s1 H vs Q E hr h=> ?_)).init Z.J.mks Z.J.kc
 ·obtain⟨p,dx,a,b,rfl,_⟩:=h
  rfl
 ·obtain⟨p,dx,a,b,rfl,hp,q⟩:=h
  refine⟨_,(aM (bQ (pv 0) (pv 1) rfl)
   (aK (bQ (pv 0) (pv 2) rfl))),?_⟩
  refine⟨_,rfl,_,rfl,p,C 4,dx,[],rfl,hp,Z.J.cl,Z.J.n_one,by decide,?_⟩
  refine⟨_,rfl,_,rfl,p,C 4,dx,_,rfl,aG,Z.J.cl,Z.J.n_other,(show 1<1000 by decide),?_⟩
  exact q _ (fU fE fE) aG
noncomputable def pR (v s:Addr) (x y z:V):List (Str×V):=[("view",V.ref v),("key",x),("sheet",V.ref s),("name",y),("theirs",z)]
noncomputable def lE (cs:List Str):Bool:=decide ((cV cs).length≠cs.length)
def a1c(c:Ad)(C:Nat->Addr)(CS CB CT:Addr)(n:Nat):Sp:=fun vs H Q E=>∃(p dx s:Addr) (v:VQ) (x y z:V),vs= [.ref p,.ref v.a,x,.ref s,y,z] /\H p=some (.ins (C 5) dx [])/\v.rk<=n/\v.At C s H/\Sx CS CB CT s H/\bM x/\bM y/\bM z/\
 (cK y=false->∀H',eD p H H'->E (.ref c.NoTable) none H')/\
 ∀nm,y= .str nm->bX nm=true->((cU v.cols x&&cU (aR nm) z)=false->∀H',eD p H H'->E (.ref c.NoColumn) none H')/\((cU v.cols x&&cU (aR nm) z)=true->(lE (v.cols++ (aR nm).map (cR nm))=true->∀H',eD p H H'->E (.ref c.NoName) none H')/\(lE (v.cols++ (aR nm).map (cR nm))=false->∀H',eD p H H'->H' p=some (.ins (C 5) dx (pR v.a s x y z))->Q .non H'))
abbrev Nbei:List Str:=["self","view","key","sheet","table","theirs","added"]
theorem b0N:bB Nbei ["self","view","key","sheet","table","theirs"] (aC qJ):=⟨rfl,rfl,rfl,by decide+kernel,rfl,by decide+kernel,by decide+kernel⟩
theorem b0q(T:bD K mg){c:Ad}(X:eX K mg c){C:Nat->Addr}{CS CB CT:Addr}(Y:dA K mg CS)(W:cT K mg CB)(Z:Z6 K mg C){n:Nat}(n8:n<=8):cA P w K mg base (bR P w) (4+ (n+ 1)+ 1) (C 5) ["self","view","key","sheet","table","theirs"] (a1c c C CS CB CT n):=by
 have G_col:bG P w K mg base (bR P w) 1 "check_column" ["column","columns"] (uF c):=a3M T X
 have G_cs:aX P w K mg base (bR P w) 3 CS "columns" ["self","table"] (b0A c CS CB CT):=b47 T X Y W
 have N:=vq (P:=P) (w:=w) (base:=base) (CT:=CT) T Y W Z n (by omega)
 have NB:=vq (P:=P) (w:=w) (base:=base) (CT:=CT) T Y W Z (n+ 1) (by omega) 5 (by decide)
 have r4:∀{k},k<=4->k<=4+ (n+ 1):=fun h=>Nat.le_trans h (Nat.le_add_right 4 _)
 refine(Z.B.m_init.knownE b0N (fun _ _ _ _ _ _ us hl=>bi6 (fun _ _ _ _ _ _=>rfl) us hl) (fun vs H Q E h=> ?_) (fun f cdv A outer s1 H vs Q E hr h=> ?_)).init Z.B.mks Z.B.kc
 ·obtain⟨p,dx,s,v,x,y,z,rfl,_⟩:=h
  rfl
 ·obtain⟨p,dx,s,v,x,y,z,rfl,hp,hk,hv,hX,hx,hy,hz,q1,q2⟩:=h
  refine⟨_,(aM (cQ (i:=6) b0N.nd rfl (Or.inl rfl) (dR (pv 3) Y.cl G_cs (hr.mono (r4 (by decide))) fH (aA (pv 4) aE)))
   (aM (dC (bZ G_col (hr.mono (r4 (by decide))) fH (aA (pv 2) (aA (kI (pv 1) (RQ.k Z N) (hr.mono (by omega)) bA) aE))))
   (aM (dC (bZ G_col (hr.mono (r4 (by decide))) fH (aA (pv 5) (aA (pv 6) aE))))
   (aM (bQ (pv 0) (pv 1) rfl)
   (aM (bQ (pv 0) (pv 2) rfl)
   (aM (bQ (pv 0) (pv 3) rfl)
   (aM (bQ (pv 0) (pv 4) rfl)
   (aM (bQ (pv 0) (pv 5) rfl)
   (aK (bL (bP sO (bN b2n rfl T.len gX (aA (kY (b3O rfl) rfl T.set b1y (aA (jU (pv 0) Z.B.cl NB hr bA) aE)) aE)) (bN lL rfl T.len gX (aA (jU (pv 0) Z.B.cl NB hr bA) aE)) (cI _)) (aK (vC X.c_NoName X.x_NoName (aA bF aE))) bO)))))))))),?_⟩
  obtain⟨bd,ch,fi,ds,kb,h1,_⟩:=hX.ex
  refine⟨_,rfl,s,ds,_,rfl,h1,fX,_,rfl,s,y,rfl,hX,hy,fun ht H1 l1 nm s1 ey hn hl1 e1=> ?_,fun ht H1 s1=>q1 ht H1 (gR s1)⟩
  obtain⟨q3,q4⟩:=q2 nm ey hn
  have hv1:=hv.same s1
  obtain⟨v6,dv,fs,ev,no⟩:=hv1.ins
  refine⟨_,rfl,_,rfl,_,_,v.a,dv,fs,RQ.at v6,rfl,ev,no,s,v,rfl,rfl,hk,hv1,hX.same s1,fun H2 l2 s2 hl2 e2=>⟨x,l2,_,rfl,hx,e2,fun c1=> ?_,fun c1=>q3 (by rw[c1];rfl) H2 (gR (s1.trans s2))⟩⟩
  have s12:=s1.trans s2
  refine⟨_,rfl,_,rfl,z,l1,_,rfl,hz,s2 _ _ e1,fun c2=> ?_,fun c2=>q3 (by rw[c1,c2];rfl) H2 (gR s12)⟩
  obtain⟨q5,q6⟩:=q4 (by rw[c1,c2];rfl)
  have hp2:=s12 _ _ hp
  refine⟨_,rfl,_,rfl,p,C 5,dx,[],rfl,hp2,Z.B.cl,Z.B.n_view,by decide,?_⟩
  refine⟨_,rfl,_,rfl,p,C 5,dx,_,rfl,aG,Z.B.cl,Z.B.n_key,(show 1<1000 by decide),?_⟩
  refine⟨_,rfl,_,rfl,p,C 5,dx,_,rfl,aG,Z.B.cl,Z.B.n_sheet,(show 2<1000 by decide),?_⟩
  refine⟨_,rfl,_,rfl,p,C 5,dx,_,rfl,aG,Z.B.cl,Z.B.n_name,(show 3<1000 by decide),?_⟩
  refine⟨_,rfl,_,rfl,p,C 5,dx,_,rfl,aG,Z.B.cl,Z.B.n_theirs,(show 4<1000 by decide),?_⟩
  have sx:∀o1 o2 o3 o4 o5,eD p H2 (upd (upd (upd (upd (upd H2 p o1) p o2) p o3) p o4) p o5):=fun o1 o2 o3 o4 o5=>fU (fU (fU (fU fE fE) fE) fE) fE
  have sx:=sx (.ins (C 5) dx (aF "view" (.ref v.a) [])) (.ins (C 5) dx (aF "key" x (aF "view" (.ref v.a) []))) (.ins (C 5) dx (aF "sheet" (.ref s) (aF "key" x (aF "view" (.ref v.a) [])))) (.ins (C 5) dx (aF "name" y (aF "sheet" (.ref s) (aF "key" x (aF "view" (.ref v.a) []))))) (.ins (C 5) dx (pR v.a s x y z))
  have e5:=aG (H:=upd (upd (upd (upd H2 p (.ins (C 5) dx (aF "view" (.ref v.a) []))) p (.ins (C 5) dx (aF "key" x (aF "view" (.ref v.a) [])))) p (.ins (C 5) dx (aF "sheet" (.ref s) (aF "key" x (aF "view" (.ref v.a) []))))) p (.ins (C 5) dx (aF "name" y (aF "sheet" (.ref s) (aF "key" x (aF "view" (.ref v.a) [])))))) (a:=p) (o:=.ins (C 5) dx (pR v.a s x y z))
  change (fun Hx:Hp=>_) (upd (upd (upd (upd (upd H2 p (.ins (C 5) dx (aF "view" (.ref v.a) []))) p (.ins (C 5) dx (aF "key" x (aF "view" (.ref v.a) [])))) p (.ins (C 5) dx (aF "sheet" (.ref s) (aF "key" x (aF "view" (.ref v.a) []))))) p (.ins (C 5) dx (aF "name" y (aF "sheet" (.ref s) (aF "key" x (aF "view" (.ref v.a) [])))))) p (.ins (C 5) dx (pR v.a s x y z)))
  generalize upd (upd (upd (upd (upd H2 p (.ins (C 5) dx (aF "view" (.ref v.a) []))) p (.ins (C 5) dx (aF "key" x (aF "view" (.ref v.a) [])))) p (.ins (C 5) dx (aF "sheet" (.ref s) (aF "key" x (aF "view" (.ref v.a) []))))) p (.ins (C 5) dx (aF "name" y (aF "sheet" (.ref s) (aF "key" x (aF "view" (.ref v.a) [])))))) p (.ins (C 5) dx (pR v.a s x y z))=H3 at sx e5|-
  have hv3:v.At C s H3:=VQ.At.sx hp2 sx (hv1.same s2)
  have hX3:Sx CS CB CT s H3:=Sx.sx hp2 sx (hX.same s12)
  have hb3:VQ.At C s H3 (.bes p v nm):=⟨hn,⟨dx,_,e5,⟨rfl,rfl,by rw[ey];rfl,rfl⟩⟩,hv3⟩
  have bl:=(VQ.bes p v nm).len
  have bk:(VQ.bes p v nm).rk<=n+ 1:=Nat.succ_le_succ hk
  refine⟨_,rfl,p,dx,_,rfl,e5,rfl,s,.bes p v nm,rfl,rfl,bk,hb3,hX3,fun H4 l4 s4 hl4 e4=>⟨l4,_,rfl,aS.of e4,by omega,fun d hd=> ?_⟩⟩
  have s5:=s4.trans (aD.new (o:=vG P w d (iD (VQ.bes p v nm).cols) (cV (VQ.bes p v nm).cols).length) hd)
  refine⟨d,_,_,rfl,aG,_,rfl,p,dx,_,rfl,s5 _ _ e5,rfl,s,.bes p v nm,rfl,rfl,bk,hb3.same s5,hX3.same s5,fun H6 l6 s6 hl6 e6=>⟨.ref l6,_,rfl,.inl ⟨_,aS.of e6,rfl⟩,rfl,_,rfl,?_⟩⟩
  rw[List.length_map]
  have sall:=fU (fU (gR s12) sx) (gR (s5.trans s6))
  have e66:=(s5.trans s6) _ _ e5
  by_cases hl:(cV (v.cols++ (aR nm).map (cR nm))).length=(v.cols++ (aR nm).map (cR nm)).length
  ·have hd:lE (v.cols++ (aR nm).map (cR nm))=false:=decide_eq_false fun h=>h hl
   refine eM (fun h=>absurd h ?_) (fun _=>q6 hd _ sall e66)
   have hl':(cV (VQ.bes p v nm).cols).length=(VQ.bes p v nm).cols.length:=hl
   rw[hl']
   simp
  ·have hd:lE (v.cols++ (aR nm).map (cR nm))=true:=decide_eq_true hl
   refine eM (fun _=>⟨sl,q5 hd _ sall⟩) (fun h=>absurd ?_ h)
   have hl':¬(cV (VQ.bes p v nm).cols).length=(VQ.bes p v nm).cols.length:=hl
   simp
   omega
end
end My
namespace L2
open PySem PySem.Spec PyProof.Rows
theorem b5K{K:Fg}{cp:List (Nat×Str)}{tg:TG}{tt:TT}{te:TE}{σ:St}{a:Addr}{xs:List V}{D:Addr}{Q:VK}{H1:Hp}(Pv:Nat->List V->Hp->Prop)(h0:Pv 0 [] (upd H1 D (.lst [])))
 (hl:∀i ys H,H D=some (.lst ys)->Pv i ys H->aS K H a xs)
 (hs:∀i x ys H o o',xs[i]?=some x->H D=some (.lst ys)->Pv i ys H->tg x (o::o'::cO cp σ) H fun σ' H4=>∃b b',σ'=some b::some b'::cO cp σ/\tt σ' H4 fun k H5=>if k=true then te σ' H5 (kN D Pv i ys) else∃ys',H5 D=some (.lst ys')/\Pv (i+ 1) ys' H5)
 (hd:∀ys H,H D=some (.lst ys)->Pv xs.length ys H->Q (.ref D) H):a6x cp tg tt te σ (kC K a) D Q H1:=by
 refine⟨fun i m H=>m=xs.length- i/\i<=xs.length/\∃ys,H D=some (.lst ys)/\Pv i ys H,⟨xs.length,by simp,Nat.zero_le _,[],aG,h0⟩,?_⟩
 rintro i m H ⟨rfl,hi,ys,hD,p⟩
 by_cases hlt:i<xs.length
 ·refine .inr ⟨⟨xs,xs[i],hl i ys H hD p,by simp[hlt]⟩,kN D Pv i ys,fun H4=>∃ys',H4 D=some (.lst ys')/\Pv (i+ 1) ys' H4,fun y H5 ⟨h1,h2,h3⟩=>⟨ys,xs.length- (i+ 1),h1,h2,by omega,rfl,hlt,_,aG,h3⟩,fun H4 ⟨ys',h1,h2⟩=>⟨xs.length- (i+ 1),by omega,rfl,hlt,ys',h1,h2⟩,fun v H' o o' y=> ?_⟩
  obtain⟨e,y⟩:=y
  subst e
  exact hs i v ys _ o o' (y xs (hl i ys _ hD p)) hD p
 ·have e:i=xs.length:=by omega
  subst e
  exact .inl ⟨⟨xs,hl _ ys H hD p,Nat.le_refl _⟩,hd ys H hD p⟩
end L2
namespace My
open PySem L2
theorem b16:bootBuiltins "ValueError"=some (.type "ValueError"):=by kernel_rfl
def bS(c:Ad):Nat->Addr
 |0=>c.NoTable|1=>c.NoColumn|2=>c.NoPlace|_=>c.NoName
noncomputable def iC:Nat->Str
 |0=> "NoTable"|1=> "NoColumn"|2=> "NoPlace"|_=> "NoName"
structure ExJ(K:Fg)(c:Ad)(j:Nat):Prop where
 k:kM K (bS c j)
 e:PySem.W.exmOne K (.ref (bS c j)) (.ref c.ColsError)=some true
 v:PySem.W.kitOne K (.ref (bS c j)) (.type "ValueError")=some true
 i0:PySem.W.kitOne K (.ref (bS c j)) (.ref c.NoTable)=some (j==0)
 i1:PySem.W.kitOne K (.ref (bS c j)) (.ref c.NoColumn)=some (j==1)
 i2:PySem.W.kitOne K (.ref (bS c j)) (.ref c.NoPlace)=some (j==2)
 i3:PySem.W.kitOne K (.ref (bS c j)) (.ref c.NoName)=some (j==3)
 i4:PySem.W.kitOne K (.ref (bS c j)) (.ref c.Nobody)=some false
 i5:PySem.W.kitOne K (.ref (bS c j)) (.ref c.Several)=some false
 i6:PySem.W.kitOne K (.ref (bS c j)) (.ref c.Ruled)=some false
 i7:PySem.W.kitOne K (.ref (bS c j)) (.ref c.NoValue)=some false
 i8:PySem.W.kitOne K (.ref (bS c j)) (.ref c.NoSize)=some false
 i9:PySem.W.kitOne K (.ref (bS c j)) (.ref c.NoText)=some false
 i10:PySem.W.kitOne K (.ref (bS c j)) (.ref c.NoRow)=some false
 i11:PySem.W.kitOne K (.ref (bS c j)) (.ref c.NoBack)=some false
 i12:PySem.W.kitOne K (.ref (bS c j)) (.ref c.TooMuch)=some false
 i13:PySem.W.kitOne K (.ref (bS c j)) (.ref c.Ring)=some false
theorem exJ{K:Fg}{mg:Str->Option Value}{c:Ad}(X:eX K mg c){j:Nat}(h:j<4):ExJ K c j:=by
 have:j=0\/ j=1\/ j=2\/ j=3:=by omega
 rcases this with rfl|rfl|rfl|rfl
 ·exact⟨X.k_NoTable,X.e_NoTable_ColsError,X.v_NoTable,X.i_NoTable_NoTable,X.i_NoTable_NoColumn,X.i_NoTable_NoPlace,X.i_NoTable_NoName,X.i_NoTable_Nobody,X.i_NoTable_Several,X.i_NoTable_Ruled,X.i_NoTable_NoValue,X.i_NoTable_NoSize,X.i_NoTable_NoText,X.i_NoTable_NoRow,X.i_NoTable_NoBack,X.i_NoTable_TooMuch,X.i_NoTable_Ring⟩
 ·exact⟨X.k_NoColumn,X.e_NoColumn_ColsError,X.v_NoColumn,X.i_NoColumn_NoTable,X.i_NoColumn_NoColumn,X.i_NoColumn_NoPlace,X.i_NoColumn_NoName,X.i_NoColumn_Nobody,X.i_NoColumn_Several,X.i_NoColumn_Ruled,X.i_NoColumn_NoValue,X.i_NoColumn_NoSize,X.i_NoColumn_NoText,X.i_NoColumn_NoRow,X.i_NoColumn_NoBack,X.i_NoColumn_TooMuch,X.i_NoColumn_Ring⟩
 ·exact⟨X.k_NoPlace,X.e_NoPlace_ColsError,X.v_NoPlace,X.i_NoPlace_NoTable,X.i_NoPlace_NoColumn,X.i_NoPlace_NoPlace,X.i_NoPlace_NoName,X.i_NoPlace_Nobody,X.i_NoPlace_Several,X.i_NoPlace_Ruled,X.i_NoPlace_NoValue,X.i_NoPlace_NoSize,X.i_NoPlace_NoText,X.i_NoPlace_NoRow,X.i_NoPlace_NoBack,X.i_NoPlace_TooMuch,X.i_NoPlace_Ring⟩
 ·exact⟨X.k_NoName,X.e_NoName_ColsError,X.v_NoName,X.i_NoName_NoTable,X.i_NoName_NoColumn,X.i_NoName_NoPlace,X.i_NoName_NoName,X.i_NoName_Nobody,X.i_NoName_Several,X.i_NoName_Ruled,X.i_NoName_NoValue,X.i_NoName_NoSize,X.i_NoName_NoText,X.i_NoName_NoRow,X.i_NoName_NoBack,X.i_NoName_TooMuch,X.i_NoName_Ring⟩
def cS(H:Hp):List V->List (Bool×Str)->Prop:=Paired fun v p=>∃t,v= .ref t/\H t=some (.tup [.bl p.1,.str p.2])
theorem cS.same{H H':Hp}(s:aD H H'):∀{ts:List V} {ps:List (Bool×Str)},cS H ts ps->cS H' ts ps
 |_,_,.nil=> .nil
 |_,_,.cons ⟨t,e,h⟩ r=> .cons ⟨t,e,s _ _ h⟩ (cS.same s r)
theorem cS.app{H:Hp}:∀{ts us:List V} {ps qs:List (Bool×Str)},cS H ts ps->cS H us qs->cS H (ts++ us) (ps++ qs)
 |_,_,_,_,.nil,h=>h
 |_,_,_,_,.cons h t,g=> .cons h (cS.app t g)
theorem cS.at{H:Hp}:∀{ts:List V} {ps:List (Bool×Str)} {i:Nat} {x:V},cS H ts ps->ts[i]?=some x->∃t p,ps[i]?=some p/\x= .ref t/\H t=some (.tup [.bl p.1,.str p.2]):=by
 intro ts ps i x h
 induction h generalizing i with
 |nil=>intro g;simp at g
 |cons r _ ih=>
  intro g
  cases i with
  |zero=>
   obtain⟨t,e,h⟩:=r
   refine⟨t,_,rfl,?_,h⟩
   rw[<- e]
   exact(Option.some.inj g).symm
  |succ i=>exact ih (i:=i) (by simpa using g)
noncomputable def iR (j:Nat):List (Bool×Str):=[(j==0,("NoTable":Str)),(j==1,("NoColumn":Str)),(j==2,("NoPlace":Str)),(j==3,("NoName":Str)),(false,("Nobody":Str)),(false,("Several":Str)),(false,("Ruled":Str)),(false,("NoValue":Str)),(false,("NoSize":Str)),(false,("NoText":Str)),(false,("NoRow":Str)),(false,("NoBack":Str)),(false,("TooMuch":Str)),(false,("Ring":Str)),(true,("ValueError":Str))]
theorem b2H{j:Nat}(h:j<4):(((iR j).filter fun p=>p.1).map fun p=>V.str p.2)= [V.str (iC j),V.str ("ValueError":Str)]:=by
 have:j=0\/ j=1\/ j=2\/ j=3:=by omega
 rcases this with rfl|rfl|rfl|rfl<;>rfl
section
variable{P:Program}{w:World}{K:Fg}{mg:Str->Option Value}{base:Heap}
def a96(K:Fg)(c:Ad):Sp:=fun vs H Q _=>∃(ea:Addr) (j:Nat),vs= [.ref ea] /\j<4/\H ea=some (lF ea (.ref (bS c j)))/\∀H' l,aD H H'->H l=none->H' l=some (.lst [.str (iC j),.str ("ValueError":Str)])->Q (.ref l) H'
theorem jP:bB ["_law_caught","_law_kinds_here"] ["_law_caught"] (aC oN):=⟨rfl,rfl,rfl,by decide+kernel,rfl,by decide+kernel,by decide+kernel⟩
theorem rO(T:bD K mg){c:Ad}(X:eX K mg c):bG P w K mg base aJ 1 "_law_kinds" ["_law_caught"] (a96 K c):=by
 refine T.d_law_kinds.known jP (fun _ _ _ _ _ _ us hl=>dM (fun _=>rfl) us hl) (fun vs H Q E h=> ?_) (fun f cdv A outer s H vs Q E hr h=> ?_)
 ·obtain⟨ea,j,rfl,_⟩:=h
  rfl
 ·obtain⟨ea,j,rfl,hj,he,q⟩:=h
  have J:=exJ X hj
  refine⟨_,(aM (cQ (i:=1) jP.nd rfl (Or.inl rfl) (eI (aA (fC (aA (bN fT rfl T.isinstance cL (aA (pv 0) (aA (fQ X.c_NoTable) aE))) (aA bF aE))) (aA (fC (aA (bN fT rfl T.isinstance cL (aA (pv 0) (aA (fQ X.c_NoColumn) aE))) (aA bF aE))) aE))))
   (aM (cQ (i:=1) jP.nd rfl (Or.inl rfl) (bU gY (pv 1) (eI (aA (fC (aA (bN fT rfl T.isinstance cL (aA (pv 0) (aA (fQ X.c_NoPlace) aE))) (aA bF aE))) (aA (fC (aA (bN fT rfl T.isinstance cL (aA (pv 0) (aA (fQ X.c_NoName) aE))) (aA bF aE))) aE)))))
   (aM (cQ (i:=1) jP.nd rfl (Or.inl rfl) (bU gY (pv 1) (eI (aA (fC (aA (bN fT rfl T.isinstance cL (aA (pv 0) (aA (fQ X.c_Nobody) aE))) (aA bF aE))) (aA (fC (aA (bN fT rfl T.isinstance cL (aA (pv 0) (aA (fQ X.c_Several) aE))) (aA bF aE))) aE)))))
   (aM (cQ (i:=1) jP.nd rfl (Or.inl rfl) (bU gY (pv 1) (eI (aA (fC (aA (bN fT rfl T.isinstance cL (aA (pv 0) (aA (fQ X.c_Ruled) aE))) (aA bF aE))) (aA (fC (aA (bN fT rfl T.isinstance cL (aA (pv 0) (aA (fQ X.c_NoValue) aE))) (aA bF aE))) aE)))))
   (aM (cQ (i:=1) jP.nd rfl (Or.inl rfl) (bU gY (pv 1) (eI (aA (fC (aA (bN fT rfl T.isinstance cL (aA (pv 0) (aA (fQ X.c_NoSize) aE))) (aA bF aE))) (aA (fC (aA (bN fT rfl T.isinstance cL (aA (pv 0) (aA (fQ X.c_NoText) aE))) (aA bF aE))) aE)))))
   (aM (cQ (i:=1) jP.nd rfl (Or.inl rfl) (bU gY (pv 1) (eI (aA (fC (aA (bN fT rfl T.isinstance cL (aA (pv 0) (aA (fQ X.c_NoRow) aE))) (aA bF aE))) (aA (fC (aA (bN fT rfl T.isinstance cL (aA (pv 0) (aA (fQ X.c_NoBack) aE))) (aA bF aE))) aE)))))
   (aM (cQ (i:=1) jP.nd rfl (Or.inl rfl) (bU gY (pv 1) (eI (aA (fC (aA (bN fT rfl T.isinstance cL (aA (pv 0) (aA (fQ X.c_TooMuch) aE))) (aA bF aE))) (aA (fC (aA (bN fT rfl T.isinstance cL (aA (pv 0) (aA (fQ X.c_Ring) aE))) (aA bF aE))) aE)))))
   (aM (cQ (i:=1) jP.nd rfl (Or.inl rfl) (bU gY (pv 1) (eI (aA (fC (aA (bN fT rfl T.isinstance cL (aA (pv 0) (aA (gC T.ValueError b16) aE))) (aA bF aE))) aE))))
   (aK (bK (b1U a3G rfl rfl rfl (by decide) (hZ (pv 1)) (fun _ _ _ _ _=>(a3E (dL (pv 0) (fun _=>rfl)))) (fun _ _ _ _ _=>(pv 1))))))))))))),?_⟩
  have s0:aD H H:=aD.refl H
  refine⟨_,rfl,ea,bS c j,_,_,_,rfl,he,J.k,.inl ⟨_,rfl,rfl⟩,J.i0,sl,fun t0 ht0=> ?_⟩
  have u0a:=aD.new (o:=.tup [.bl (j==0),.str ("NoTable":Str)]) ht0
  have v0a:=aG (H:=H) (a:=t0) (o:=.tup [.bl (j==0),.str ("NoTable":Str)])
  generalize upd H t0 (.tup [.bl (j==0),.str ("NoTable":Str)])=H0a at u0a v0a|-
  refine⟨_,rfl,ea,bS c j,_,_,_,rfl,u0a _ _ he,J.k,.inl ⟨_,rfl,rfl⟩,J.i1,sl,fun t1 ht1=> ?_⟩
  have u0b:=aD.new (o:=.tup [.bl (j==1),.str ("NoColumn":Str)]) ht1
  have v0b:=aG (H:=H0a) (a:=t1) (o:=.tup [.bl (j==1),.str ("NoColumn":Str)])
  generalize upd H0a t1 (.tup [.bl (j==1),.str ("NoColumn":Str)])=H0b at u0b v0b|-
  refine⟨sl,fun m0 hm0=> ?_⟩
  have u0c:=aD.new (o:=.lst [.ref t0,.ref t1]) hm0
  have v0c:=aG (H:=H0b) (a:=m0) (o:=.lst [.ref t0,.ref t1])
  generalize upd H0b m0 (.lst [.ref t0,.ref t1])=H0c at u0c v0c|-
  have w0:=(u0a.trans u0b).trans u0c
  have p0:cS H0c [.ref t0,.ref t1] [(j==0,("NoTable":Str)),(j==1,("NoColumn":Str))]:=.cons ⟨_,rfl,(u0b.trans u0c) _ _ v0a⟩ (.cons ⟨_,rfl,u0c _ _ v0b⟩ .nil)
  have he1:=w0 _ _ he
  have s1:=w0
  have hl1:=v0c
  have q1:=p0
  clear w0 v0c p0 u0a u0b u0c v0a v0b
  generalize hts1:[V.ref t0,V.ref t1]=ts1 at hl1 q1|-
  generalize hH1:H0c=H1 at he1 s1 hl1 q1|-
  refine⟨_,rfl,_,rfl,ea,bS c j,_,_,_,rfl,he1,J.k,.inl ⟨_,rfl,rfl⟩,J.i2,sl,fun t2 ht2=> ?_⟩
  have u1a:=aD.new (o:=.tup [.bl (j==2),.str ("NoPlace":Str)]) ht2
  have v1a:=aG (H:=H1) (a:=t2) (o:=.tup [.bl (j==2),.str ("NoPlace":Str)])
  generalize upd H1 t2 (.tup [.bl (j==2),.str ("NoPlace":Str)])=H1a at u1a v1a|-
  refine⟨_,rfl,ea,bS c j,_,_,_,rfl,u1a _ _ he1,J.k,.inl ⟨_,rfl,rfl⟩,J.i3,sl,fun t3 ht3=> ?_⟩
  have u1b:=aD.new (o:=.tup [.bl (j==3),.str ("NoName":Str)]) ht3
  have v1b:=aG (H:=H1a) (a:=t3) (o:=.tup [.bl (j==3),.str ("NoName":Str)])
  generalize upd H1a t3 (.tup [.bl (j==3),.str ("NoName":Str)])=H1b at u1b v1b|-
  refine⟨sl,fun m1 hm1=> ?_⟩
  have u1c:=aD.new (o:=.lst [.ref t2,.ref t3]) hm1
  have v1c:=aG (H:=H1b) (a:=m1) (o:=.lst [.ref t2,.ref t3])
  generalize upd H1b m1 (.lst [.ref t2,.ref t3])=H1c at u1c v1c|-
  have w1:=(u1a.trans u1b).trans u1c
  have p1:cS H1c [.ref t2,.ref t3] [(j==2,("NoPlace":Str)),(j==3,("NoName":Str))]:=.cons ⟨_,rfl,(u1b.trans u1c) _ _ v1a⟩ (.cons ⟨_,rfl,u1c _ _ v1b⟩ .nil)
  refine⟨m0,m1,_,_,rfl,rfl,w1 _ _ hl1,v1c,Nat.le_of_lt (dN (by have:=Paired.length q1;simp only[List.length_cons,List.length_nil,List.length_append]at this|-;omega)),fun l2 hll2=> ?_⟩
  have x2:=aD.new (o:=.lst (ts1++ [.ref t2,.ref t3])) hll2
  have hl2:=aG (H:=H1c) (a:=l2) (o:=.lst (ts1++ [.ref t2,.ref t3]))
  change (fun Hx:Hp=>_) (upd H1c l2 (.lst (ts1++ [.ref t2,.ref t3])))
  generalize upd H1c l2 (.lst (ts1++ [.ref t2,.ref t3]))=H2 at x2 hl2|-
  have q2:=(cS.app (q1.same w1) p1).same x2
  have he2:=(w1.trans x2) _ _ he1
  have s2:=s1.trans (w1.trans x2)
  generalize hts2:ts1++ [V.ref t2,V.ref t3]=ts2 at hl2 q2|-
  refine⟨_,rfl,_,rfl,ea,bS c j,_,_,_,rfl,he2,J.k,.inl ⟨_,rfl,rfl⟩,J.i4,sl,fun t4 ht4=> ?_⟩
  have u2a:=aD.new (o:=.tup [.bl false,.str ("Nobody":Str)]) ht4
  have v2a:=aG (H:=H2) (a:=t4) (o:=.tup [.bl false,.str ("Nobody":Str)])
  generalize upd H2 t4 (.tup [.bl false,.str ("Nobody":Str)])=H2a at u2a v2a|-
  refine⟨_,rfl,ea,bS c j,_,_,_,rfl,u2a _ _ he2,J.k,.inl ⟨_,rfl,rfl⟩,J.i5,sl,fun t5 ht5=> ?_⟩
  have u2b:=aD.new (o:=.tup [.bl false,.str ("Several":Str)]) ht5
  have v2b:=aG (H:=H2a) (a:=t5) (o:=.tup [.bl false,.str ("Several":Str)])
  generalize upd H2a t5 (.tup [.bl false,.str ("Several":Str)])=H2b at u2b v2b|-
  refine⟨sl,fun m2 hm2=> ?_⟩
  have u2c:=aD.new (o:=.lst [.ref t4,.ref t5]) hm2
  have v2c:=aG (H:=H2b) (a:=m2) (o:=.lst [.ref t4,.ref t5])
  generalize upd H2b m2 (.lst [.ref t4,.ref t5])=H2c at u2c v2c|-
  have w2:=(u2a.trans u2b).trans u2c
  have p2:cS H2c [.ref t4,.ref t5] [(false,("Nobody":Str)),(false,("Several":Str))]:=.cons ⟨_,rfl,(u2b.trans u2c) _ _ v2a⟩ (.cons ⟨_,rfl,u2c _ _ v2b⟩ .nil)
  refine⟨l2,m2,_,_,rfl,rfl,w2 _ _ hl2,v2c,Nat.le_of_lt (dN (by have:=Paired.length q2;simp only[List.length_cons,List.length_nil,List.length_append]at this|-;omega)),fun l3 hll3=> ?_⟩
  have x3:=aD.new (o:=.lst (ts2++ [.ref t4,.ref t5])) hll3
  have hl3:=aG (H:=H2c) (a:=l3) (o:=.lst (ts2++ [.ref t4,.ref t5]))
  change (fun Hx:Hp=>_) (upd H2c l3 (.lst (ts2++ [.ref t4,.ref t5])))
  generalize upd H2c l3 (.lst (ts2++ [.ref t4,.ref t5]))=H3 at x3 hl3|-
  have q3:=(cS.app (q2.same w2) p2).same x3
  have he3:=(w2.trans x3) _ _ he2
  have s3:=s2.trans (w2.trans x3)
  generalize hts3:ts2++ [V.ref t4,V.ref t5]=ts3 at hl3 q3|-
  refine⟨_,rfl,_,rfl,ea,bS c j,_,_,_,rfl,he3,J.k,.inl ⟨_,rfl,rfl⟩,J.i6,sl,fun t6 ht6=> ?_⟩
  have u3a:=aD.new (o:=.tup [.bl false,.str ("Ruled":Str)]) ht6
  have v3a:=aG (H:=H3) (a:=t6) (o:=.tup [.bl false,.str ("Ruled":Str)])
  generalize upd H3 t6 (.tup [.bl false,.str ("Ruled":Str)])=H3a at u3a v3a|-
  refine⟨_,rfl,ea,bS c j,_,_,_,rfl,u3a _ _ he3,J.k,.inl ⟨_,rfl,rfl⟩,J.i7,sl,fun t7 ht7=> ?_⟩
  have u3b:=aD.new (o:=.tup [.bl false,.str ("NoValue":Str)]) ht7
  have v3b:=aG (H:=H3a) (a:=t7) (o:=.tup [.bl false,.str ("NoValue":Str)])
  generalize upd H3a t7 (.tup [.bl false,.str ("NoValue":Str)])=H3b at u3b v3b|-
  refine⟨sl,fun m3 hm3=> ?_⟩
  have u3c:=aD.new (o:=.lst [.ref t6,.ref t7]) hm3
  have v3c:=aG (H:=H3b) (a:=m3) (o:=.lst [.ref t6,.ref t7])
  generalize upd H3b m3 (.lst [.ref t6,.ref t7])=H3c at u3c v3c|-
  have w3:=(u3a.trans u3b).trans u3c
  have p3:cS H3c [.ref t6,.ref t7] [(false,("Ruled":Str)),(false,("NoValue":Str))]:=.cons ⟨_,rfl,(u3b.trans u3c) _ _ v3a⟩ (.cons ⟨_,rfl,u3c _ _ v3b⟩ .nil)
  refine⟨l3,m3,_,_,rfl,rfl,w3 _ _ hl3,v3c,Nat.le_of_lt (dN (by have:=Paired.length q3;simp only[List.length_cons,List.length_nil,List.length_append]at this|-;omega)),fun l4 hll4=> ?_⟩
  have x4:=aD.new (o:=.lst (ts3++ [.ref t6,.ref t7])) hll4
  have hl4:=aG (H:=H3c) (a:=l4) (o:=.lst (ts3++ [.ref t6,.ref t7]))
  change (fun Hx:Hp=>_) (upd H3c l4 (.lst (ts3++ [.ref t6,.ref t7])))
  generalize upd H3c l4 (.lst (ts3++ [.ref t6,.ref t7]))=H4 at x4 hl4|-
  have q4:=(cS.app (q3.same w3) p3).same x4
  have he4:=(w3.trans x4) _ _ he3
  have s4:=s3.trans (w3.trans x4)
  generalize hts4:ts3++ [V.ref t6,V.ref t7]=ts4 at hl4 q4|-
  refine⟨_,rfl,_,rfl,ea,bS c j,_,_,_,rfl,he4,J.k,.inl ⟨_,rfl,rfl⟩,J.i8,sl,fun t8 ht8=> ?_⟩
  have u4a:=aD.new (o:=.tup [.bl false,.str ("NoSize":Str)]) ht8
  have v4a:=aG (H:=H4) (a:=t8) (o:=.tup [.bl false,.str ("NoSize":Str)])
  generalize upd H4 t8 (.tup [.bl false,.str ("NoSize":Str)])=H4a at u4a v4a|-
  refine⟨_,rfl,ea,bS c j,_,_,_,rfl,u4a _ _ he4,J.k,.inl ⟨_,rfl,rfl⟩,J.i9,sl,fun t9 ht9=> ?_⟩
  have u4b:=aD.new (o:=.tup [.bl false,.str ("NoText":Str)]) ht9
  have v4b:=aG (H:=H4a) (a:=t9) (o:=.tup [.bl false,.str ("NoText":Str)])
  generalize upd H4a t9 (.tup [.bl false,.str ("NoText":Str)])=H4b at u4b v4b|-
  refine⟨sl,fun m4 hm4=> ?_⟩
  have u4c:=aD.new (o:=.lst [.ref t8,.ref t9]) hm4
  have v4c:=aG (H:=H4b) (a:=m4) (o:=.lst [.ref t8,.ref t9])
  generalize upd H4b m4 (.lst [.ref t8,.ref t9])=H4c at u4c v4c|-
  have w4:=(u4a.trans u4b).trans u4c
  have p4:cS H4c [.ref t8,.ref t9] [(false,("NoSize":Str)),(false,("NoText":Str))]:=.cons ⟨_,rfl,(u4b.trans u4c) _ _ v4a⟩ (.cons ⟨_,rfl,u4c _ _ v4b⟩ .nil)
  refine⟨l4,m4,_,_,rfl,rfl,w4 _ _ hl4,v4c,Nat.le_of_lt (dN (by have:=Paired.length q4;simp only[List.length_cons,List.length_nil,List.length_append]at this|-;omega)),fun l5 hll5=> ?_⟩
  have x5:=aD.new (o:=.lst (ts4++ [.ref t8,.ref t9])) hll5
  have hl5:=aG (H:=H4c) (a:=l5) (o:=.lst (ts4++ [.ref t8,.ref t9]))
  change (fun Hx:Hp=>_) (upd H4c l5 (.lst (ts4++ [.ref t8,.ref t9])))
  generalize upd H4c l5 (.lst (ts4++ [.ref t8,.ref t9]))=H5 at x5 hl5|-
  have q5:=(cS.app (q4.same w4) p4).same x5
  have he5:=(w4.trans x5) _ _ he4
  have s5:=s4.trans (w4.trans x5)
  generalize hts5:ts4++ [V.ref t8,V.ref t9]=ts5 at hl5 q5|-
  refine⟨_,rfl,_,rfl,ea,bS c j,_,_,_,rfl,he5,J.k,.inl ⟨_,rfl,rfl⟩,J.i10,sl,fun t10 ht10=> ?_⟩
  have u5a:=aD.new (o:=.tup [.bl false,.str ("NoRow":Str)]) ht10
  have v5a:=aG (H:=H5) (a:=t10) (o:=.tup [.bl false,.str ("NoRow":Str)])
  generalize upd H5 t10 (.tup [.bl false,.str ("NoRow":Str)])=H5a at u5a v5a|-
  refine⟨_,rfl,ea,bS c j,_,_,_,rfl,u5a _ _ he5,J.k,.inl ⟨_,rfl,rfl⟩,J.i11,sl,fun t11 ht11=> ?_⟩
  have u5b:=aD.new (o:=.tup [.bl false,.str ("NoBack":Str)]) ht11
  have v5b:=aG (H:=H5a) (a:=t11) (o:=.tup [.bl false,.str ("NoBack":Str)])
  generalize upd H5a t11 (.tup [.bl false,.str ("NoBack":Str)])=H5b at u5b v5b|-
  refine⟨sl,fun m5 hm5=> ?_⟩
  have u5c:=aD.new (o:=.lst [.ref t10,.ref t11]) hm5
  have v5c:=aG (H:=H5b) (a:=m5) (o:=.lst [.ref t10,.ref t11])
  generalize upd H5b m5 (.lst [.ref t10,.ref t11])=H5c at u5c v5c|-
  have w5:=(u5a.trans u5b).trans u5c
  have p5:cS H5c [.ref t10,.ref t11] [(false,("NoRow":Str)),(false,("NoBack":Str))]:=.cons ⟨_,rfl,(u5b.trans u5c) _ _ v5a⟩ (.cons ⟨_,rfl,u5c _ _ v5b⟩ .nil)
  refine⟨l5,m5,_,_,rfl,rfl,w5 _ _ hl5,v5c,Nat.le_of_lt (dN (by have:=Paired.length q5;simp only[List.length_cons,List.length_nil,List.length_append]at this|-;omega)),fun l6 hll6=> ?_⟩
  have x6:=aD.new (o:=.lst (ts5++ [.ref t10,.ref t11])) hll6
  have hl6:=aG (H:=H5c) (a:=l6) (o:=.lst (ts5++ [.ref t10,.ref t11]))
  change (fun Hx:Hp=>_) (upd H5c l6 (.lst (ts5++ [.ref t10,.ref t11])))
  generalize upd H5c l6 (.lst (ts5++ [.ref t10,.ref t11]))=H6 at x6 hl6|-
  have q6:=(cS.app (q5.same w5) p5).same x6
  have he6:=(w5.trans x6) _ _ he5
  have s6:=s5.trans (w5.trans x6)
  generalize hts6:ts5++ [V.ref t10,V.ref t11]=ts6 at hl6 q6|-
  refine⟨_,rfl,_,rfl,ea,bS c j,_,_,_,rfl,he6,J.k,.inl ⟨_,rfl,rfl⟩,J.i12,sl,fun t12 ht12=> ?_⟩
  have u6a:=aD.new (o:=.tup [.bl false,.str ("TooMuch":Str)]) ht12
  have v6a:=aG (H:=H6) (a:=t12) (o:=.tup [.bl false,.str ("TooMuch":Str)])
  generalize upd H6 t12 (.tup [.bl false,.str ("TooMuch":Str)])=H6a at u6a v6a|-
  refine⟨_,rfl,ea,bS c j,_,_,_,rfl,u6a _ _ he6,J.k,.inl ⟨_,rfl,rfl⟩,J.i13,sl,fun t13 ht13=> ?_⟩
  have u6b:=aD.new (o:=.tup [.bl false,.str ("Ring":Str)]) ht13
  have v6b:=aG (H:=H6a) (a:=t13) (o:=.tup [.bl false,.str ("Ring":Str)])
  generalize upd H6a t13 (.tup [.bl false,.str ("Ring":Str)])=H6b at u6b v6b|-
  refine⟨sl,fun m6 hm6=> ?_⟩
  have u6c:=aD.new (o:=.lst [.ref t12,.ref t13]) hm6
  have v6c:=aG (H:=H6b) (a:=m6) (o:=.lst [.ref t12,.ref t13])
  generalize upd H6b m6 (.lst [.ref t12,.ref t13])=H6c at u6c v6c|-
  have w6:=(u6a.trans u6b).trans u6c
  have p6:cS H6c [.ref t12,.ref t13] [(false,("TooMuch":Str)),(false,("Ring":Str))]:=.cons ⟨_,rfl,(u6b.trans u6c) _ _ v6a⟩ (.cons ⟨_,rfl,u6c _ _ v6b⟩ .nil)
  refine⟨l6,m6,_,_,rfl,rfl,w6 _ _ hl6,v6c,Nat.le_of_lt (dN (by have:=Paired.length q6;simp only[List.length_cons,List.length_nil,List.length_append]at this|-;omega)),fun l7 hll7=> ?_⟩
  have x7:=aD.new (o:=.lst (ts6++ [.ref t12,.ref t13])) hll7
  have hl7:=aG (H:=H6c) (a:=l7) (o:=.lst (ts6++ [.ref t12,.ref t13]))
  change (fun Hx:Hp=>_) (upd H6c l7 (.lst (ts6++ [.ref t12,.ref t13])))
  generalize upd H6c l7 (.lst (ts6++ [.ref t12,.ref t13]))=H7 at x7 hl7|-
  have q7:=(cS.app (q6.same w6) p6).same x7
  have he7:=(w6.trans x7) _ _ he6
  have s7:=s6.trans (w6.trans x7)
  generalize hts7:ts6++ [V.ref t12,V.ref t13]=ts7 at hl7 q7|-
  refine⟨_,rfl,_,rfl,ea,bS c j,_,_,_,rfl,he7,J.k,.inr ⟨_,rfl,rfl⟩,J.v,sl,fun t14 ht14=> ?_⟩
  have u7a:=aD.new (o:=.tup [.bl true,.str ("ValueError":Str)]) ht14
  have v7a:=aG (H:=H7) (a:=t14) (o:=.tup [.bl true,.str ("ValueError":Str)])
  generalize upd H7 t14 (.tup [.bl true,.str ("ValueError":Str)])=H7a at u7a v7a|-
  refine⟨sl,fun m7 hm7=> ?_⟩
  have u7c:=aD.new (o:=.lst [.ref t14]) hm7
  have v7c:=aG (H:=H7a) (a:=m7) (o:=.lst [.ref t14])
  generalize upd H7a m7 (.lst [.ref t14])=H7c at u7c v7c|-
  have w7:=u7a.trans u7c
  have p7:cS H7c [.ref t14] [(true,("ValueError":Str))]:=.cons ⟨_,rfl,u7c _ _ v7a⟩ .nil
  refine⟨l7,m7,_,_,rfl,rfl,w7 _ _ hl7,v7c,Nat.le_of_lt (dN (by have:=Paired.length q7;simp only[List.length_cons,List.length_nil,List.length_append]at this|-;omega)),fun l8 hll8=> ?_⟩
  have x8:=aD.new (o:=.lst (ts7++ [.ref t14])) hll8
  have hl8:=aG (H:=H7c) (a:=l8) (o:=.lst (ts7++ [.ref t14]))
  change (fun Hx:Hp=>_) (upd H7c l8 (.lst (ts7++ [.ref t14])))
  generalize upd H7c l8 (.lst (ts7++ [.ref t14]))=H8 at x8 hl8|-
  have q8:cS H8 (ts7++ [.ref t14]) (iR j):=(cS.app (q7.same w7) p7).same x8
  have s8:=s7.trans (w7.trans x8)
  generalize ts7++ [V.ref t14]=ts8 at hl8 q8|-
  have l15:ts8.length=15:=Paired.length q8
  refine⟨_,rfl,l8,rfl,⟨_,aS.of hl8⟩,fun D hD=> ?_⟩
  refine b5K (K:=K) (a:=l8) (xs:=ts8) (fun i ys H2=>aD H8 H2/\ys=(((iR j).take i).filter fun p=>p.1).map fun p=>V.str p.2) ⟨aD.new hD,rfl⟩ (fun i ys H2 _ h=>aS.of (h.1 _ _ hl8)) ?_ ?_
  ·rintro i x ys H2 o o' hx h2 ⟨s2,rfl⟩
   obtain⟨t,p,e1,rfl,e3⟩:=q8.at hx
   refine⟨t,_,rfl,eB.of (s2 _ _ e3),rfl,_,_,rfl,_,_,rfl,rfl,_,_,rfl,_,rfl,_,rfl,?_⟩
   have ft:((iR j).take (i+ 1)).filter (fun p=>p.1)=((iR j).take i).filter (fun p=>p.1)++ (if p.1=true then [p] else []):=by
    rw[List.take_add_one,e1,List.filter_append]
    congr 1
    cases h:p.1 with
    |true=>simp[h]
    |false=>simp[h]
   cases h:p.1 with
   |true=>
    rw[h,if_pos rfl]at ft
    refine bC ⟨_,rfl,h2,dN ?_,s2.on hD,by rw[ft,List.map_append];rfl⟩
    rw[List.length_map]
    have:=List.length_filter_le (fun p:Bool×Str=>p.1) ((iR j).take i)
    rw[List.length_take]at this
    have:(iR j).length=15:=rfl
    omega
   |false=>
    rw[h,if_neg (by decide)]at ft
    exact aZ ⟨_,h2,s2,by rw[ft,List.append_nil]⟩
  ·rintro ys H2 h2 ⟨s2,rfl⟩
   rw[l15,show(iR j).take 15=iR j from rfl,b2H hj]at h2
   exact q H2 D (s8.trans s2) (gH s8 hD) h2
end
theorem b4r{xs:List V}{i:Nat}{v:V}(h:xs[i]?=some v):gB xs (i:Int)=some v:=by
 have hi:=(List.getElem?_eq_some_iff.mp h).1
 obtain⟨u,h1,h2⟩:=b06 xs (i:Int) (by omega) (by omega)
 rw[Int.toNat_natCast,h]at h2
 cases h2
 exact h1
noncomputable def eR:V->Str
 | .str t=>t
 |_=> ""
noncomputable def gI (nm:Str):Str:=if nm= "one" then "a" else "b"
noncomputable def gD (k:Nat) (own:List Str) (x y z p r:V):Option Nat:=
 if(k=0\/ k=5)/\cK x=false then some 0
 else if(k=1\/ k=2\/ k=5)/\cU own y=false then some 1
 else if k=5/\cU (aR (eR x)) z=false then some 1
 else if k=3/\(dX p&&dX r)=false then some 2
 else if k=5/\cR (eR x) (gI (eR x))∈own then some 3
 else none
noncomputable def dueS:Option Nat->Str
 |none=> ""
 |some j=>iC j
structure Tb(tb:Addr)(H:Hp):Prop where
 ex:∃t1 t2,H tb=some (.dK [((.inr "one":aI),V.ref t1),((.inr "two":aI),V.ref t2)])/\H t1=some (.lst ((aR "one").map V.str))/\H t2=some (.lst ((aR "two").map V.str))
theorem Tb.same{tb:Addr}{H H':Hp}(h:Tb tb H)(s:aD H H'):Tb tb H':=by
 obtain⟨t1,t2,a,b,c⟩:=h.ex
 exact⟨t1,t2,s _ _ a,s _ _ b,s _ _ c⟩
theorem Tb.at{tb:Addr}{H:Hp}(h:Tb tb H){nm:Str}(hn:bX nm=true):∃kvs l,H tb=some (.dK kvs)/\cE kvs (.inr nm:aI)=some (.ref l)/\H l=some (.lst ((aR nm).map V.str)):=by
 obtain⟨t1,t2,a,b,c⟩:=h.ex
 rcases iA hn with rfl|rfl
 ·exact⟨_,t1,a,rfl,b⟩
 ·exact⟨_,t2,a,rfl,c⟩
theorem Tb.no{tb:Addr}{H:Hp}(h:Tb tb H){nm:Str}(hn:bX nm=false):∃kvs,H tb=some (.dK kvs)/\cE kvs (.inr nm:aI)=none:=by
 obtain⟨t1,t2,a,b,c⟩:=h.ex
 unfold bX at hn
 rw[Bool.or_eq_false_iff,beq_eq_false_iff_ne,beq_eq_false_iff_ne]at hn
 refine⟨_,a,?_⟩
 rw[lD (fun e=>hn.1 (Sum.inr.inj e).symm),lD (fun e=>hn.2 (Sum.inr.inj e).symm)]
 rfl
theorem b0w{nm:Str}(h:bX nm=true):(aR nm)[0]?=some (gI nm):=by
 rcases iA h with rfl|rfl<;>rfl
theorem in2(k:Nat)(h:k<6):cB (.int (k:Int)) [.int 0,.int 5]=decide (k=0\/ k=5):=by
 have:k=0\/ k=1\/ k=2\/ k=3\/ k=4\/ k=5:=by omega
 rcases this with rfl|rfl|rfl|rfl|rfl|rfl<;>rfl
theorem in3(k:Nat)(h:k<6):cB (.int (k:Int)) [.int 1,.int 2,.int 5]=decide (k=1\/ k=2\/ k=5):=by
 have:k=0\/ k=1\/ k=2\/ k=3\/ k=4\/ k=5:=by omega
 rcases this with rfl|rfl|rfl|rfl|rfl|rfl<;>rfl
theorem gS(k m:Nat):decide (V.int (k:Int)=V.int (m:Int))=decide (k=m):=by
 by_cases h:k=m
 ·subst h;simp
 ·rw[decide_eq_false h,decide_eq_false (fun e=>h (by injection e with e;omega))]
section
variable{P:Program}{w:World}{K:Fg}{mg:Str->Option Value}{base:Heap}
def spLw(K:Fg):Sp:=fun vs H Q _=>∃x,vs= [x] /\bM x/\Q (.bl (match x with| .int _=>true|_=>false)) H
theorem b3N:bB ["_law_thing"] ["_law_thing"] (aC pS):=⟨rfl,rfl,rfl,by decide+kernel,rfl,by decide+kernel,by decide+kernel⟩
theorem rQ(T:bD K mg):bG P w K mg base aJ 1 "_law_whole" ["_law_thing"] (spLw K):=by
 refine T.d_law_whole.known b3N (fun _ _ _ _ _ _ us hl=>dM (fun _=>rfl) us hl) (fun vs H Q E h=> ?_) (fun f cdv A outer s H vs Q E hr h=> ?_)
 ·obtain⟨x,rfl,_⟩:=h
  rfl
 ·obtain⟨x,rfl,hF,q⟩:=h
  refine⟨_,(aK (bK (nA (bN gO rfl T.isinstance cL (aA (pv 0) (aA (gC T.int a9z) aE))) (mM (b0y (bN gO rfl T.isinstance cL (aA (pv 0) (aA (gC T.bool b0c) aE)))))))),?_⟩
  cases hF with
  |non=>exact⟨_,rfl,_,"int",.none,_,rfl,.non,rM K _,_,rfl,aZ q⟩
  |bl b=>exact⟨_,rfl,_,"int",.bool b,_,rfl,.bl b,rM K _,_,rfl,bC ⟨_,rfl,_,"bool",.bool b,_,rfl,.bl b,a4a K _,_,rfl,q⟩⟩
  |int i=>exact⟨_,rfl,_,"int",.int i,_,rfl,.int i,rM K _,_,rfl,bC ⟨_,rfl,_,"bool",.int i,_,rfl,.int i,a4a K _,_,rfl,q⟩⟩
  |str t h=>exact⟨_,rfl,_,"int",.str t,_,rfl,.str t,rM K _,_,rfl,aZ q⟩
def b0p(K:Fg):Sp:=fun vs H Q _=>∃(k:Nat) (ol tb:Addr) (own:List Str) (x y z p r:V),vs= [.int (k:Int),.ref ol,.ref tb,x,y,z,p,r] /\k<6/\H ol=some (.lst (own.map V.str))/\Tb tb H/\bM x/\bM y/\bM z/\bM p/\bM r/\∀H',aD H H'->Q (.str (dueS (gD k own x y z p r))) H'
abbrev qP:List Str:=["_law_kind","_law_own","_law_tables","_law_table","_law_column","_law_theirs","_law_start","_law_count","_law_number"]
abbrev Pdue:List Str:=["_law_kind","_law_own","_law_tables","_law_table","_law_column","_law_theirs","_law_start","_law_count"]
theorem b0k:bB qP Pdue (aC gE):=⟨rfl,rfl,rfl,by decide+kernel,rfl,by decide+kernel,by decide+kernel⟩
theorem oZ{x:V}(h:cK x=true)(hx:bM x):∃nm,x= .str nm/\bX nm=true:=by
 cases hx with
 |str t _=>exact⟨t,rfl,h⟩
 |non=>cases h
 |bl _=>cases h
 |int _=>cases h
theorem nK(T:bD K mg):bG P w K mg base aJ 2 "_law_due" Pdue (b0p K):=by
 have G_w:bG P w K mg base aJ 1 "_law_whole" ["_law_thing"] (spLw K):=rQ T
 refine T.d_law_due.known b0k (fun _ _ _ _ _ _ us hl=>bi8 (fun _ _ _ _ _ _ _ _=>rfl) us hl) (fun vs H Q E h=> ?_) (fun f cdv A outer s H vs Q E hr h=> ?_)
 ·obtain⟨k,ol,tb,own,x,y,z,p,r,rfl,_⟩:=h
  rfl
 ·obtain⟨k,ol,tb,own,x,y,z,p,r,rfl,hk,hol,hT,hx,hy,hz,hp,hr',q⟩:=h
  have hu:=fB hr
  have st5:∃t,cD (dQ aJ P w K mg base qP "_law_due" (aC gE) f cdv A outer s H E).nox ((aL gE).drop 4) t/\∀H1 o,aD H H1->¬((k=0\/ k=5)/\cK x=false)->¬((k=1\/ k=2\/ k=5)/\cU own y=false)->¬(k=5/\cU (aR (eR x)) z=false)->¬(k=3/\(dX p&&dX r)=false)->t {nx:=fun _ H'=>Q .non H',rt:=Q} [some (.int (k:Int)),some (.ref ol),some (.ref tb),some x,some y,some z,some p,some r,o] H1:=by
   refine⟨_,(aM (bL (PW.pt (mR (bP fZ (pv 0) bE (cI _)) (lP (bP kJ (bU mK (bU mK (pv 3) bF) (kB iV (gZ hu (pv 2) (pv 3) (fun _ _=>rfl)) bE (fun _ _=>rfl))) (pv 1) (by with_unfolding_all rfl))))) (aK (bK bF)) bO)
    (aK (bK bF))),fun H1 o s1 c1 c2 c3 c4=> ?_⟩
   have fin:¬(k=5/\cR (eR x) (gI (eR x))∈own)->Q (.str ("":Str)) H1:=fun c5=>by
    have:=q H1 s1
    unfold gD at this
    rw[if_neg c1,if_neg c2,if_neg c3,if_neg c4,if_neg c5]at this
    exact this
   refine⟨_,rfl,rfl,_,rfl,?_⟩
   rw[show decide (V.int (k:Int)=V.int 5)=decide (k=5) from gS k 5]
   by_cases h5:k=5
   ·rw[decide_eq_true h5]
    have ht:cK x=true:=by
     cases h:cK x with
     |true=>rfl
     |false=>exact absurd ⟨.inr h5,h⟩ c1
    obtain⟨nm,rfl,hn⟩:=oZ ht hx
    obtain⟨kvs,l,a1,a2,a3⟩:=(hT.same s1).at hn
    obtain⟨l1',l2'⟩:=a4S hn (List.mem_of_getElem? (b0w hn))
    have d1:(".":Str).length=1:=by decide+kernel
    have d2:(nm++ (".":Str)).length=nm.length+ 1:=by rw[Str.length_append,d1]
    refine bC ⟨_,rfl,nm,".",rfl,rfl,sl (by omega),_,rfl,_,rfl,tb,_,rfl,a2▸cP.k (k:=Sum.inr nm) a1,l,_,(0:Int),.str (gI nm),rfl,rfl,aS.of a3,b4r (i:=0) (by rw[List.getElem?_map,b0w hn];rfl),_,_,rfl,rfl,sl (by omega),_,rfl,ol,_,rfl,.inl (aS.of (s1 _ _ hol)),rfl,gN _,_,rfl,?_⟩
    rw[show (if false=true then !cB (.str (nm++ (".":Str)++ gI nm)) (own.map V.str) else cB (.str (nm++ (".":Str)++ gI nm)) (own.map V.str))=decide (cR nm (gI nm)∈own)by rw[if_neg Bool.false_ne_true,gW];rfl]
    by_cases hc:cR nm (gI nm)∈own
    ·rw[decide_eq_true hc]
     refine bC ?_
     have:=q H1 s1
     unfold gD at this
     rw[if_neg c1,if_neg c2,if_neg c3,if_neg c4,if_pos ⟨h5,hc⟩]at this
     exact this
    ·rw[decide_eq_false hc]
     exact aZ (fin fun h=>hc h.2)
   ·rw[decide_eq_false h5]
    exact aZ (fin fun h=>h5 h.1)
  obtain⟨t5,p5,q5⟩:=st5
  have st4:∃t,cD (dQ aJ P w K mg base qP "_law_due" (aC gE) f cdv A outer s H E).nox ((aL gE).drop 3) t/\∀H1 o,aD H H1->¬((k=0\/ k=5)/\cK x=false)->¬((k=1\/ k=2\/ k=5)/\cU own y=false)->¬(k=5/\cU (aR (eR x)) z=false)->t {nx:=fun _ H'=>Q .non H',rt:=Q} [some (.int (k:Int)),some (.ref ol),some (.ref tb),some x,some y,some z,some p,some r,o] H1:=by
   refine⟨_,(aM (bL (bP fZ (pv 0) bE (cI _)) (aK (tU PassesOwn.never rfl (hZ (eI (aA (pv 6) (aA (pv 7) aE)))) (lI (i:=8) b0k.nd rfl (Or.inl rfl)) (aK (bL (PW.pt (eS (dG (dL (bZ G_w hr bA (aA (pv 8) aE)) (fun _=>rfl))) (eV (bP uB (pv 8) bE (cI _))))) (aK (bK bF)) bO)))) bO)
    p5),fun H1 o s1 c1 c2 c3=> ?_⟩
   refine⟨_,rfl,rfl,_,rfl,?_⟩
   rw[show decide (V.int (k:Int)=V.int 3)=decide (k=3) from gS k 3]
   by_cases h3:k=3
   ·rw[decide_eq_true h3]
    have bad:(dX p&&dX r)=false->∀H2,aD H H2->Q (.str ("NoPlace":Str)) H2:=fun hb H2 s2=>by
     have:=q H2 s2
     unfold gD at this
     rw[if_neg c1,if_neg c2,if_neg c3,if_pos ⟨h3,hb⟩]at this
     exact this
    refine bC ⟨_,rfl,_,rfl,sl,fun l hl=> ?_⟩
    have s2:=aD.new (o:=.lst [p,r]) hl
    have e2:upd H1 l (.lst [p,r]) l=some (.lst [p,r]):=aG
    generalize upd H1 l (.lst [p,r])=H2 at s2 e2|-
    have s12:=s1.trans s2
    refine⟨l,rfl,⟨_,aS.of e2⟩,?_⟩
    refine sX (K:=K) (a:=l) (xs:=[p,r]) (fun i σ H3=>∃o,σ= [some (.int (k:Int)),some (.ref ol),some (.ref tb),some x,some y,some z,some p,some r,o] /\H2=H3/\(1<=i->dX p=true)/\(2<=i->dX r=true)) ⟨_,rfl,rfl,fun h=>by{omega},fun h=>by{omega}⟩ (by rintro i σ H3 _ ⟨_,_,rfl,_⟩;exact aS.of e2) ?_ ?_
    ·rintro i v σ H3 hv ⟨o,rfl,rfl,i1,i2⟩
     have hF:bM v/\((i=0/\v=p)\/ (i=1/\v=r)):=by
      match i,hv with
      |0,hv=>cases hv;exact⟨hp,.inl ⟨rfl,rfl⟩⟩
      |1,hv=>cases hv;exact⟨hr',.inr ⟨rfl,rfl⟩⟩
     obtain⟨hF,hi⟩:=hF
     have nb:dX v=false->(dX p&&dX r)=false:=fun h=>by
      rcases hi with⟨_,rfl⟩|⟨_,rfl⟩
      ·rw[h];rfl
      ·rw[h,Bool.and_false]
     have good:dX v=true->(1<=i+ 1->dX p=true)/\(2<=i+ 1->dX r=true):=fun h=>by
      rcases hi with⟨rfl,rfl⟩|⟨rfl,rfl⟩
      ·exact⟨fun _=>h,fun h'=>by omega⟩
      ·exact⟨fun _=>i1 (by omega),fun _=>h⟩
     refine⟨_,rfl,v,rfl,hF,_,rfl,?_⟩
     cases hF with
     |non=>exact bC (bad (nb rfl) _ s12)
     |bl b=>exact bC (bad (nb rfl) _ s12)
     |str t h=>exact bC (bad (nb rfl) _ s12)
     |int i'=>
      refine aZ ⟨_,rfl,_,_,rfl,rfl,_,rfl,?_⟩
      by_cases hi':i'<0
      ·rw[decide_eq_true hi']
       exact bC (bad (nb (decide_eq_false (by omega))) _ s12)
      ·rw[decide_eq_false hi']
       have g:=good (decide_eq_true (by omega))
       exact aZ ⟨_,rfl,rfl,g.1,g.2⟩
    ·rintro σ H3 ⟨o,rfl,rfl,i1,i2⟩
     exact q5 _ _ s12 c1 c2 c3 (fun h=>by rw[i1 (show 1<=2 by decide),i2 (show 2<=2 by decide)]at h;cases h.2)
   ·rw[decide_eq_false h3]
    exact aZ (q5 _ _ s1 c1 c2 c3 fun h=>h3 h.1)
  obtain⟨t4,p4,q4⟩:=st4
  have st3:∃t,cD (dQ aJ P w K mg base qP "_law_due" (aC gE) f cdv A outer s H E).nox ((aL gE).drop 2) t/\∀H1 o,aD H H1->¬((k=0\/ k=5)/\cK x=false)->¬((k=1\/ k=2\/ k=5)/\cU own y=false)->t {nx:=fun _ H'=>Q .non H',rt:=Q} [some (.int (k:Int)),some (.ref ol),some (.ref tb),some x,some y,some z,some p,some r,o] H1:=by
   refine⟨_,(aM (bL (PW.pt (mR (bP fZ (pv 0) bE (cI _)) (lP (PW.pt (eS (dG (dL (bN gO rfl T.isinstance cL (aA (pv 5) (aA (gC T.str lO) aE))) (fun _=>rfl))) (eV (bP rP (pv 5) (gZ hu (pv 2) (pv 3) (fun _ _=>rfl)) (by with_unfolding_all rfl)))))))) (aK (bK bF)) bO)
    p4),fun H1 o s1 c1 c2=> ?_⟩
   refine⟨_,rfl,rfl,_,rfl,?_⟩
   rw[show decide (V.int (k:Int)=V.int 5)=decide (k=5) from gS k 5]
   by_cases h5:k=5
   ·rw[decide_eq_true h5]
    have ht:cK x=true:=by
     cases h:cK x with
     |true=>rfl
     |false=>exact absurd ⟨.inr h5,h⟩ c1
    obtain⟨nm,rfl,hn⟩:=oZ ht hx
    have bad:cU (aR nm) z=false->Q (.str ("NoColumn":Str)) H1:=fun hb=>by
     have:=q H1 s1
     unfold gD at this
     rw[if_neg c1,if_neg c2,if_pos ⟨h5,hb⟩]at this
     exact this
    refine bC ?_
    cases hz with
    |non=>exact⟨_,rfl,_,"str",.none,_,rfl,.non,eT K _,_,rfl,bC (bad rfl)⟩
    |bl b=>exact⟨_,rfl,_,"str",.bool b,_,rfl,.bl b,eT K _,_,rfl,bC (bad rfl)⟩
    |int i=>exact⟨_,rfl,_,"str",.int i,_,rfl,.int i,eT K _,_,rfl,bC (bad rfl)⟩
    |str t h8=>
     obtain⟨kvs,l,a1,a2,a3⟩:=(hT.same s1).at hn
     refine⟨_,rfl,_,"str",.str t,_,rfl,.str t,eT K _,_,rfl,aZ ⟨_,rfl,_,rfl,_,rfl,tb,_,rfl,a2▸cP.k (k:=Sum.inr nm) a1,l,_,rfl,.inl (aS.of a3),rfl,gN _,_,rfl,?_⟩⟩
     rw[show (if true=true then !cB (.str t) ((aR nm).map V.str) else cB (.str t) ((aR nm).map V.str))= !decide (t∈aR nm)by rw[if_pos rfl,gW]]
     by_cases hc:t∈aR nm
     ·rw[decide_eq_true hc]
      exact aZ (q4 _ _ s1 c1 c2 (fun h=>by have h2:decide (t∈aR nm)=false:=h.2;rw[decide_eq_true hc]at h2;cases h2))
     ·rw[decide_eq_false hc]
      exact bC (bad (decide_eq_false hc))
   ·rw[decide_eq_false h5]
    exact aZ (q4 _ _ s1 c1 c2 fun h=>h5 h.1)
  obtain⟨t3,p3,q3⟩:=st3
  have st2:∃t,cD (dQ aJ P w K mg base qP "_law_due" (aC gE) f cdv A outer s H E).nox ((aL gE).drop 1) t/\∀H1 o,aD H H1->¬((k=0\/ k=5)/\cK x=false)->t {nx:=fun _ H'=>Q .non H',rt:=Q} [some (.int (k:Int)),some (.ref ol),some (.ref tb),some x,some y,some z,some p,some r,o] H1:=by
   refine⟨_,(aM (bL (PW.pt (mR (bP kJ (pv 0) (fC (aA bE (aA bE (aA bE aE)))) (by with_unfolding_all rfl)) (lP (PW.pt (eS (dG (dL (bN gO rfl T.isinstance cL (aA (pv 4) (aA (gC T.str lO) aE))) (fun _=>rfl))) (eV (bP rP (pv 4) (pv 1) (by with_unfolding_all rfl)))))))) (aK (bK bF)) bO)
    p3),fun H1 o s1 c1=> ?_⟩
   refine⟨_,rfl,sl,fun t ht=> ?_⟩
   have s2:=aD.new (o:=.tup [.int 1,.int 2,.int 5]) ht
   have e2:upd H1 t (.tup [.int 1,.int 2,.int 5]) t=some (.tup [.int 1,.int 2,.int 5]):=aG
   generalize upd H1 t (.tup [.int 1,.int 2,.int 5])=H2 at s2 e2|-
   have s12:=s1.trans s2
   refine⟨t,_,rfl,.inr (eB.of e2),rfl,rfl,_,rfl,?_⟩
   rw[show (if false=true then !cB (.int (k:Int)) [.int 1,.int 2,.int 5] else cB (.int (k:Int)) [.int 1,.int 2,.int 5])=decide (k=1\/ k=2\/ k=5)by rw[if_neg Bool.false_ne_true,in3 k hk]]
   by_cases hm:k=1\/ k=2\/ k=5
   ·rw[decide_eq_true hm]
    have bad:cU own y=false->Q (.str ("NoColumn":Str)) H2:=fun hb=>by
     have:=q H2 s12
     unfold gD at this
     rw[if_neg c1,if_pos ⟨hm,hb⟩]at this
     exact this
    refine bC ?_
    cases hy with
    |non=>exact⟨_,rfl,_,"str",.none,_,rfl,.non,eT K _,_,rfl,bC (bad rfl)⟩
    |bl b=>exact⟨_,rfl,_,"str",.bool b,_,rfl,.bl b,eT K _,_,rfl,bC (bad rfl)⟩
    |int i=>exact⟨_,rfl,_,"str",.int i,_,rfl,.int i,eT K _,_,rfl,bC (bad rfl)⟩
    |str t' h8=>
     refine⟨_,rfl,_,"str",.str t',_,rfl,.str t',eT K _,_,rfl,aZ ⟨_,rfl,_,rfl,ol,_,rfl,.inl (aS.of (s12 _ _ hol)),rfl,gN _,_,rfl,?_⟩⟩
     rw[show (if true=true then !cB (.str t') (own.map V.str) else cB (.str t') (own.map V.str))= !decide (t'∈own)by rw[if_pos rfl,gW]]
     by_cases hc:t'∈own
     ·rw[decide_eq_true hc]
      exact aZ (q3 _ _ s12 c1 (fun h=>by have h2:decide (t'∈own)=false:=h.2;rw[decide_eq_true hc]at h2;cases h2))
     ·rw[decide_eq_false hc]
      exact bC (bad (decide_eq_false hc))
   ·rw[decide_eq_false hm]
    exact aZ (q3 _ _ s12 c1 fun h=>hm h.1)
  obtain⟨t2,p2,q2⟩:=st2
  refine⟨_,(aM (bL (PW.pt (mR (bP kJ (pv 0) (fC (aA bE (aA bE aE))) (by with_unfolding_all rfl)) (lP (PW.pt (eS (dG (dL (bN gO rfl T.isinstance cL (aA (pv 3) (aA (gC T.str lO) aE))) (fun _=>rfl))) (eV (kO (oQ hu (pv 3) (pv 2))))))))) (aK (bK bF)) bO)
   p2),?_⟩
  refine⟨_,rfl,sl,fun t ht=> ?_⟩
  have s2:=aD.new (o:=.tup [.int 0,.int 5]) ht
  have e2:upd H t (.tup [.int 0,.int 5]) t=some (.tup [.int 0,.int 5]):=aG
  generalize upd H t (.tup [.int 0,.int 5])=H2 at s2 e2|-
  refine⟨t,_,rfl,.inr (eB.of e2),rfl,rfl,_,rfl,?_⟩
  rw[show (if false=true then !cB (.int (k:Int)) [.int 0,.int 5] else cB (.int (k:Int)) [.int 0,.int 5])=decide (k=0\/ k=5)by rw[if_neg Bool.false_ne_true,in2 k hk]]
  by_cases hm:k=0\/ k=5
  ·rw[decide_eq_true hm]
   have bad:cK x=false->Q (.str ("NoTable":Str)) H2:=fun hb=>by
    have:=q H2 s2
    unfold gD at this
    rw[if_pos ⟨hm,hb⟩]at this
    exact this
   refine bC ?_
   cases hx with
   |non=>exact⟨_,rfl,_,"str",.none,_,rfl,.non,eT K _,_,rfl,bC (bad rfl)⟩
   |bl b=>exact⟨_,rfl,_,"str",.bool b,_,rfl,.bl b,eT K _,_,rfl,bC (bad rfl)⟩
   |int i=>exact⟨_,rfl,_,"str",.int i,_,rfl,.int i,eT K _,_,rfl,bC (bad rfl)⟩
   |str nm h8=>
    refine⟨_,rfl,_,"str",.str nm,_,rfl,.str nm,eT K _,_,rfl,aZ ?_⟩
    cases hn:bX nm with
    |true=>
     obtain⟨kvs,l,a1,a2,a3⟩:=(hT.same s2).at hn
     refine⟨_,rfl,_,rfl,tb,_,rfl,cP.k (k:=Sum.inr nm) a1,_,rfl,?_⟩
     rw[a2]
     exact aZ (q2 _ _ s2 (fun h=>by have h2:bX nm=false:=h.2;rw[hn]at h2;cases h2))
    |false=>
     obtain⟨kvs,a1,a2⟩:=(hT.same s2).no hn
     refine⟨_,rfl,_,rfl,tb,_,rfl,cP.k (k:=Sum.inr nm) a1,_,rfl,?_⟩
     rw[a2]
     exact bC (bad hn)
  ·rw[decide_eq_false hm]
   exact aZ (q2 _ _ s2 fun h=>hm h.1)
end
noncomputable def kF (k:Nat) (own:List Str) (x:V):List Str:=
 if k=0 then aR (eR x) else if k=4 then own.filter (fun c=>decide (c∈aR "one")) else if k=5 then own++ (aR (eR x)).map (cR (eR x)) else own
noncomputable def iK:List (List Str):=[["a","b","key"],["b","key","c"],["a","b","key","two.b","two.key","two.c"],["b","key","c","two.b","two.key","two.c"]]
theorem a6U{own:List Str}(ho:own∈iK){nm:Str}(hn:bX nm=true):lE (own++ (aR nm).map (cR nm))=decide (cR nm (gI nm)∈own):=by
 have key:∀own∈iK,∀nm∈ [("one":Str),"two"],lE (own++ (aR nm).map (cR nm))=decide (cR nm (gI nm)∈own):=by decide+kernel
 exact key own ho nm (by rcases iA hn with rfl|rfl<;>simp)
section
variable{P:Program}{w:World}{K:Fg}{mg:Str->Option Value}{base:Heap}
def b0z(K:Fg):Sp:=fun vs H Q _=>∃(k:Nat) (ol tb:Addr) (own:List Str) (x:V),vs= [.int (k:Int),.ref ol,.ref tb,x] /\k<6/\H ol=some (.lst (own.map V.str))/\own.length<=9/\Tb tb H/\bM x/\(k=0\/ k=5->cK x=true)/\∀H' l,aD H H'->H' l=some (.lst ((kF k own x).map V.str))->Q (.ref l) H'
abbrev jW:List Str:=["_law_kind","_law_own","_law_tables","_law_table"]
theorem b2O:bB jW jW (aC iI):=⟨rfl,rfl,rfl,by decide+kernel,rfl,by decide+kernel,by decide+kernel⟩
theorem oJ(T:bD K mg):bG P w K mg base aJ 1 "_law_columns" jW (b0z K):=by
 refine T.d_law_columns.known b2O (fun _ _ _ _ _ _ us hl=>rB (fun _ _ _ _=>rfl) us hl) (fun vs H Q E h=> ?_) (fun f cdv A outer s H vs Q E hr h=> ?_)
 ·obtain⟨k,ol,tb,own,x,rfl,_⟩:=h
  rfl
 ·obtain⟨k,ol,tb,own,x,rfl,hk,hol,o9,hT,hx,hk5,q⟩:=h
  have hu:=fB hr
  have hcl:∀x,(dQ aJ P w K mg base jW "_law_columns" (aC iI) f cdv A outer s H E).nox.env.scope.names.lookup x=some .cell->∃c,(dQ aJ P w K mg base jW "_law_columns" (aC iI) f cdv A outer s H E).nox.env.cells.lookup x=some c:=fun x hx=>Option.isSome_iff_exists.mp (PySem.W.cellsFrom_some _ _ _ (.inl hx))
  refine⟨_,(aM (bL (bP fZ (pv 0) bE (cI _)) (aK (bK (gZ hu (pv 2) (pv 3) (fun _ _=>rfl)))) bO)
   (aM (bL (bP fZ (pv 0) bE (cI _)) (aK (bK (lU (tt:=tM (iQ (vF K false) (kZ 0) _)) (uZ (sc:=aC iI) (N:=jW) (cp:=[(2,"_law_tables")]) hcl) rfl rfl (by decide) (hZ (pv 1)) (fun _ _ _ _ _=>(a3E (bP kJ (pv 0) (gZ hu (pv 1) bF (fun _ _=>rfl)) (by with_unfolding_all rfl)))) (fun _ _ _ _ _=>(pv 0))))) bO)
   (aM (bL (bP fZ (pv 0) bE (cI _)) (aK (bK (bU gY (pv 1) (lU (uZ (sc:=aC iI) (N:=jW) (cp:=[(3,"_law_table")]) hcl) rfl rfl (by decide) (hZ (gZ hu (pv 2) (pv 3) (fun _ _=>rfl))) (fun _ _ _ _ _=>sY) (fun _ _ _ _ _=>(bU mK (bU mK (pv 1) bF) (pv 0))))))) bO)
   (aK (bK (pv 1)))))),?_⟩
  refine⟨_,rfl,rfl,_,rfl,?_⟩
  rw[show decide (V.int (k:Int)=V.int 0)=decide (k=0) from gS k 0]
  by_cases h0:k=0
  ·rw[decide_eq_true h0]
   obtain⟨nm,rfl,hn⟩:=oZ (hk5 (.inl h0)) hx
   obtain⟨kvs,l,a1,a2,a3⟩:=hT.at hn
   refine bC ⟨_,rfl,_,rfl,tb,_,rfl,a2▸cP.k (k:=Sum.inr nm) a1,q H l (aD.refl H) ?_⟩
   unfold kF
   rw[if_pos h0]
   exact a3
  rw[decide_eq_false h0]
  refine aZ ⟨_,rfl,rfl,_,rfl,?_⟩
  rw[show decide (V.int (k:Int)=V.int 4)=decide (k=4) from gS k 4]
  by_cases h4:k=4
  ·rw[decide_eq_true h4]
   obtain⟨kvs,l1,a1,a2,a3⟩:=hT.at (nm:= "one") rfl
   refine bC ⟨_,rfl,ol,rfl,⟨_,aS.of hol⟩,fun D hD=> ?_⟩
   refine a9U (K:=K) (a:=ol) (xs:=own.map V.str) (fun i ys H3=>aD H H3/\ys=((own.take i).filter fun c=>decide (c∈aR "one")).map V.str) ⟨aD.new hD,rfl⟩ (fun i ys H3 _ h=>aS.of (h.1 _ _ hol)) ?_ ?_
   ·rintro i z ys H3 hz h3 ⟨s3,rfl⟩
    rw[List.getElem?_map]at hz
    cases ec:own[i]? with
    |none=>rw[ec]at hz;cases hz
    |some c=>
     rw[ec]at hz
     obtain rfl:=Option.some.inj hz
     refine⟨_,rfl,_,rfl,tb,_,rfl,a2▸cP.k (k:=Sum.inr "one") (s3 _ _ a1),l1,_,rfl,.inl (aS.of (s3 _ _ a3)),rfl,gN _,_,rfl,?_⟩
     rw[show (if false=true then !cB (.str c) ((aR "one").map V.str) else cB (.str c) ((aR "one").map V.str))=decide (c∈aR "one")by rw[if_neg Bool.false_ne_true,gW]]
     have fs:=a9C (fun c=>decide (c∈aR "one")) _ i c ec
     by_cases hc:c∈aR "one"
     ·rw[if_pos (decide_eq_true hc)]at fs
      rw[decide_eq_true hc]
      refine bC ⟨_,rfl,h3,dN ?_,s3.on hD,?_⟩
      ·rw[List.length_map]
       have h1:=List.length_filter_le (fun c=>decide (c∈aR "one")) (own.take i)
       rw[List.length_take]at h1
       omega
      ·rw[fs,List.map_append]
       rfl
     ·have hcf:decide (c∈aR "one")=false:=decide_eq_false hc
      rw[if_neg (by rw[hcf];exact Bool.false_ne_true)]at fs
      rw[hcf]
      exact aZ ⟨_,h3,s3,by rw[fs,List.append_nil]⟩
   ·rintro ys H3 h3 ⟨s3,rfl⟩
    rw[List.length_map,List.take_length]at h3
    refine q H3 D s3 ?_
    unfold kF
    rw[if_neg h0,if_pos h4]
    exact h3
  rw[decide_eq_false h4]
  refine aZ ⟨_,rfl,rfl,_,rfl,?_⟩
  rw[show decide (V.int (k:Int)=V.int 5)=decide (k=5) from gS k 5]
  by_cases h5:k=5
  ·rw[decide_eq_true h5]
   obtain⟨nm,rfl,hn⟩:=oZ (hk5 (.inr h5)) hx
   obtain⟨kvs,l2,a1,a2,e2⟩:=hT.at hn
   refine bC ⟨_,rfl,_,rfl,_,rfl,tb,_,rfl,a2▸cP.k (k:=Sum.inr nm) a1,l2,rfl,⟨_,aS.of e2⟩,fun D hD=> ?_⟩
   refine a8b (K:=K) (a:=l2) (xs:=(aR nm).map V.str) (fun i ys H3=>aD H H3/\ys=(((aR nm).take i).map (cR nm)).map V.str) ⟨aD.new hD,rfl⟩ (fun i ys H3 _ h=>aS.of (h.1 _ _ e2)) ?_ ?_
   ·rintro i z ys H3 hz h3 ⟨s3,rfl⟩
    rw[List.getElem?_map]at hz
    cases ec:(aR nm)[i]? with
    |none=>rw[ec]at hz;cases hz
    |some c=>
     rw[ec]at hz
     obtain rfl:=Option.some.inj hz
     obtain⟨l1',l2'⟩:=a4S hn (List.mem_of_getElem? ec)
     have d1:(".":Str).length=1:=by decide+kernel
     have d2:(nm++ (".":Str)).length=nm.length+ 1:=by rw[Str.length_append,d1]
     refine⟨_,rfl,nm,".",rfl,rfl,sl (by omega),_,rfl,_,c,rfl,rfl,sl (by omega),h3,dN ?_,s3.on hD,?_⟩
     ·rw[List.length_map,List.length_map,List.length_take,kS]
      omega
     ·rw[List.take_add_one,ec,List.map_append,List.map_append]
      rfl
   ·rintro ys H3 h3 ⟨s3,rfl⟩
    rw[List.length_map,List.take_length]at h3
    refine⟨ol,D,_,_,rfl,rfl,s3 _ _ hol,h3,Nat.le_of_lt (dN ?_),fun d hd=> ?_⟩
    ·rw[List.length_map,List.length_map,List.length_map,kS]
     omega
    ·refine q _ d (s3.trans (aD.new hd)) ?_
     rw[aG]
     unfold kF
     rw[if_neg h0,if_neg h4,if_pos h5]
     show _=some (HO.lst ((own++ (aR nm).map (cR nm)).map V.str))
     rw[List.map_append]
  rw[decide_eq_false h5]
  refine aZ ⟨_,rfl,q H ol (aD.refl H) ?_⟩
  unfold kF
  rw[if_neg h0,if_neg h4,if_neg h5]
  exact hol
def spMd(c:Ad)(C:Nat->Addr)(CS CB CT:Addr):Sp:=fun vs H Q E=>∃(s:Addr) (k:Nat) (v:VQ) (x y z p r:V),vs= [.int (k:Int),.ref s,.ref v.a,x,y,z,p,r] /\k<6/\v.rk<=1/\v.At C s H/\v.cols∈iK/\Sx CS CB CT s H/\bM x/\bM y/\bM z/\bM p/\bM r/\
 (gD k v.cols x y z p r=none->∀(H':Hp) (u:VQ),aD H H'->u.At C s H'->u.rk<=2->u.cols=kF k v.cols x->Q (.ref u.a) H')/\∀j,gD k v.cols x y z p r=some j->j<4/\∀H',aD H H'->E (.ref (bS c j)) none H'
abbrev sT:List Str:=["_law_kind","_law_sheet","_law_view","_law_table","_law_column","_law_theirs","_law_start","_law_count"]
theorem b3V:bB sT sT (aC pK):=⟨rfl,rfl,rfl,by decide+kernel,rfl,by decide+kernel,by decide+kernel⟩
theorem fK{H H':Hp}{p d:Addr}{o o':HO}(hp:H p=none)(hd:H d=none)(s:eD p (upd (upd H d o) p o') H'):aD H H':=fun x u e=>s _ _ (aU e hp) (by rw[aH (aU e hp),aH (aU e hd)];exact e)
theorem oI(T:bD K mg){c:Ad}(X:eX K mg c){C:Nat->Addr}{CS CB CT:Addr}(Y:dA K mg CS)(W:cT K mg CB)(U:eL K mg CT)(Z:Z6 K mg C):bG P w K mg base (bR P w) 9 "_law_made" sT (spMd c C CS CB CT):=by
 have I0:cA P w K mg base (bR P w) 4 (C 0) ["self","sheet","table"] (a42 c C CS CB CT):=b0F T X Y W U Z
 have I1:cA P w K mg base (bR P w) 6 (C 1) ["self","view","column"] (rJ c C CS CB CT 1 1):=b0T (n:=1) T X Y W Z (by decide)
 have I2:cA P w K mg base (bR P w) 6 (C 2) ["self","view","column"] (rJ c C CS CB CT 1 2):=b3s (n:=1) T X Y W Z (by decide)
 have I3:cA P w K mg base (bR P w) 3 (C 3) ["self","view","start","count"] (a95 c C):=b41 T X Z
 have I4:cA P w K mg base aJ 1 (C 4) ["self","one","other"] (a9Y C):=b2y Z
 have I5:cA P w K mg base (bR P w) 7 (C 5) ["self","view","key","sheet","table","theirs"] (a1c c C CS CB CT 1):=b0q (n:=1) T X Y W Z (by decide)
 refine T.d_law_made.knownE b3V (fun _ _ _ _ _ _ us hl=>bi8 (fun _ _ _ _ _ _ _ _=>rfl) us hl) (fun vs H Q E h=> ?_) (fun f cdv A outer s1 H vs Q E hr h=> ?_)
 ·obtain⟨s,k,v,x,y,z,p,r,rfl,_⟩:=h
  rfl
 ·obtain⟨s,k,v,x,y,z,p,r,rfl,hk,v1,hv,ho,hX,hx,hy,hz,hp,hr',q1,q2⟩:=h
  refine⟨_,(aM (bL (bP fZ (pv 0) bE (cI _)) (aK (bK (fJ I0 (hr.mono (by decide)) Z.W.c fH (aA (pv 1) (aA (pv 3) aE))))) bO)
   (aM (bL (bP fZ (pv 0) bE (cI _)) (aK (bK (fJ I1 (hr.mono (by decide)) Z.S.c fH (aA (pv 2) (aA (pv 4) aE))))) bO)
   (aM (bL (bP fZ (pv 0) bE (cI _)) (aK (bK (fJ I2 (hr.mono (by decide)) Z.O.c fH (aA (pv 2) (aA (pv 4) aE))))) bO)
   (aM (bL (bP fZ (pv 0) bE (cI _)) (aK (bK (fJ I3 (hr.mono (by decide)) Z.U.c fH (aA (pv 2) (aA (pv 6) (aA (pv 7) aE)))))) bO)
   (aM (bL (bP fZ (pv 0) bE (cI _)) (aK (bK (fJ I4 (hr.mono (by decide)) Z.J.c bA (aA (pv 2) (aA (fJ I0 (hr.mono (by decide)) Z.W.c fH (aA (pv 1) (aA bF aE))) aE))))) bO)
   (aK (bK (fJ I5 hr Z.B.c fH (aA (pv 2) (aA (pv 4) (aA (pv 1) (aA (pv 3) (aA (pv 5) aE))))))))))))),?_⟩
  unfold gD at q1 q2
  refine⟨_,rfl,rfl,_,rfl,?_⟩
  rw[show decide (V.int (k:Int)=V.int 0)=decide (k=0) from gS k 0]
  by_cases h0:k=0
  ·subst h0
   refine bC ⟨_,rfl,_,rfl,?_⟩
   intro a d ha hd ne
   refine⟨a,d,s,x,rfl,aG,?_,hx,fun ht H' nm sx ex e=>⟨rfl,?_⟩,fun ht H' sx=> ?_⟩
   ·exact hX.same fun b o e=>by rw[aH (aU e ha),aH (aU e hd)];exact e
   ·subst ex
    refine q1 ?_ H' (.whole a nm) (fK ha hd sx) ⟨ht,d,e⟩ (Nat.zero_le _) rfl
    simp[show cK (.str nm)=true from ht]
   ·exact(q2 0 (by simp[ht])).2 H' (fK ha hd sx)
  rw[decide_eq_false h0]
  refine aZ ⟨_,rfl,rfl,_,rfl,?_⟩
  rw[show decide (V.int (k:Int)=V.int 1)=decide (k=1) from gS k 1]
  by_cases h1:k=1
  ·subst h1
   refine bC ⟨_,rfl,_,rfl,?_⟩
   intro a d ha hd ne
   have s0:aD H (upd (upd H d (.own a)) a (.ins (C 1) d [])):=fun b o e=>by rw[aH (aU e ha),aH (aU e hd)];exact e
   refine⟨a,d,s,v,y,rfl,aG,v1,hv.same s0,hX.same s0,hy,fun ht H' sx e=>⟨rfl,?_⟩,fun ht H' sx=> ?_⟩
   ·have s':=fK ha hd sx
    refine q1 ?_ H' (.via 1 a v) s' ⟨by decide,⟨d,_,e,rfl,rfl⟩,hv.same s'⟩ (Nat.succ_le_succ v1) rfl
    simp[ht]
   ·exact(q2 1 (by simp[ht])).2 H' (fK ha hd sx)
  rw[decide_eq_false h1]
  refine aZ ⟨_,rfl,rfl,_,rfl,?_⟩
  rw[show decide (V.int (k:Int)=V.int 2)=decide (k=2) from gS k 2]
  by_cases h2:k=2
  ·subst h2
   refine bC ⟨_,rfl,_,rfl,?_⟩
   intro a d ha hd ne
   have s0:aD H (upd (upd H d (.own a)) a (.ins (C 2) d [])):=fun b o e=>by rw[aH (aU e ha),aH (aU e hd)];exact e
   refine⟨a,d,s,v,y,rfl,aG,v1,hv.same s0,hX.same s0,hy,fun ht H' sx e=>⟨rfl,?_⟩,fun ht H' sx=> ?_⟩
   ·have s':=fK ha hd sx
    refine q1 ?_ H' (.via 2 a v) s' ⟨by decide,⟨d,_,e,rfl,rfl⟩,hv.same s'⟩ (Nat.succ_le_succ v1) rfl
    simp[ht]
   ·exact(q2 1 (by simp[ht])).2 H' (fK ha hd sx)
  rw[decide_eq_false h2]
  refine aZ ⟨_,rfl,rfl,_,rfl,?_⟩
  rw[show decide (V.int (k:Int)=V.int 3)=decide (k=3) from gS k 3]
  by_cases h3:k=3
  ·subst h3
   refine bC ⟨_,rfl,_,rfl,_,rfl,?_⟩
   intro a d ha hd ne
   have s0:aD H (upd (upd H d (.own a)) a (.ins (C 3) d [])):=fun b o e=>by rw[aH (aU e ha),aH (aU e hd)];exact e
   refine⟨a,d,v.a,p,r,rfl,aG,hp,hr',fun ht H' sx e=>⟨rfl,?_⟩,fun ht=> ?_⟩
   ·have s':=fK ha hd sx
    refine q1 ?_ H' (.via 3 a v) s' ⟨by decide,⟨d,_,e,rfl,rfl⟩,hv.same s'⟩ (Nat.succ_le_succ v1) rfl
    simp[ht]
   ·exact(q2 2 (by simp[ht])).2 _ s0
  rw[decide_eq_false h3]
  refine aZ ⟨_,rfl,rfl,_,rfl,?_⟩
  rw[show decide (V.int (k:Int)=V.int 4)=decide (k=4) from gS k 4]
  by_cases h4:k=4
  ·subst h4
   refine bC ⟨_,rfl,_,rfl,?_⟩
   intro b e hb he neb
   have s0:aD H (upd (upd H e (.own b)) b (.ins (C 0) e [])):=fun b' o e'=>by rw[aH (aU e' hb),aH (aU e' he)];exact e'
   refine⟨b,e,s,.str "one",rfl,aG,hX.same s0,.str _ (by decide+kernel),fun ht H1 nm sx ex e1=>⟨rfl,?_⟩,fun ht=>by cases ht⟩
   cases ex
   have s1:=fK hb he sx
   intro a d ha hd ne
   have s2:aD H1 (upd (upd H1 d (.own a)) a (.ins (C 4) d [])):=fun b o e=>by rw[aH (aU e ha),aH (aU e hd)];exact e
   refine⟨a,d,v.a,b,rfl,aG,fun H' sx' e'=>⟨rfl,?_⟩⟩
   have s':=fK ha hd sx'
   refine q1 ?_ H' (.tog a v (.whole b "one")) (s1.trans s') ⟨⟨d,e'⟩,hv.same (s1.trans s'),rfl,e,s' _ _ e1⟩ ?_ rfl
   ·simp
   ·show max v.rk 0+ 1<=2
    omega
  rw[decide_eq_false h4]
  have h5:k=5:=by omega
  subst h5
  refine aZ ⟨_,rfl,_,rfl,_,rfl,_,rfl,_,rfl,?_⟩
  intro a d ha hd ne
  have s0:aD H (upd (upd H d (.own a)) a (.ins (C 5) d [])):=fun b o e=>by rw[aH (aU e ha),aH (aU e hd)];exact e
  refine⟨a,d,s,v,y,x,z,rfl,aG,v1,hv.same s0,hX.same s0,hy,hx,hz,fun ht H' sx=>(q2 0 (by simp[ht])).2 H' (fK ha hd sx),fun nm ex hn=>⟨fun hc H' sx=> ?_,fun hc=>⟨fun hd' H' sx=> ?_,fun hd' H' sx e=>⟨rfl,?_⟩⟩⟩⟩
  ·subst ex
   have ht:cK (.str nm)=true:=hn
   refine(q2 1 ?_).2 H' (fK ha hd sx)
   cases h1:cU v.cols y with
   |false=>simp[ht]
   |true=>
    rw[h1,Bool.true_and]at hc
    have hc':cU (aR (eR (.str nm))) z=false:=hc
    simp[ht,hc']
  ·subst ex
   have ht:cK (.str nm)=true:=hn
   rw[Bool.and_eq_true]at hc
   have hc':cU (aR (eR (.str nm))) z=true:=hc.2
   rw[a6U ho hn]at hd'
   have hd2:cR (eR (.str nm)) (gI (eR (.str nm)))∈v.cols:=of_decide_eq_true hd'
   exact(q2 3 (by simp[ht,hc.1,hc',hd2])).2 H' (fK ha hd sx)
  ·subst ex
   have ht:cK (.str nm)=true:=hn
   rw[Bool.and_eq_true]at hc
   have hc':cU (aR (eR (.str nm))) z=true:=hc.2
   rw[a6U ho hn]at hd'
   have hd2:cR (eR (.str nm)) (gI (eR (.str nm)))∉v.cols:=of_decide_eq_false hd'
   have s':=fK ha hd sx
   refine q1 (by simp[ht,hc.1,hc',hd2]) H' (.bes a v nm) s' ⟨hn,⟨d,_,e,⟨rfl,rfl,rfl,rfl⟩⟩,hv.same s'⟩ (Nat.succ_le_succ v1) rfl
end
abbrev Nlaw:List Str:=["_law_script","_law_tables","_law_sheet","_law_name","_law_column","_law_cell","_law_base","_law_view","_law_own","_law_rest","_law_kind","_law_table","_law_theirs","_law_start","_law_count","_law_due_here","_law_caught","_law_made_here","e"]
theorem cY:bB Nlaw ["_law_script"] (aC gK):=⟨rfl,rfl,rfl,by decide+kernel,rfl,by decide+kernel,by decide+kernel⟩
noncomputable def forB:Stmt->List Stmt
 | .For _ _ b _ _=>b
 |_=> []
abbrev a5b:Stmt:=(aL gK).getD 3 (.Pass ⟨0,0,0,0⟩)
theorem b1b:∀{ds:List PyData},(∀d∈ds,PyData.eqv d d=true)->PyData.eqvAll ds ds=true
 | [],_=>by simp[PyData.eqvAll]
 |d::ds,h=>by
  simp only[PyData.eqvAll,Bool.and_eq_true]
  exact⟨h d List.mem_cons_self,b1b fun x hx=>h x (List.mem_cons_of_mem _ hx)⟩
theorem b0W{cs:List Str}(h:∀c∈cs,(PyData.str c).canLay0=true):(PyData.list (cs.map PyData.str)).canLay0=true/\(PyData.list (cs.map PyData.str)).depth<=64/\PyData.eqv (.list (cs.map PyData.str)) (.list (cs.map PyData.str))=true:=by
 have:PyData.canLayAll0 (cs.map PyData.str)=true/\PyData.depthAll (cs.map PyData.str)<=0:=by
  induction cs with
  |nil=>exact⟨rfl,Nat.zero_le _⟩
  |cons c cs ih=>
   obtain⟨h1,h2⟩:=ih fun x hx=>h x (List.mem_cons_of_mem _ hx)
   refine⟨?_,?_⟩
   ·show((PyData.str c).canLay0&&PyData.canLayAll0 (cs.map PyData.str))=true
    rw[h c List.mem_cons_self,h1]
    rfl
   ·show max 0 (PyData.depthAll (cs.map PyData.str))<=0
    omega
 refine⟨this.1,Nat.le_trans (Nat.succ_le_succ this.2) (by decide),?_⟩
 have h2:=b1b (ds:=cs.map PyData.str) fun d hd=>by
  obtain⟨c,hc,rfl⟩:=List.mem_map.mp hd
  simp[PyData.eqv]
 simp only[PyData.eqv]
 exact h2
theorem lG{K:Fg}{H:Hp}:∀cs:List Str,cX K H (cs.map V.str) (cs.map PyData.str)
 | []=> .nil
 |c::cs=> .cons (.str c) (lG cs)
theorem b13{k:Nat}{own:List Str}{x:V}(ho:own∈iK)(hx:bM x)(h:k=0\/ k=5->cK x=true):∀c∈kF k own x,(PyData.str c).canLay0=true:=by
 have k1:∀own∈iK,∀c∈own,(PyData.str c).canLay0=true:=by decide+kernel
 have k2:∀nm∈ [("one":Str),"two"],(∀c∈aR nm,(PyData.str c).canLay0=true)/\∀c∈(aR nm).map (cR nm),(PyData.str c).canLay0=true:=by decide+kernel
 have k3:cK x=true->eR x∈ [("one":Str),"two"]:=fun ht=>by
  obtain⟨nm,rfl,hn⟩:=oZ ht hx
  show nm∈_
  rcases iA hn with rfl|rfl<;>simp
 intro c hc
 unfold kF at hc
 by_cases h0:k=0
 ·rw[if_pos h0]at hc
  exact(k2 _ (k3 (h (.inl h0)))).1 c hc
 rw[if_neg h0]at hc
 by_cases h4:k=4
 ·rw[if_pos h4]at hc
  exact k1 own ho c (List.mem_filter.mp hc).1
 rw[if_neg h4]at hc
 by_cases h5:k=5
 ·rw[if_pos h5]at hc
  rcases List.mem_append.mp hc with hc|hc
  ·exact k1 own ho c hc
  ·exact(k2 _ (k3 (h (.inr h5)))).2 c hc
 rw[if_neg h5]at hc
 exact k1 own ho c hc
theorem uI{k:Nat}{own:List Str}{x y z p r:V}{j:Nat}(h:gD k own x y z p r=some j):j<4:=by
 unfold gD at h
 repeat' (split at h)
 all_goals first|(cases h;decide)|cases h
theorem b1j{k:Nat}{own:List Str}{x y z p r:V}(h:gD k own x y z p r=none):k=0\/ k=5->cK x=true:=fun hk=>by
 cases ht:cK x with
 |true=>rfl
 |false=>
  unfold gD at h
  rw[if_pos ⟨hk,ht⟩]at h
  cases h
theorem b3r{j:Nat}(h:j<4):iC j≠ "" /\∀c∈ [iC j,("ValueError":Str)],(PyData.str c).canLay0=true:=by
 have:j=0\/ j=1\/ j=2\/ j=3:=by omega
 rcases this with rfl|rfl|rfl|rfl<;>decide+kernel
section
variable{P:Program}{w:World}{K:Fg}{mg:Str->Option Value}{base:Heap}
abbrev sC(P:Program)(w:World)(K:Fg)(mg:Str->Option Value)(base:Heap)(f:Addr)(cdv:Value)(A:Around)(outer:List Env)(s:Shared)(H:Hp)(E:XK):Cx:=(dQ aJ P w K mg base Nlaw "law" (aC gK) f cdv A outer s H E).nox
theorem Z6.up{C:Nat->Addr}{CV:Addr}(Z:Z6 K mg C)(V:qQ K mg CV):∀k,k<6->PySem.W.kitOne K (.ref (C k)) (.ref CV)=some true/\∀{H:Hp} {a dx:Addr} {fs:List (Str×L2.V)},H a=some (.ins (C k) dx fs)->fD K H (.ref a) (.ref (C k)):=by
 have key:∀{D:Addr},bV K D->PySem.W.findIn K (.ref D) "__class__"=some (some (.builtin "object.__class__"))->(∃R,mg "View"=some (.ref R)/\PySem.W.kitOne K (.ref D) (.ref R)=some true/\PySem.W.mroIn K D (.type "object")=some true/\PySem.W.specialIn K (.builtin "object.__class__") "__get__"=some (some (.builtin "getset_descriptor.__get__"))/\PySem.W.takesIn K (.builtin "object.__class__")=some true)->PySem.W.kitOne K (.ref D) (.ref CV)=some true/\∀{H:Hp} {a dx:Addr} {fs:List (Str×L2.V)},H a=some (.ins D dx fs)->fD K H (.ref a) (.ref D):=fun cl hc ⟨R,h1,h2,h3,h4,h5⟩=>by
  rw[V.c]at h1
  cases h1
  exact⟨h2,fun e=> .ins e cl hc h4 h5 h3⟩
 intro k hk
 match k,hk with
 |0,_=>exact key Z.W.cl Z.W.hc Z.W.up_View
 |1,_=>exact key Z.S.cl Z.S.hc Z.S.up_View
 |2,_=>exact key Z.O.cl Z.O.hc Z.O.up_View
 |3,_=>exact key Z.U.cl Z.U.hc Z.U.up_View
 |4,_=>exact key Z.J.cl Z.J.hc Z.J.up_View
 |5,_=>exact key Z.B.cl Z.B.hc Z.B.up_View
theorem b2t(T:bD K mg){c:Ad}(X:eX K mg c){C:Nat->Addr}{CS CB CT CV:Addr}(Y:dA K mg CS)(W:cT K mg CB)(U:eL K mg CT)(Z:Z6 K mg C)(VV:qQ K mg CV){f:Addr}{cdv:Value}(A:Around)(outer:List Env)(s:Shared)(H:Hp)(E:XK)(hr:bJ 13 (A.deeper (PyProof.Rows.envOfC "law" (aC gK) s.heap.objs.size f cdv))):
 ∃t,cD (sC P w K mg base f cdv A outer s H E) ((forB a5b).drop 12) t/\
  ∀(D:fL) (H0:Hp) (sh a tb ol:Addr) (v:VQ) (k:Nat) (x y z p r:V) (o3 o5 o6 o9 o15 o16 o17 o18:Option L2.V),k<6->v.rk<=1->v.At C sh H0->v.cols∈iK->Sx CS CB CT sh H0->H0 ol=some (.lst (v.cols.map V.str))->Tb tb H0->bM x->bM y->bM z->bM p->bM r->
   (∀H' o15 o16 o17 o18,aD H0 H'->D.nx [some (.ref a),some (.ref tb),some (.ref sh),o3,some y,o5,o6,some (.ref v.a),some (.ref ol),o9,some (.int (k:Int)),some x,some z,some p,some r,o15,o16,o17,o18] H')->
   t D [some (.ref a),some (.ref tb),some (.ref sh),o3,some y,o5,o6,some (.ref v.a),some (.ref ol),o9,some (.int (k:Int)),some x,some z,some p,some r,o15,o16,o17,o18] H0:=by
 have G_due:bG P w K mg base aJ 2 "_law_due" Pdue (b0p K):=nK T
 have G_made:bG P w K mg base (bR P w) 9 "_law_made" sT (spMd c C CS CB CT):=oI T X Y W U Z
 have G_kinds:bG P w K mg base aJ 1 "_law_kinds" ["_law_caught"] (a96 K c):=rO T X
 have G_cols:bG P w K mg base aJ 1 "_law_columns" jW (b0z K):=oJ T
 have N:=vq (P:=P) (w:=w) (base:=base) (CT:=CT) T Y W Z 2 (by decide)
 refine⟨_,(aM (cQ (i:=15) cY.nd rfl (Or.inl rfl) (bZ G_due (hr.mono (by decide)) bA (aA (pv 10) (aA (pv 8) (aA (pv 1) (aA (pv 11) (aA (pv 4) (aA (pv 12) (aA (pv 13) (aA (pv 14) aE))))))))))
  (aM (cQ (i:=16) cY.nd rfl (Or.inl rfl) jZ)
  (aM (cQ (i:=17) cY.nd rfl (Or.inl rfl) jZ)
  (aM (b6s (j:=18) rfl rfl rfl cY.nd rfl rfl X.c_ColsError (fun pn E' E1 hp=>aK (cQ (i:=17) cY.nd rfl (Or.inl rfl) (b6b G_made (hr.mono (by decide)) hp (aA (pv 10) (aA (pv 2) (aA (pv 7) (aA (pv 11) (aA (pv 4) (aA (pv 12) (aA (pv 13) (aA (pv 14) aE))))))))))) (fun ea=>aK (cQ (i:=16) cY.nd rfl (Or.inl rfl) (pv 18))))
  (aK (bL (bP sO (pv 15) bF (cI _)) (aK (bL (PW.pt (eS (bP b0o (pv 16) jZ (cI _)) (eV (bP (b1m hr.units) (bZ G_kinds (hr.mono (by decide)) bA (aA (pv 16) aE)) (eI (aA (pv 15) (aA bF aE))) (cI _))))) (aK (bK lB)) bO)) (aK (bL (PW.pt (eS (bP b4U (pv 16) jZ (cI _)) (eV (dG (dL (bN b6q rfl T.isinstance cL (aA (pv 17) (aA (fQ VV.c) aE))) (fun _=>rfl)))))) (aK (bK lB)) (aK (bL (bP (b1m hr.units) (kI (pv 17) (RQ.k Z N) (hr.mono (by decide)) bA) (bZ G_cols (hr.mono (by decide)) bA (aA (pv 10) (aA (pv 8) (aA (pv 1) (aA (pv 11) aE))))) (cI _)) (aK (bK lB)) bO)))))))))),?_⟩
 intro D H0 sh a tb ol v k x y z p r o3 o5 o6 o9 o15 o16 o17 o18 hk v1 hv ho hX hol hT hx hy hz hp hr' hD
 refine⟨_,rfl,_,rfl,_,rfl,_,rfl,_,rfl,_,rfl,_,rfl,_,rfl,k,ol,tb,v.cols,x,y,z,p,r,rfl,hk,hol,hT,hx,hy,hz,hp,hr',fun H1 s1=> ?_⟩
 refine⟨_,rfl,_,rfl,_,rfl,_,rfl,_,rfl,_,rfl,_,rfl,_,rfl,sh,k,v,x,y,z,p,r,rfl,hk,v1,hv.same s1,ho,hX.same s1,hx,hy,hz,hp,hr',fun hd H2 u s2 hu u2 hc=> ?_,fun j hj=>⟨uI hj,fun H2 s2=> ?_⟩⟩
 ·
  rw[hd]
  have s12:=s1.trans s2
  refine⟨_,rfl,rfl,_,rfl,aZ ?_⟩
  refine⟨_,rfl,rfl,_,rfl,aZ ?_⟩
  obtain⟨u6,du,gs,eu,no⟩:=hu.ins
  obtain⟨up1,up2⟩:=Z.up VV u.sh u6
  refine⟨_,rfl,_,CV,_,_,rfl,up2 eu,up1,_,rfl,aZ ?_⟩
  refine⟨_,rfl,_,_,u.a,du,gs,RQ.at u6,rfl,eu,no,sh,u,rfl,rfl,u2,hu,hX.same s12,fun H3 l3 s3 hl3 e3=> ?_⟩
  have s13:=s12.trans s3
  have v9:=v.len
  refine⟨_,rfl,_,rfl,_,rfl,_,rfl,k,ol,tb,v.cols,x,rfl,hk,s13 _ _ hol,by omega,hT.same s13,hx,b1j hd,fun H4 l4 s4 e4=> ?_⟩
  obtain⟨w1,w2,w3⟩:=b0W (b13 ho hx (b1j hd))
  rw[hc]at e3
  refine⟨_,_,.lst (aS.of (s4 _ _ e3)) (lG _),.lst (aS.of e4) (lG _),w1,w1,w2,_,rfl,?_⟩
  rw[w3]
  exact aZ (hD _ _ _ _ _ (s13.trans s4))
 ·
  have J:=exJ X (uI hj)
  have s12:=s1.trans s2
  refine⟨J.e,fun ea hea=>⟨_,rfl,?_⟩⟩
  have s3:=aD.new (o:=lF ea (.ref (bS c j))) hea
  have e3:=aG (H:=H2) (a:=ea) (o:=lF ea (.ref (bS c j)))
  generalize upd H2 ea (lF ea (.ref (bS c j)))=H3 at s3 e3|-
  rw[hj]
  obtain⟨ne,ly⟩:=b3r (uI hj)
  refine⟨_,rfl,rfl,_,rfl,eM (fun _=> ?_) (fun h=>absurd ?_ h)⟩
  ·refine⟨_,rfl,rfl,_,rfl,eM (fun g=>absurd (of_decide_eq_true g) (by intro z;cases z)) (fun _=> ?_)⟩
   refine⟨_,rfl,ea,j,rfl,uI hj,e3,fun H4 l4 s4 hl4 e4=>⟨_,rfl,sl,fun l5 hl5=> ?_⟩⟩
   have s5:=aD.new (o:=.lst [.str (iC j),.str ("ValueError":Str)]) hl5
   have e5:=aG (H:=H4) (a:=l5) (o:=.lst [.str (iC j),.str ("ValueError":Str)])
   obtain⟨w1,w2,w3⟩:=b0W ly
   refine⟨_,_,.lst (aS.of (s5 _ _ e4)) (lG [iC j,"ValueError"]),.lst (aS.of e5) (lG [iC j,"ValueError"]),w1,w1,w2,_,rfl,?_⟩
   rw[w3]
   exact aZ (hD _ _ _ _ _ (((s12.trans s3).trans s4).trans s5))
  ·show(!decide (V.str (iC j)=V.str ""))=true
   rw[decide_eq_false (fun e=>ne (by injection e))]
   rfl
end
end My
namespace L2
open PySem PySem.Spec PyProof.Rows
section
variable{X:Cx}
theorem rA{r:R2}{a b:Expr}{ta tb:TE}{pos:Pos}(hr:sP X r)(ha:dI X a ta)(hb:dI X b tb)(hs:b1k b):dI X (.Subscript a b pos) (iQ r ta tb):=⟨kB hr ha.run hb.run hs⟩
theorem boxA{b:List Stmt}{Q:TS->Prop}(h:∃t,nG X b t/\Q t):∃t,cD X b t/\Q t:=let ⟨t,h1,h2⟩:=h;⟨t,h1.run,h2⟩
end
end L2
namespace My
open PySem L2
theorem oG{xs:List V}{m:Nat}(hl:xs.length=m)(h0:0<m)(h:∀x∈xs,bM x)(n:Int):∃x,gB xs (n% (m:Int))=some x/\bM x:=by
 have e1:=Int.emod_nonneg n (show(m:Int)≠0 by omega)
 have e2:=Int.emod_lt_of_pos n (show(0:Int)<(m:Int)by omega)
 obtain⟨x,h1,h2⟩:=b06 xs (n% (m:Int)) e1 (by rw[hl];exact e2)
 exact⟨x,h1,h x (List.mem_of_getElem? h2)⟩
noncomputable def xT:List V:=[.str "one",.str "two",.str "two",.str "one",.str "zz",.str "One",.non,.int 0]
noncomputable def xC:List V:=[.str "b",.str "key",.str "b",.str "two.c",.str "c",.str "",.str "two",.non,.int 1,.str "b "]
noncomputable def xH:List V:=[.str "b",.str "key",.str "key",.str "a",.str "two.b",.non]
noncomputable def xS:List V:=[.int 0,.int 1,.int 5,.int (-1),.bl true,.str "0",.non]
noncomputable def xN:List V:=[.int 0,.int 2,.int 30,.int 1,.int (-1),.str "1",.bl false]
theorem b1H:(∀x∈xT,bM x)/\(∀x∈xC,bM x)/\(∀x∈xH,bM x)/\(∀x∈xS,bM x)/\∀x∈xN,bM x:=by
 refine⟨?_,?_,?_,?_,?_⟩
 ·intro x hx
  unfold xT at hx
  simp only[List.mem_cons,List.not_mem_nil,or_false]at hx
  rcases hx with rfl|rfl|rfl|rfl|rfl|rfl|rfl|rfl<;>first|exact .str _ (by decide+kernel)|exact .non|exact .int _|exact .bl _
 ·intro x hx
  unfold xC at hx
  simp only[List.mem_cons,List.not_mem_nil,or_false]at hx
  rcases hx with rfl|rfl|rfl|rfl|rfl|rfl|rfl|rfl|rfl|rfl<;>first|exact .str _ (by decide+kernel)|exact .non|exact .int _|exact .bl _
 ·intro x hx
  unfold xH at hx
  simp only[List.mem_cons,List.not_mem_nil,or_false]at hx
  rcases hx with rfl|rfl|rfl|rfl|rfl|rfl<;>first|exact .str _ (by decide+kernel)|exact .non|exact .int _|exact .bl _
 ·intro x hx
  unfold xS at hx
  simp only[List.mem_cons,List.not_mem_nil,or_false]at hx
  rcases hx with rfl|rfl|rfl|rfl|rfl|rfl|rfl<;>first|exact .str _ (by decide+kernel)|exact .non|exact .int _|exact .bl _
 ·intro x hx
  unfold xN at hx
  simp only[List.mem_cons,List.not_mem_nil,or_false]at hx
  rcases hx with rfl|rfl|rfl|rfl|rfl|rfl|rfl<;>first|exact .str _ (by decide+kernel)|exact .non|exact .int _|exact .bl _
section
variable{P:Program}{w:World}{K:Fg}{mg:Str->Option Value}{base:Heap}
theorem b6x(T:bD K mg){c:Ad}(X:eX K mg c){C:Nat->Addr}{CS CB CT CV:Addr}(Y:dA K mg CS)(W:cT K mg CB)(U:eL K mg CT)(Z:Z6 K mg C)(VV:qQ K mg CV){f:Addr}{cdv:Value}(A:Around)(outer:List Env)(s:Shared)(H:Hp)(E:XK)(hr:bJ 13 (A.deeper (PyProof.Rows.envOfC "law" (aC gK) s.heap.objs.size f cdv))):
 ∃t,cD (sC P w K mg base f cdv A outer s H E) ((forB a5b).drop 5) t/\
  ∀(D:fL) (H0:Hp) (sh a tb ol:Addr) (v:VQ) (n:Int) (o3 o4 o6 o9 o10 o11 o12 o13 o14 o15 o16 o17 o18:Option L2.V),v.rk<=1->v.At C sh H0->v.cols∈iK->Sx CS CB CT sh H0->H0 ol=some (.lst (v.cols.map V.str))->Tb tb H0->
   (∀H' os,aD H0 H'->os.length=16->D.nx (some (.ref a)::some (.ref tb)::some (.ref sh)::os) H')->
   t D [some (.ref a),some (.ref tb),some (.ref sh),o3,o4,some (.int n),o6,some (.ref v.a),some (.ref ol),o9,o10,o11,o12,o13,o14,o15,o16,o17,o18] H0:=by
 obtain⟨tE,hE,qE⟩:=b2t (P:=P) (w:=w) (base:=base) (f:=f) (cdv:=cdv) T X Y W U Z VV A outer s H E hr
 refine boxA ⟨_,(hU (mX.mk (cQ (i:=9) cY.nd rfl (Or.inl rfl) (bU kL (pv 5) bE)))
  (hU (mX.mk (cQ (i:=10) cY.nd rfl (Or.inl rfl) (bU iW (bU kL (pv 5) bE) bE)))
  (hU (mT (i:=11) cY.nd rfl (Or.inl rfl) (rA iV (rG (bT dH (bT dH (bT dH (bT dH (bT dH (bT dH (bT vB (bT iT oM))))))))) (dI.mk (bU iW (pv 9) bE)) (fun _ _=>rfl)))
  (hU (mT (i:=4) cY.nd rfl (Or.inl rfl) (rA iV (rG (bT dH (bT dH (bT dH (bT dH (bT dH (bT dH (bT dH (bT vB (bT iT (bT dH oM))))))))))) (dI.mk (bU iW (bU kL (pv 9) bE) bE)) (fun _ _=>rfl)))
  (hU (mT (i:=12) cY.nd rfl (Or.inl rfl) (rA iV (rG (bT dH (bT dH (bT dH (bT dH (bT dH (bT vB oM))))))) (dI.mk (bU iW (bU kL (pv 9) bE) bE)) (fun _ _=>rfl)))
  (hU (mT (i:=13) cY.nd rfl (Or.inl rfl) (rA iV (rG (bT iT (bT iT (bT iT (b0v (dI.mk (a9P b0D bE)) (bT b00 (bT dH (bT vB oM)))))))) (dI.mk (bU iW (bU kL (pv 9) bE) bE)) (fun _ _=>rfl)))
  (hU (mT (i:=14) cY.nd rfl (Or.inl rfl) (rA iV (rG (bT iT (bT iT (bT iT (bT iT (b0v (dI.mk (a9P b0D bE)) (bT dH (bT b00 oM)))))))) (dI.mk (bU iW (bU kL (pv 9) bE) bE)) (fun _ _=>rfl)))
  (nG.mk hE)))))))),?_⟩
 intro D H0 sh a tb ol v n o3 o4 o6 o9 o10 o11 o12 o13 o14 o15 o16 o17 o18 v1 hv ho hX hol hT hD
 obtain⟨f1,f2,f3,f4,f5⟩:=b1H
 refine⟨_,rfl,_,_,rfl,rfl,⟨by decide,by decide⟩,?_⟩
 refine⟨_,rfl,_,_,rfl,rfl,⟨by decide,by decide⟩,_,_,rfl,rfl,(show(0:Int)<6 by decide),?_⟩
 have e1:=Int.emod_nonneg (n/ 6) (show(6:Int)≠0 by decide)
 have e2:=Int.emod_lt_of_pos (n/ 6) (show(0:Int)<6 by decide)
 obtain⟨k,ek⟩:∃k:Nat,n/ 6% 6=(k:Int):=⟨(n/ 6% 6).toNat,by omega⟩
 show iJ 10 (V.int (n/ 6% 6)) _ _ _
 rw[ek]
 obtain⟨x,hx1,hx⟩:=oG (m:=8) rfl (by decide) f1 (n/ 36)
 refine⟨sl,fun l1 hl1=> ?_⟩
 have s1:=aD.new (o:=.lst [.str ("one":Str),.str ("two":Str),.str ("two":Str),.str ("one":Str),.str ("zz":Str),.str ("One":Str),.non,.int 0]) hl1
 have u1:=aG (H:=H0) (a:=l1) (o:=.lst [.str ("one":Str),.str ("two":Str),.str ("two":Str),.str ("one":Str),.str ("zz":Str),.str ("One":Str),.non,.int 0])
 generalize upd H0 l1 (.lst [.str ("one":Str),.str ("two":Str),.str ("two":Str),.str ("one":Str),.str ("zz":Str),.str ("One":Str),.non,.int 0])=H1 at s1 u1|-
 refine⟨_,rfl,_,_,rfl,rfl,(show(0:Int)<8 by decide),l1,_,_,x,rfl,rfl,aS.of u1,hx1,?_⟩
 obtain⟨y,hy1,hy⟩:=oG (m:=10) rfl (by decide) f2 (n/ 36/ 8)
 refine⟨sl,fun l2 hl2=> ?_⟩
 have s2:=s1.trans (aD.new (o:=.lst [.str ("b":Str),.str ("key":Str),.str ("b":Str),.str ("two.c":Str),.str ("c":Str),.str ("":Str),.str ("two":Str),.non,.int 1,.str ("b ":Str)]) hl2)
 have u2:=aG (H:=H1) (a:=l2) (o:=.lst [.str ("b":Str),.str ("key":Str),.str ("b":Str),.str ("two.c":Str),.str ("c":Str),.str ("":Str),.str ("two":Str),.non,.int 1,.str ("b ":Str)])
 generalize upd H1 l2 (.lst [.str ("b":Str),.str ("key":Str),.str ("b":Str),.str ("two.c":Str),.str ("c":Str),.str ("":Str),.str ("two":Str),.non,.int 1,.str ("b ":Str)])=H2 at s2 u2|-
 refine⟨_,rfl,_,_,rfl,rfl,⟨by decide,by decide⟩,_,_,rfl,rfl,(show(0:Int)<10 by decide),l2,_,_,y,rfl,rfl,aS.of u2,hy1,?_⟩
 obtain⟨z,hz1,hz⟩:=oG (m:=6) rfl (by decide) f3 (n/ 36/ 80)
 refine⟨sl,fun l3 hl3=> ?_⟩
 have s3:=s2.trans (aD.new (o:=.lst [.str ("b":Str),.str ("key":Str),.str ("key":Str),.str ("a":Str),.str ("two.b":Str),.non]) hl3)
 have u3:=aG (H:=H2) (a:=l3) (o:=.lst [.str ("b":Str),.str ("key":Str),.str ("key":Str),.str ("a":Str),.str ("two.b":Str),.non])
 generalize upd H2 l3 (.lst [.str ("b":Str),.str ("key":Str),.str ("key":Str),.str ("a":Str),.str ("two.b":Str),.non])=H3 at s3 u3|-
 refine⟨_,rfl,_,_,rfl,rfl,⟨by decide,by decide⟩,_,_,rfl,rfl,(show(0:Int)<6 by decide),l3,_,_,z,rfl,rfl,aS.of u3,hz1,?_⟩
 obtain⟨p,hp1,hp⟩:=oG (m:=7) rfl (by decide) f4 (n/ 36/ 480)
 refine⟨_,rfl,sl,fun l4 hl4=> ?_⟩
 have s4:=s3.trans (aD.new (o:=.lst [.int 0,.int 1,.int 5,.int (-1),.bl true,.str ("0":Str),.non]) hl4)
 have u4:=aG (H:=H3) (a:=l4) (o:=.lst [.int 0,.int 1,.int 5,.int (-1),.bl true,.str ("0":Str),.non])
 generalize upd H3 l4 (.lst [.int 0,.int 1,.int 5,.int (-1),.bl true,.str ("0":Str),.non])=H4 at s4 u4|-
 refine⟨_,rfl,_,_,rfl,rfl,⟨by decide,by decide⟩,_,_,rfl,rfl,(show(0:Int)<7 by decide),l4,_,_,p,rfl,rfl,aS.of u4,hp1,?_⟩
 obtain⟨r,hr1,hr'⟩:=oG (m:=7) rfl (by decide) f5 (n/ 36/ 3360)
 refine⟨_,rfl,sl,fun l5 hl5=> ?_⟩
 have s5:=s4.trans (aD.new (o:=.lst [.int 0,.int 2,.int 30,.int 1,.int (-1),.str ("1":Str),.bl false]) hl5)
 have u5:=aG (H:=H4) (a:=l5) (o:=.lst [.int 0,.int 2,.int 30,.int 1,.int (-1),.str ("1":Str),.bl false])
 generalize upd H4 l5 (.lst [.int 0,.int 2,.int 30,.int 1,.int (-1),.str ("1":Str),.bl false])=H5 at s5 u5|-
 refine⟨_,rfl,_,_,rfl,rfl,⟨by decide,by decide⟩,_,_,rfl,rfl,(show(0:Int)<7 by decide),l5,_,_,r,rfl,rfl,aS.of u5,hr1,?_⟩
 exact qE D H5 sh a tb ol v k x y z p r o3 _ o6 _ o15 o16 o17 o18 (by omega) v1 (hv.same s5) ho (hX.same s5) (s5 _ _ hol) (hT.same s5) hx hy hz hp hr' fun H' o15 o16 o17 o18 s'=>hD H' _ (s5.trans s') rfl
end
theorem b3J(n:Int):∃nm,gB [V.str ("one":Str),V.str ("two":Str)] (n% 2)=some (.str nm)/\bX nm=true:=by
 rcases(show n% 2=0\/ n% 2=1 by omega)with h|h
 ·exact⟨"one",by rw[h];rfl,rfl⟩
 ·exact⟨"two",by rw[h];rfl,rfl⟩
theorem b3q{nm:Str}(h:bX nm=true):aR nm∈iK/\aR nm++ (aR "two").map (cR "two")∈iK/\cU (aR nm) (.str "b")=true/\cU (aR nm) (.str "key")=true/\decide (cR "two" (gI "two")∈aR nm)=false:=by
 rcases iA h with rfl|rfl
 ·decide+kernel
 ·decide+kernel
theorem b0B:(aR "two").map (cR "two")= [("two.b":Str),"two.key","two.c"] /\cU (aR "two") (.str "c")=true:=by decide+kernel
section
variable{P:Program}{w:World}{K:Fg}{mg:Str->Option Value}{base:Heap}
theorem b3y(T:bD K mg){c:Ad}(X:eX K mg c){C:Nat->Addr}{CS CB CT CV:Addr}(Y:dA K mg CS)(W:cT K mg CB)(U:eL K mg CT)(Z:Z6 K mg C)(VV:qQ K mg CV){f:Addr}{cdv:Value}(A:Around)(outer:List Env)(s:Shared)(H:Hp)(E:XK)(hr:bJ 13 (A.deeper (PyProof.Rows.envOfC "law" (aC gK) s.heap.objs.size f cdv))):
 ∃t,cD (sC P w K mg base f cdv A outer s H E) (forB a5b) t/\
  ∀(D:fL) (H0:Hp) (sh a tb:Addr) (n:Int) (o3 o4 o6 o7 o8 o9 o10 o11 o12 o13 o14 o15 o16 o17 o18:Option L2.V),Sx CS CB CT sh H0->Tb tb H0->
   (∀H' os,aD H0 H'->os.length=16->D.nx (some (.ref a)::some (.ref tb)::some (.ref sh)::os) H')->
   t D [some (.ref a),some (.ref tb),some (.ref sh),o3,o4,some (.int n),o6,o7,o8,o9,o10,o11,o12,o13,o14,o15,o16,o17,o18] H0:=by
 have hu:=fB hr
 have I0:cA P w K mg base (bR P w) 4 (C 0) ["self","sheet","table"] (a42 c C CS CB CT):=b0F T X Y W U Z
 have I1:cA P w K mg base (bR P w) 6 (C 1) ["self","view","column"] (rJ c C CS CB CT 1 1):=b0T (n:=1) T X Y W Z (by decide)
 have I5:cA P w K mg base (bR P w) 7 (C 5) ["self","view","key","sheet","table","theirs"] (a1c c C CS CB CT 1):=b0q (n:=1) T X Y W Z (by decide)
 obtain⟨tE,hE,qE⟩:=b6x (P:=P) (w:=w) (base:=base) (f:=f) (cdv:=cdv) T X Y W U Z VV A outer s H E hr
 refine⟨_,(aM (cQ (i:=6) cY.nd rfl (Or.inl rfl) (kB iV (eI (aA bF (aA bF aE))) (bU iW (pv 5) bE) (fun _ _=>rfl)))
  (aM (cQ (i:=7) cY.nd rfl (Or.inl rfl) (fJ I0 (hr.mono (by decide)) Z.W.c a7t (aA (pv 2) (aA (pv 6) aE))))
  (aM (cQ (i:=8) cY.nd rfl (Or.inl rfl) (kY sQ rfl T.list kW (aA (gZ hu (pv 1) (pv 6) (fun _ _=>rfl)) aE)))
  (aM (bL (bP fZ (bU iW (bU kL (pv 5) bE) bE) bE (cI _)) (aK (cQ (i:=7) cY.nd rfl (Or.inl rfl) (fJ I1 (hr.mono (by decide)) Z.S.c a7t (aA (pv 7) (aA bF aE))))) bO)
  (aM (bL (bP fZ (bU iW (bU kL (pv 5) bE) bE) bE (cI _)) (aM (cQ (i:=7) cY.nd rfl (Or.inl rfl) (fJ I5 (hr.mono (by decide)) Z.B.c a7t (aA (pv 7) (aA bF (aA (pv 2) (aA bF (aA bF aE)))))))
  (aK (cQ (i:=8) cY.nd rfl (Or.inl rfl) (bU gY (pv 8) (eI (aA bF (aA bF (aA bF aE)))))))) bO)
  hE))))),?_⟩
 intro D H0 sh a tb n o3 o4 o6 o7 o8 o9 o10 o11 o12 o13 o14 o15 o16 o17 o18 hX hT hD
 obtain⟨nm,hat,hn⟩:=b3J n
 obtain⟨w1,w2,w3,w4,w5⟩:=b3q hn
 refine⟨sl,fun l1 hl1=> ?_⟩
 have s1:=aD.new (o:=.lst [.str ("one":Str),.str ("two":Str)]) hl1
 have u1:=aG (H:=H0) (a:=l1) (o:=.lst [.str ("one":Str),.str ("two":Str)])
 generalize upd H0 l1 (.lst [.str ("one":Str),.str ("two":Str)])=H1 at s1 u1|-
 refine⟨_,rfl,_,_,rfl,rfl,(show(0:Int)<2 by decide),l1,_,_,.str nm,rfl,rfl,aS.of u1,hat,?_⟩
 refine⟨_,rfl,_,rfl,?_⟩
 intro a7 d7 ha hd ne
 have hX1:=hX.same s1
 have s0:aD H1 (upd (upd H1 d7 (.own a7)) a7 (.ins (C 0) d7 [])):=fun b o e=>by rw[aH (aU e ha),aH (aU e hd)];exact e
 refine⟨a7,d7,sh,.str nm,rfl,aG,hX1.same s0,.str nm (Nat.le_trans (uK hn).2.1 (by decide)),fun ht H2 nm' sx ex e2=>⟨rfl,?_⟩,fun ht=>by{have:bX nm=false:=ht;rw[hn]at this;cases this}⟩
 cases ex
 have s2:=s1.trans (fK ha hd sx)
 have v0:VQ.At C sh H2 (.whole a7 nm):=⟨hn,d7,e2⟩
 obtain⟨kvs,l,a1,a2,a3⟩:=(hT.same s2).at hn
 refine⟨_,rfl,_,rfl,tb,_,rfl,a2▸cP.k (k:=Sum.inr nm) a1,l,_,rfl,.inl (aS.of a3),fun ol hol=> ?_⟩
 have s3':=aD.new (o:=.lst ((aR nm).map V.str)) hol
 have u3:=aG (H:=H2) (a:=ol) (o:=.lst ((aR nm).map V.str))
 generalize upd H2 ol (.lst ((aR nm).map V.str))=H3 at s3' u3|-
 have s3:=s2.trans s3'
 have v3:=v0.same s3'
 refine⟨_,rfl,_,_,rfl,rfl,⟨by decide,by decide⟩,_,_,rfl,rfl,(show(0:Int)<3 by decide),rfl,_,rfl,?_⟩
 by_cases h1:n/ 2% 3=1
 ·
  refine eM (fun _=> ?_) (fun h=>absurd (decide_eq_true (show V.int (n/ 2% 3)=V.int 1 by rw[h1])) h)
  refine⟨_,rfl,?_⟩
  intro b7 e7 hb he neb
  have s4':aD H3 (upd (upd H3 e7 (.own b7)) b7 (.ins (C 1) e7 [])):=fun b o e=>by rw[aH (aU e hb),aH (aU e he)];exact e
  refine⟨b7,e7,sh,.whole a7 nm,.str "b",rfl,aG,Nat.zero_le _,v3.same s4',(hX.same s3).same s4',.str _ (by decide+kernel),fun ht H4 sx4 e4=>⟨rfl,?_⟩,fun ht=>by{have:cU (aR nm) (.str "b")=false:=ht;rw[w3]at this;cases this}⟩
  have s34:=fK hb he sx4
  refine⟨_,rfl,_,_,rfl,rfl,⟨by decide,by decide⟩,_,_,rfl,rfl,(show(0:Int)<3 by decide),rfl,_,rfl,?_⟩
  refine eM (fun h=>absurd (of_decide_eq_true h) (fun e=>by injection e with e;omega)) (fun _=> ?_)
  exact qE D H4 sh a tb ol (.via 1 b7 (.whole a7 nm)) n o3 o4 _ o9 o10 o11 o12 o13 o14 o15 o16 o17 o18 (Nat.le_refl _) ⟨by decide,⟨e7,_,e4,rfl,rfl⟩,v3.same s34⟩ w1 ((hX.same s3).same s34) (s34 _ _ u3) ((hT.same s3).same s34) fun H' os s' hl=>hD H' os ((s3.trans s34).trans s') hl
 ·refine eM (fun h=>absurd (of_decide_eq_true h) (fun e=>by injection e with e;exact h1 e)) (fun _=> ?_)
  refine⟨_,rfl,_,_,rfl,rfl,⟨by decide,by decide⟩,_,_,rfl,rfl,(show(0:Int)<3 by decide),rfl,_,rfl,?_⟩
  by_cases h2:n/ 2% 3=2
  ·refine eM (fun _=> ?_) (fun h=>absurd (decide_eq_true (show V.int (n/ 2% 3)=V.int 2 by rw[h2])) h)
   refine⟨_,rfl,_,rfl,?_⟩
   intro b7 e7 hb he neb
   have s4':aD H3 (upd (upd H3 e7 (.own b7)) b7 (.ins (C 5) e7 [])):=fun b o e=>by rw[aH (aU e hb),aH (aU e he)];exact e
   refine⟨b7,e7,sh,.whole a7 nm,.str "key",.str "two",.str "c",rfl,aG,Nat.zero_le _,v3.same s4',(hX.same s3).same s4',.str _ (by decide+kernel),.str _ (by decide+kernel),.str _ (by decide+kernel),(fun ht=>by cases ht),fun nm' ey hn'=> ?_⟩
   cases ey
   refine⟨fun hc=> ?_,fun hc=>⟨fun hd'=> ?_,fun hd' H4 sx4 e4=>⟨rfl,?_⟩⟩⟩
   ·have hc':(cU (aR nm) (.str "key")&&cU (aR "two") (.str "c"))=false:=hc
    rw[w4,b0B.2]at hc'
    cases hc'
   ·have hd2:lE (aR nm++ (aR "two").map (cR "two"))=true:=hd'
    rw[a6U w1 hn',w5]at hd2
    cases hd2
   have s34:=fK hb he sx4
   refine⟨_,rfl,sl,fun m7 hm7=> ?_⟩
   have s5':=aD.new (o:=.lst [.str ("two.b":Str),.str ("two.key":Str),.str ("two.c":Str)]) hm7
   have u5:=aG (H:=H4) (a:=m7) (o:=.lst [.str ("two.b":Str),.str ("two.key":Str),.str ("two.c":Str)])
   generalize upd H4 m7 (.lst [.str ("two.b":Str),.str ("two.key":Str),.str ("two.c":Str)])=H5 at s5' u5|-
   have s35:=s34.trans s5'
   refine⟨ol,m7,_,_,rfl,rfl,s35 _ _ u3,u5,Nat.le_of_lt (dN (by rw[List.length_map,kS];decide)),fun ow how=> ?_⟩
   have s6':=aD.new (o:=.lst ((aR nm).map V.str++ [.str ("two.b":Str),.str ("two.key":Str),.str ("two.c":Str)])) how
   have u6:=aG (H:=H5) (a:=ow) (o:=.lst ((aR nm).map V.str++ [.str ("two.b":Str),.str ("two.key":Str),.str ("two.c":Str)]))
   change (fun Hx:Hp=>_) (upd H5 ow (.lst ((aR nm).map V.str++ [.str ("two.b":Str),.str ("two.key":Str),.str ("two.c":Str)])))
   generalize upd H5 ow (.lst ((aR nm).map V.str++ [.str ("two.b":Str),.str ("two.key":Str),.str ("two.c":Str)]))=H6 at s6' u6|-
   have s36:=s35.trans s6'
   have s46:=s5'.trans s6'
   refine qE D H6 sh a tb ow (.bes b7 (.whole a7 nm) "two") n o3 o4 _ o9 o10 o11 o12 o13 o14 o15 o16 o17 o18 (Nat.le_refl _) ⟨rfl,⟨e7,_,s46 _ _ e4,⟨rfl,rfl,rfl,rfl⟩⟩,v3.same s36⟩ w2 ((hX.same s3).same s36) ?_ ((hT.same s3).same s36) fun H' os s' hl=>hD H' os ((s3.trans s36).trans s') hl
   show H6 ow=some (.lst ((aR nm++ (aR "two").map (cR "two")).map V.str))
   rw[b0B.1,List.map_append]
   exact u6
  ·refine eM (fun h=>absurd (of_decide_eq_true h) (fun e=>by injection e with e;exact h2 e)) (fun _=> ?_)
   exact qE D H3 sh a tb ol (.whole a7 nm) n o3 o4 _ o9 o10 o11 o12 o13 o14 o15 o16 o17 o18 (Nat.zero_le _) v3 w1 (hX.same s3) u3 (hT.same s3) fun H' os s' hl=>hD H' os (s3.trans s') hl
end
def eZ:Nat->Str
 |0=> "one"
 |_=> "two"
theorem uN(i:Nat):bX (eZ i)=true:=by
 match i with
 |0=>rfl
 |_+ 1=>rfl
def fN(B:Nat->BM)(n:Nat):List (aI×V):=[((.inr "one":aI),V.ref (B 0).b),((.inr "two":aI),V.ref (B 1).b)].take n
theorem b5o(B:Nat->BM){n:Nat}(h:n<2):cE (fN B n) (.inr (eZ n):aI)=none/\(fN B n).length<4/\∀B',cC (fN B n) (.inr (eZ n):aI) (.ref (BM.b B'))=fN (fun t=>if t=n then B' else B t) (n+ 1):=by
 rcases(lt2 (n:=n))with rfl|rfl
 ·exact⟨rfl,(show 0<4 by decide),fun _=>rfl⟩
 ·exact⟨rfl,(show 1<4 by decide),fun _=>rfl⟩
theorem b42(B:Nat->BM){n:Nat}(h:n<2):cE (fN B (n+ 1)) (.inr (eZ n):aI)=some (.ref (B n).b):=by
 rcases(lt2 (n:=n))with rfl|rfl<;>rfl
theorem cN.mvF{CB CT:Addr}{H H':Hp}{B:BM}(h:cN CB CT H B)(u:∀x∈B.foot,∀o,H x=some o->H' x=some o):cN CB CT H' B:=by
 obtain⟨⟨d1,e1⟩,⟨⟨d2,e2⟩,e3,e4⟩,e5,e6,e7⟩:=h
 have m:∀{x},x∈ [B.b,B.g,B.r,B.e,B.ru,B.me,B.od] ->x∈B.foot:=fun h=>h
 exact⟨⟨d1,u _ (m (by simp)) _ e1⟩,⟨⟨d2,u _ (m (by simp)) _ e2⟩,u _ (m (by simp)) _ e3,u _ (m (by simp)) _ e4⟩,u _ (m (by simp)) _ e5,u _ (m (by simp)) _ e6,u _ (m (by simp)) _ e7⟩
theorem cN.some{CB CT:Addr}{H:Hp}{B:BM}(h:cN CB CT H B):∀x∈B.foot,H x≠none:=by
 obtain⟨⟨d1,e1⟩,⟨⟨d2,e2⟩,e3,e4⟩,e5,e6,e7⟩:=h
 intro x hx
 unfold BM.foot at hx
 simp only[List.mem_cons,List.not_mem_nil,or_false]at hx
 rcases hx with rfl|rfl|rfl|rfl|rfl|rfl|rfl
 ·rw[e1];exact fun y=>by cases y
 ·rw[e2];exact fun y=>by cases y
 ·rw[e3];exact fun y=>by cases y
 ·rw[e4];exact fun y=>by cases y
 ·rw[e5];exact fun y=>by cases y
 ·rw[e6];exact fun y=>by cases y
 ·rw[e7];exact fun y=>by cases y
structure Tg(CS CB CT:Addr)(H0:Hp)(s bd ch:Addr)(n:Nat)(B:Nat->BM)(cs:List V)(H:Hp):Prop where
 old:aD H0 H
 nw:H0 s=none/\H0 bd=none/\H0 ch=none
 sh:vI CS s bd ch cs (fN B n) H
 cl:cs.length<=4* n
 bs:∀t,t<n->cN CB CT H (B t)/\(B t).ord=aR (eZ t)/\∀x∈(B t).foot,x≠s/\x≠ch/\x≠bd
structure Tj(CS CB CT:Addr)(H0:Hp)(s bd ch:Addr)(n:Nat)(B:Nat->BM)(j:Nat)(cs:List V)(H:Hp):Prop where
 old:aD H0 H
 nw:H0 s=none/\H0 bd=none/\H0 ch=none
 sh:vI CS s bd ch cs (fN B (n+ 1)) H
 cl:cs.length<=4* n+ 1+ j
 bs:∀t,t<n->cN CB CT H (B t)/\(B t).ord=aR (eZ t)/\(∀x∈(B t).foot,x≠s/\x≠ch/\x≠bd)/\∀x∈(B t).foot,x∉(B n).foot
 bt:cN CB CT H (B n)
 sp:(B n).sep
 ft:∀x∈(B n).foot,x≠s/\x≠ch/\x≠bd
 fn:∀x∈(B n).foot,H0 x=none
 xs:(B n).xs=fP 0 2
 ru:(B n).rus= []
 od:(B n).ord=(aR (eZ n)).take j
 kl:(B n).kvs.length<=j
section
variable{P:Program}{w:World}{K:Fg}{mg:Str->Option Value}{base:Heap}
inductive IvT(CS CB CT:Addr)(H0:Hp)(s bd ch a tb:Addr):Nat->St->Hp->Prop
 |mk {i:Nat} {σ:St} {Hi:Hp} (o3 o4:Option L2.V) (B:Nat->BM) (cs:List L2.V) (h1:σ= [some (.ref a),some (.ref tb),some (.ref s),o3,o4,none,none,none,none,none,none,none,none,none,none,none,none,none,none]) (h2:Tg CS CB CT H0 s bd ch i B cs Hi):IvT CS CB CT H0 s bd ch a tb i σ Hi
inductive IvJ(CS CB CT:Addr)(H0:Hp)(s bd ch a tb:Addr)(n:Nat):Nat->St->Hp->Prop
 |mk {j:Nat} {σ:St} {Hi:Hp} (o4:Option L2.V) (B:Nat->BM) (cs:List L2.V) (h1:σ= [some (.ref a),some (.ref tb),some (.ref s),some (.str (eZ n)),o4,none,none,none,none,none,none,none,none,none,none,none,none,none,none]) (h2:Tj CS CB CT H0 s bd ch n B j cs Hi):IvJ CS CB CT H0 s bd ch a tb n j σ Hi
def b0l(K:Fg):Sp:=fun vs H Q _=>∃(a:Addr) (ns:List Int),vs= [.ref a] /\aS K H a (ns.map V.int)/\ns.length<=63/\∀H',Q (.bl true) H'
theorem b1K(xs:List Int)(lo hi:Option Int):∃ys:List Int,mS (xs.map V.int) lo hi=ys.map V.int:=by
 unfold mS
 rw[List.length_map]
 exact⟨_,by rw[<- List.map_drop,<- List.map_take]⟩
theorem pv10{H:Hp}:fM K H [.int 1,.int 0] [.int 1,.int 0]:=.cons (.inl ⟨1,rfl,rfl,by decide+kernel⟩) (.cons (.inl ⟨0,rfl,rfl,by decide+kernel⟩) .nil)
theorem b2N{nm c:Str}(h:bX nm=true)(hc:c∈aR nm):Nl c:=by
 have key:∀nm∈ [("one":Str),"two"],∀c∈aR nm,Nl c:=by unfold Nl;decide+kernel
 exact key nm (by rcases iA h with rfl|rfl<;>simp) c hc
theorem b5v{nm:Str}(h:bX nm=true):(aR nm).Nodup:=by
 rcases iA h with rfl|rfl<;>decide+kernel
theorem b4j{kvs:List (aI×V)}{k:aI}{v:V}:(cC kvs k v).length<=kvs.length+ 1:=by
 unfold cC
 split
 ·rw[List.length_map];omega
 ·rw[List.length_append];exact Nat.le_refl _
theorem b0x(B:Nat->BM)(nm:Str):(bX nm=true->∃t,t<2/\nm=eZ t/\cE (fN B 2) (.inr nm:aI)=some (.ref (B t).b))/\(bX nm=false->cE (fN B 2) (.inr nm:aI)=none):=by
 constructor
 ·intro h
  rcases iA h with rfl|rfl
  ·exact⟨0,by decide,rfl,rfl⟩
  ·exact⟨1,by decide,rfl,rfl⟩
 ·intro hn
  unfold bX at hn
  rw[Bool.or_eq_false_iff,beq_eq_false_iff_ne,beq_eq_false_iff_ne]at hn
  show cE [((.inr "one":aI),V.ref (B 0).b),((.inr "two":aI),V.ref (B 1).b)] (.inr nm:aI)=none
  rw[lD (fun e=>hn.1 (Sum.inr.inj e).symm),lD (fun e=>hn.2 (Sum.inr.inj e).symm)]
  rfl
theorem Tg.sx{CS CB CT:Addr}{H0:Hp}{s bd ch:Addr}{B:Nat->BM}{cs:List V}{H:Hp}(g:Tg CS CB CT H0 s bd ch 2 B cs H):Sx CS CB CT s H:=by
 obtain⟨⟨dx,fi,h1⟩,h2,h3⟩:=g.sh
 refine⟨bd,ch,fi,dx,fN B 2,h1,h3,fun nm hn=> ?_,fun nm hn=>(b0x B nm).2 hn⟩
 obtain⟨t,t2,rfl,e⟩:=(b0x B nm).1 hn
 obtain⟨b1,b2,_⟩:=g.bs t t2
 exact⟨B t,e,b1,b2⟩
theorem b5b{B B':Nat->BM}(h:∀t,(B' t).b=(B t).b){n:Nat}:fN B' n=fN B n:=by
 unfold fN
 rw[h 0,h 1]
theorem tT(nm:Str):(aR nm).length=3:=by unfold aR;split<;>rfl
theorem b3o(x y:V):mO [] [((.inr "one":aI),x),((.inr "two":aI),y)]= [((.inr "one":aI),x),((.inr "two":aI),y)]:=rfl
theorem b2J(T:bD K mg){CS CF CB CT CC CN:Addr}(Y:dA K mg CS)(Fi:lA K mg CF)(Wb:cT K mg CB)(U:eL K mg CT)(Cc:pN K mg CC)(Tt:rH K mg CN){f:Addr}{cdv:Value}(A:Around)(outer:List Env)(s:Shared)(H:Hp)(E:XK)(hr:bJ 13 (A.deeper (PyProof.Rows.envOfC "law" (aC gK) s.heap.objs.size f cdv))):
 ∃t,PS (sC P w K mg base f cdv A outer s H E) ((aL gK).getD 2 (.Pass ⟨0,0,0,0⟩)) t/\
  ∀(D:fL) (H0 H1:Hp) (sh bd ch a tb:Addr) (B:Nat->BM),Tb tb H0->Tg CS CB CT H0 sh bd ch 0 B [] H1->
   (∀σ H',IvT CS CB CT H0 sh bd ch a tb 2 σ H'->D.nx σ H')->
   t D [some (.ref a),some (.ref tb),some (.ref sh),none,none,none,none,none,none,none,none,none,none,none,none,none,none,none,none] H1:=by
 have hu:=fB hr
 have G_table:aX P w K mg base aJ 9 CS "table" ["self","name","many"] (a9R CS CF CB CT):=nW T Y Fi Wb U Tt
 have G_give:aX P w K mg base aJ 9 CS "give" ["self","table","column","values"] (b0M K CS CF CB CT):=qV T Y Fi Wb U Cc
 refine⟨_,(tU PassesOwn.never rfl (hZ (eI (aA bF (aA bF aE)))) (lI (i:=3) cY.nd rfl (.inl rfl))
  (aM (dC (dR (pv 2) Y.cl G_table (hr.mono (by decide)) bA (aA (pv 3) (aA bE aE))))
  (aK (tU PassesOwn.never rfl (hZ (gZ hu (pv 1) (pv 3) (fun _ _=>rfl))) (lI (i:=4) cY.nd rfl (.inl rfl))
   (aK (dC (dR (pv 2) Y.cl G_give (hr.mono (by decide)) bA (aA (pv 3) (aA (pv 4) (aA (eI (aA bE (aA bE aE))) aE)))))))))),?_⟩
 intro D H0 H1 sh bd ch a tb B0 hT g0 hD
 refine⟨sl,fun ln hln=> ?_⟩
 have s1:=aD.new (o:=.lst [.str ("one":Str),.str ("two":Str)]) hln
 have u1:=aG (H:=H1) (a:=ln) (o:=.lst [.str ("one":Str),.str ("two":Str)])
 generalize upd H1 ln (.lst [.str ("one":Str),.str ("two":Str)])=H2 at s1 u1|-
 have z0:H0 ln=none:=gH g0.old hln
 have q0:aD H0 (upd H0 ln (.lst [.str ("one":Str),.str ("two":Str)])):=aD.new z0
 have q1:aD (upd H0 ln (.lst [.str ("one":Str),.str ("two":Str)])) H2:=fun x o e=>by
  by_cases y:x=ln
  ·rw[y,aG]at e;rw[y,u1];exact e
  ·rw[aH y]at e;exact s1 _ _ (g0.old _ _ e)
 have q2:=aG (H:=H0) (a:=ln) (o:=.lst [.str ("one":Str),.str ("two":Str)])
 have q3:∀{x:Addr},H0 x=none->x≠ln->upd H0 ln (.lst [.str ("one":Str),.str ("two":Str)]) x=none:=fun h n=>by rw[aH n];exact h
 obtain⟨⟨dS0,fiS0,sS0⟩,chS0,bdS0⟩:=g0.sh
 have q4:=q3 g0.nw.1 (aU sS0 hln)
 have q5:=q3 g0.nw.2.1 (aU bdS0 hln)
 have q6:=q3 g0.nw.2.2 (aU chS0 hln)
 clear q3
 generalize upd H0 ln (.lst [.str ("one":Str),.str ("two":Str)])=G0 at q0 q1 q2 q4 q5 q6
 have hT':=hT.same q0
 refine⟨ln,rfl,⟨_,aS.of u1⟩,?_⟩
 refine sX (K:=K) (a:=ln) (xs:=[.str ("one":Str),.str ("two":Str)]) (IvT CS CB CT G0 sh bd ch a tb) ⟨_,_,B0,[],rfl,q1,⟨q4,q5,q6⟩,⟨⟨dS0,fiS0,s1 _ _ sS0⟩,s1 _ _ chS0,s1 _ _ bdS0⟩,Nat.le_refl _,fun t ht=>by{omega}⟩ (by rintro i σ Hi _ ⟨_,_,_,_,_,g⟩;exact aS.of (g.old _ _ q2)) ?_ ?_
 ·rintro i x σ Hi hx ⟨o3,o4,B,cs,rfl,g⟩
  have hi:i<2:=(List.getElem?_eq_some_iff.mp hx).1
  have ex:x= .str (eZ i):=by rcases(lt2 (n:=i))with rfl|rfl<;>(cases hx;rfl)
  subst ex
  obtain⟨⟨dS,fiS,sS⟩,chS,bdS⟩:=g.sh
  have cl:=g.cl
  have hnm:Nl (eZ i):=uK (uN i)
  obtain⟨n1,n2,n3⟩:=b5o B hi
  refine⟨_,rfl,sh,dS,_,rfl,sS,fX,_,rfl,sh,bd,ch,cs,fN B i,eZ i,2,rfl,⟨⟨dS,fiS,sS⟩,chS,bdS⟩,by omega,n2,hnm,n1,by decide,fun H' fi4 fd4 lk4 c b gg r e ru me od Fr hB sep nw u=> ?_⟩
  obtain⟨⟨dx4,f1⟩,f2,f3,f4,f5,f6,f7,f8,f9,f10⟩:=Fr
  obtain⟨Bn,eBn⟩:∃Bn:BM,Bn=⟨b,gg,r,e,ru,me,od,fP 0 2,((2:Nat):Int),[],[],[],[]⟩:=⟨_,rfl⟩
  have nwB:∀x∈Bn.foot,Hi x=none:=by rw[eBn];exact nw
  have J0:Tj CS CB CT G0 sh bd ch i (fun t=>if t=i then Bn else B t) 0 (cs++ [.ref c]) H':=by
   have e1:(if i=i then Bn else B i)=Bn:=if_pos rfl
   refine⟨fun x o ex=>u _ _ (aU ex g.nw.1) (aU ex g.nw.2.2) (aU ex g.nw.2.1) (g.old _ _ ex),g.nw,⟨⟨dx4,fi4,f1⟩,f2,?_⟩,by rw[List.length_append];show cs.length+ 1<=_;omega,fun t ht=> ?_,?_,?_,?_,?_,?_,?_,?_,?_⟩
   ·rw[<- n3 Bn,eBn];exact f3
   ·obtain⟨b1,b2,b3⟩:=g.bs t ht
    have e2:(if t=i then Bn else B t)=B t:=if_neg (by omega)
    rw[e1,e2]
    refine⟨b1.mvF fun x hx o ex=>u _ _ (b3 x hx).1 (b3 x hx).2.1 (b3 x hx).2.2 ex,b2,b3,fun x hx hy=> ?_⟩
    exact b1.some x hx (nwB x hy)
   ·rw[e1,eBn];exact hB
   ·rw[e1,eBn];exact sep
   ·rw[e1]
    exact fun x hx=>⟨(aU sS (nwB x hx)).symm,(aU chS (nwB x hx)).symm,(aU bdS (nwB x hx)).symm⟩
   ·rw[e1]
    exact fun x hx=>gH g.old (nwB x hx)
   ·rw[e1,eBn]
   ·rw[e1,eBn]
   ·rw[e1,eBn];rfl
   ·rw[e1,eBn];exact Nat.le_refl _
  obtain⟨kvs,l,a1,a2,a3⟩:=hT'.at (uN i)
  refine⟨_,rfl,_,rfl,tb,_,rfl,a2▸cP.k (k:=Sum.inr (eZ i)) (J0.old _ _ a1),l,rfl,⟨_,aS.of (J0.old _ _ a3)⟩,?_⟩
  refine sX (K:=K) (a:=l) (xs:=(aR (eZ i)).map V.str) (IvJ CS CB CT G0 sh bd ch a tb i) ⟨_,_,_,rfl,J0⟩ (by rintro j σ Hj _ ⟨_,_,_,_,g⟩;exact aS.of (g.old _ _ a3)) ?_ ?_
  ·clear J0 hB sep nw u f1 f2 f3 f4 f5 f6 f7 f8 f9 f10 g nwB n1 n2 n3 sS chS bdS
   rintro j x σ Hj hx ⟨o4,B,cs,rfl,g⟩
   rw[List.getElem?_map]at hx
   obtain⟨c,hc,rfl⟩:=Option.map_eq_some_iff.mp hx
   have hj:j<3:=by rw[<- tT (eZ i)];exact(List.getElem?_eq_some_iff.mp hc).1
   obtain⟨⟨dS,fiS,sS⟩,chS,bdS⟩:=g.sh
   have cl:=g.cl
   have kl:=g.kl
   refine⟨_,rfl,sh,dS,_,rfl,sS,fX,_,rfl,_,rfl,sl,fun cp hcp=> ?_⟩
   have s9:=aD.new (o:=.lst [.int 1,.int 0]) hcp
   have c9:upd Hj cp (.lst [.int 1,.int 0]) cp=some (.lst [.int 1,.int 0]):=aG
   generalize upd Hj cp (.lst [.int 1,.int 0])=H9 at s9 c9|-
   have ol:(B i).ord.length=j:=by rw[g.od,List.length_take,tT];omega
   have nin:c∉(B i).ord:=fun h=>by
    rw[g.od]at h
    obtain⟨k,hk⟩:=List.getElem?_of_mem h
    have hk':k<j:=by
     have:=(List.getElem?_eq_some_iff.mp hk).1
     rw[List.length_take]at this
     omega
    rw[List.getElem?_take_of_lt hk']at hk
    have:=(List.getElem?_inj (List.getElem?_eq_some_iff.mp hk).1 (b5v (uN i))).mp (hk.trans hc.symm)
    omega
   have ft:∀{x},x∈ [(B i).b,(B i).g,(B i).r,(B i).e,(B i).ru,(B i).me,(B i).od] ->x≠sh/\x≠ch/\x≠bd:=fun hx=>g.ft _ hx
   have fn:∀{x},x∈ [(B i).b,(B i).g,(B i).r,(B i).e,(B i).ru,(B i).me,(B i).od] ->G0 x=none:=fun hx=>g.fn _ hx
   have fm:(B i).od∈(B i).foot/\(B i).e∈(B i).foot:=⟨(by unfold BM.foot;simp),(by unfold BM.foot;simp)⟩
   refine⟨sh,bd,ch,cp,cs,fN B (i+ 1),eZ i,c,[.int 1,.int 0],[.int 1,.int 0],B i,rfl,⟨⟨dS,fiS,s9 _ _ sS⟩,s9 _ _ chS,s9 _ _ bdS⟩,by omega,hnm,b42 B hi,g.bt.same s9,g.sp,⟨(ft (by simp)).2.1.symm,(ft (by simp)).2.1.symm,(ft (by simp)).2.2.symm,(ft (by simp)).2.2.symm,(ft (by simp)).2.2.symm⟩,⟨by rw[g.ru];rfl,nin⟩,b2N (uN i) (List.mem_of_getElem? hc),c9,(aU g.bt.ord hcp).symm,pv10,by rw[g.xs];rfl,(show 2<=30 by decide),by omega,by omega,fun H' fi' fd' lk' cc l' Fr hl0 hB hl' u=> ?_⟩
   obtain⟨⟨dx',g1⟩,g2,g3,g4,g5,g6,g7,g8,g9,g10⟩:=Fr
   obtain⟨Bn,eBn⟩:∃Bn:BM,Bn={B i with kvs:=cC (B i).kvs (.inr c:aI) (.ref l'),ord:=(B i).ord++ [c]}:=⟨_,rfl⟩
   have e1:(if i=i then Bn else B i)=Bn:=if_pos rfl
   have eb:∀t,((fun t=>if t=i then Bn else B t) t).b=(B t).b:=fun t=>by
    by_cases y:t=i
    ·show(if t=i then Bn else B t).b=_
     rw[if_pos y,eBn,y]
    ·show(if t=i then Bn else B t).b=_
     rw[if_neg y]
   have ef:Bn.foot=(B i).foot:=by rw[eBn];rfl
   refine⟨_,fun t=>if t=i then Bn else B t,_,rfl,fun x o ex=>u _ _ (aU ex g.nw.1) (aU ex g.nw.2.2) (aU ex (g.fn _ fm.1)) (aU ex (g.fn _ fm.2)) (s9 _ _ (g.old _ _ ex)),g.nw,⟨⟨dx',fi',g1⟩,g2,by rw[b5b eb];exact g3⟩,by rw[List.length_append];show cs.length+ 1<=_;omega,fun t ht=> ?_,?_,?_,?_,?_,?_,?_,?_,?_⟩
   ·obtain⟨b1,b2,b3,b4⟩:=g.bs t ht
    have e2:(if t=i then Bn else B t)=B t:=if_neg (by omega)
    rw[e1,e2,ef]
    exact⟨b1.mvF fun x hx o ex=>u _ _ (b3 x hx).1 (b3 x hx).2.1 (fun y=>b4 x hx (y▸fm.1)) (fun y=>b4 x hx (y▸fm.2)) (s9 _ _ ex),b2,b3,b4⟩
   ·rw[e1,eBn];exact hB
   ·rw[e1,eBn];exact⟨g.sp.ro,g.sp.eu,g.sp.em,g.sp.um⟩
   ·rw[e1,ef];exact g.ft
   ·rw[e1,ef];exact g.fn
   ·rw[e1,eBn];exact g.xs
   ·rw[e1,eBn];exact g.ru
   ·rw[e1,eBn]
    show(B i).ord++ [c]=_
    rw[g.od,List.take_add_one,hc]
    rfl
   ·rw[e1,eBn]
    exact Nat.le_trans b4j (by omega)
  ·rintro σ Hj ⟨o4,B,cs,rfl,g⟩
   rw[List.length_map,tT]at g
   have cl:=g.cl
   refine⟨_,_,B,cs,rfl,g.old,g.nw,g.sh,by omega,fun t ht=> ?_⟩
   by_cases y:t=i
   ·rw[y]
    refine⟨g.bt,?_,g.ft⟩
    rw[g.od,<- tT (eZ i),List.take_length]
   ·obtain⟨b1,b2,b3,_⟩:=g.bs t (by omega)
    exact⟨b1,b2,b3⟩
 ·rintro σ Hi ⟨o3,o4,B,cs,rfl,g⟩
  exact hD _ _ ⟨_,_,B,cs,rfl,q0.trans g.old,⟨gH q0 g.nw.1,gH q0 g.nw.2.1,gH q0 g.nw.2.2⟩,g.sh,g.cl,g.bs⟩
theorem b4o(T:bD K mg){f:Addr}{fd:FuncData}(F:gM K "law" "law" gK f fd):dW P w K mg base aJ 14 f fd ["_law_script"] (b0l K):=by
 obtain⟨CS,Y⟩:=T.t_Sheet
 obtain⟨CF,Fi⟩:=T.t_Finder
 obtain⟨CB,Wb⟩:=T.t_Board
 obtain⟨CT,U⟩:=T.t_Table
 obtain⟨CV,VV⟩:=T.t_View
 obtain⟨C0,t0⟩:=T.t_Whole
 obtain⟨C1,t1⟩:=T.t_Some
 obtain⟨C2,t2⟩:=T.t_Ordered
 obtain⟨C3,t3⟩:=T.t_Cut
 obtain⟨C4,t4⟩:=T.t_Together
 obtain⟨C5,t5⟩:=T.t_Beside
 obtain⟨CC,Cc⟩:=T.t_ColumnSet
 obtain⟨CN,Tt⟩:=T.t_TableTold
 obtain⟨c,X⟩:=T.exc
 let C:Nat->Addr:=fun k=>match k with|0=>C0|1=>C1|2=>C2|3=>C3|4=>C4|_=>C5
 have Z:Z6 K mg C:=⟨t0,t1,t2,t3,t4,t5⟩
 have GS:cA P w K mg base aJ 3 CS ["self"] (spSI CS CF):=oF T Y Fi
 refine F.ok cY (fun vs H Q E h=> ?_) (fun cdv A outer s H vs Q E hr h=> ?_)
 ·obtain⟨a,ns,rfl,_⟩:=h
  rfl
 ·obtain⟨a,ns,rfl,hS,hl,q⟩:=h
  have hu:=fB hr
  obtain⟨tB,hB,qB⟩:=b3y (P:=P) (w:=w) (base:=base) (f:=f) (cdv:=cdv) T X Y Wb U Z VV A outer s H E hr
  obtain⟨tA,hA,qA⟩:=b2J (P:=P) (w:=w) (base:=base) (f:=f) (cdv:=cdv) T Y Fi Wb U Cc Tt A outer s H E hr
  refine boxS ⟨_,(hU (mT (i:=1) cY.nd rfl (.inl rfl) (b3L (b1o dH (dI.mk (eI (aA bF (aA bF (aA bF aE))))) (b1o dH (dI.mk (eI (aA bF (aA bF (aA bF aE))))) b3g))))
   (hU (mX.mk (cQ (i:=2) cY.nd rfl (.inl rfl) (b6h GS (hr.mono (by decide)) Y.c bA)))
   (hU (mX.mk hA)
   (nG.mk (aM (tU PassesOwn.never rfl (hZ (b5O b5I (pv 0) b3W (b6e bE))) (lI (i:=5) cY.nd rfl (.inl rfl)) hB)
   (aK (bK lB))))))),?_⟩
  intro vd hvd
  have s9:=aD.new (o:=.dK []) hvd
  have d9:upd H vd (.dK []) vd=some (.dK []):=aG
  generalize upd H vd (.dK [])=H9 at s9 d9|-
  refine⟨sl,fun v0 hv0=> ?_⟩
  have sa:=aD.new (o:=.lst [.str ("a":Str),.str ("b":Str),.str ("key":Str)]) hv0
  have ca:upd H9 v0 (.lst [.str ("a":Str),.str ("b":Str),.str ("key":Str)]) v0=some (.lst [.str ("a":Str),.str ("b":Str),.str ("key":Str)]):=aG
  generalize upd H9 v0 (.lst [.str ("a":Str),.str ("b":Str),.str ("key":Str)])=Ha at sa ca|-
  refine⟨sl,fun v1 hv1=> ?_⟩
  have sb:=aD.new (o:=.lst [.str ("b":Str),.str ("key":Str),.str ("c":Str)]) hv1
  have cb:upd Ha v1 (.lst [.str ("b":Str),.str ("key":Str),.str ("c":Str)]) v1=some (.lst [.str ("b":Str),.str ("key":Str),.str ("c":Str)]):=aG
  generalize upd Ha v1 (.lst [.str ("b":Str),.str ("key":Str),.str ("c":Str)])=Hb at sb cb|-
  refine⟨sb _ _ (sa _ _ d9),[((.inr "one":aI),V.ref v0),((.inr "two":aI),V.ref v1)],rfl,(show 2<=15 by decide),?_⟩
  rw[b3o]
  have uc:kK vd Hb (upd Hb vd (.dK [((.inr "one":aI),V.ref v0),((.inr "two":aI),V.ref v1)])):=fun x o n e=>by rw[aH n];exact e
  have dc:upd Hb vd (.dK [((.inr "one":aI),V.ref v0),((.inr "two":aI),V.ref v1)]) vd=some (.dK [((.inr "one":aI),V.ref v0),((.inr "two":aI),V.ref v1)]):=aG
  generalize upd Hb vd (.dK [((.inr "one":aI),V.ref v0),((.inr "two":aI),V.ref v1)])=Hc at uc dc|-
  have kc:aD H Hc:=fun x o e=>uc _ _ (aU e hvd) (sb _ _ (sa _ _ (s9 _ _ e)))
  have n0d:v0≠vd:=fun y=>by rw[y,d9]at hv0;cases hv0
  have n1d:v1≠vd:=fun y=>by rw[y,sa _ _ d9]at hv1;cases hv1
  have hT:Tb vd Hc:=⟨v0,v1,dc,uc _ _ n0d (sb _ _ ca),uc _ _ n1d cb⟩
  intro s0 d0 hs0 hd0 ne0
  refine⟨s0,d0,rfl,aG,fun H3 bd ch fi fd' lk df fr nfl a1 a2 a3 a4 a5 a6 b0=>⟨rfl,?_⟩⟩
  have s3:aD Hc H3:=fun x o e=>b0 _ _ (aU e hs0) (by rw[aH (aU e hs0),aH (aU e hd0)];exact e)
  have f0:∀x∈ [bd,ch,fi,fd',lk],Hc x=none:=fun x hx=>(jV (jV (fr x hx)).1).1
  refine qA _ Hc H3 s0 bd ch a vd (fun _=>⟨0,0,0,0,0,0,0,[],0,[],[],[],[]⟩) hT ⟨s3,⟨hs0,f0 _ (by simp),f0 _ (by simp)⟩,⟨⟨d0,fi,a1⟩,a3,a2⟩,Nat.le_refl _,fun t ht=>by{omega}⟩ ?_
  rintro σ H6 ⟨o3,o4,B,cs,rfl,g⟩
  have s6:=kc.trans g.old
  refine⟨_,rfl,12,rfl,a,_,rfl,s6.seq hS,fun l hl=> ?_⟩
  obtain⟨ys,ey⟩:=b1K ns none (some 12)
  rw[ey]
  have s7:=aD.new (o:=.lst (ys.map V.int)) hl
  have c7:upd H6 l (.lst (ys.map V.int)) l=some (.lst (ys.map V.int)):=aG
  generalize upd H6 l (.lst (ys.map V.int))=H7 at s7 c7|-
  have X7:=g.sx.same s7
  have T7:=(hT.same g.old).same s7
  refine⟨l,rfl,⟨_,aS.of c7⟩,?_⟩
  refine sX (K:=K) (a:=l) (xs:=ys.map V.int) (fun _ σ Hi=>∃os:List (Option L2.V),os.length=16/\σ=some (.ref a)::some (.ref vd)::some (.ref s0)::os/\aD H7 Hi) ⟨_,rfl,rfl,fun _ _ e=>e⟩ (by rintro i σ Hi _ ⟨_,_,_,g⟩;exact aS.of (g _ _ c7)) ?_ ?_
  ·rintro i x σ Hi hx ⟨os,ol,rfl,si⟩
   rw[List.getElem?_map]at hx
   obtain⟨n,hn,rfl⟩:=Option.map_eq_some_iff.mp hx
   match os,ol with
   | [o3,o4,o5,o6,o7,o8,o9,o10,o11,o12,o13,o14,o15,o16,o17,o18],_=>
    exact qB _ Hi s0 a vd n o3 o4 o6 o7 o8 o9 o10 o11 o12 o13 o14 o15 o16 o17 o18 (X7.same si) (T7.same si) fun H' os s' hl=>⟨os,hl,rfl,si.trans s'⟩
  ·rintro σ Hi ⟨os,ol,rfl,si⟩
   exact q _
end
set_option autoImplicit true in
theorem b43{K:Fg}{h:Heap}{mg:Str->Option Value}(X:K.In h)(G:h.Ns mainGlobals mg)
 (a0d:W.nsIn K mainGlobals "len"=some none)
 (a33:W.nsIn K mainGlobals "isinstance"=some none)
 (zD:W.nsIn K mainGlobals "int"=some none)
 (a3L:W.nsIn K mainGlobals "bool"=some none)
 (a5z:W.nsIn K mainGlobals "str"=some none)
 (a2y:W.nsIn K mainGlobals "all"=some none)
 (a7Q:W.nsIn K mainGlobals "range"=some none)
 (a5S:W.nsIn K mainGlobals "abs"=some none)
 (a8B:W.nsIn K mainGlobals "list"=some none)
 (wV:W.nsIn K mainGlobals "tuple"=some none)
 (a8C:W.nsIn K mainGlobals "sorted"=some none)
 (a1I:W.nsIn K mainGlobals "enumerate"=some none)
 (a1V:W.nsIn K mainGlobals "set"=some none)
 (a2c:W.nsIn K mainGlobals "ValueError"=some none)
 {b1J:Tok}(a1a:W.nsIn K mainGlobals "LETTERS"=some (some (.str ("abcdefghijklmnopqrstuvwxyz":Str) b1J)))
 {b5F:Tok}(a3w:W.nsIn K mainGlobals "MOST_LETTERS"=some (some (.int 8 b5F)))
 {b5q b5w:Tok}{b14:Nat}(a7i:W.nsIn K mainGlobals "LACKS"=some (some (.ref b0n)))(xY:K.lookup b0n=some ⟨.type "tuple",od_LACKS,.seq #[Value.str ("fault":Str) b5q,Value.str ("lacks":Str) b5w] b14,sl_LACKS⟩)
 {b36:Tok}(zV:W.nsIn K mainGlobals "MOST_ROWS"=some (some (.int 30 b36)))
 {b5S:Tok}(a2N:W.nsIn K mainGlobals "MOST_COLUMNS"=some (some (.int 8 b5S)))
 {b2C:Tok}(a1u:W.nsIn K mainGlobals "MOST_TABLES"=some (some (.int 4 b2C)))
 {b2d b2S:Tok}{b5G:Nat}(a8q:W.nsIn K mainGlobals "UNKNOWN"=some (some (.ref b1i)))(a2n:K.lookup b1i=some ⟨.type "tuple",od_UNKNOWN,.seq #[Value.str ("fault":Str) b2d,Value.str ("unknown":Str) b2S] b5G,sl_UNKNOWN⟩)
 (yT:W.nsIn K mainGlobals "is_whole"=some (some (.ref b1a)))
 (a4C:K.lookup b1a=some ⟨oc_is_whole,od_is_whole,.func (W.fnOf "is_whole" "is_whole" (aP pV) (aL pV) (aC pV) .none kV_is_whole doc_is_whole pm_is_whole an_is_whole b1I ct_is_whole),sl_is_whole⟩)
 (a3u:W.codeIn K b1I "is_whole"=true)(jY:W.keepIn K (.ref b1a)=true)
 (a3a:W.nsIn K mainGlobals "is_number"=some (some (.ref b0s)))
 (a1W:K.lookup b0s=some ⟨oc_is_number,od_is_number,.func (W.fnOf "is_number" "is_number" (aP pO) (aL pO) (aC pO) .none kV_is_number doc_is_number pm_is_number an_is_number b21 ct_is_number),sl_is_number⟩)
 (a3Y:W.codeIn K b21 "is_number"=true)(qY:W.keepIn K (.ref b0s)=true)
 (a30:W.nsIn K mainGlobals "is_name"=some (some (.ref b0Q)))
 (a7r:K.lookup b0Q=some ⟨oc_is_name,od_is_name,.func (W.fnOf "is_name" "is_name" (aP nS) (aL nS) (aC nS) .none kV_is_name doc_is_name pm_is_name an_is_name b5n ct_is_name),sl_is_name⟩)
 (a0O:W.codeIn K b5n "is_name"=true)(gL:W.keepIn K (.ref b0Q)=true)
 (a8e:W.nsIn K mainGlobals "is_fault"=some (some (.ref b0h)))
 (a7a:K.lookup b0h=some ⟨oc_is_fault,od_is_fault,.func (W.fnOf "is_fault" "is_fault" (aP nQ) (aL nQ) (aC nQ) .none kV_is_fault doc_is_fault pm_is_fault an_is_fault b2B ct_is_fault),sl_is_fault⟩)
 (a12:W.codeIn K b2B "is_fault"=true)(qX:W.keepIn K (.ref b0h)=true)
 (a6S:W.nsIn K mainGlobals "is_value"=some (some (.ref b0f)))
 (a0E:K.lookup b0f=some ⟨oc_is_value,od_is_value,.func (W.fnOf "is_value" "is_value" (aP nM) (aL nM) (aC nM) .none kV_is_value doc_is_value pm_is_value an_is_value b6c ct_is_value),sl_is_value⟩)
 (xV:W.codeIn K b6c "is_value"=true)(nJ:W.keepIn K (.ref b0f)=true)
 (zL:W.nsIn K mainGlobals "check_size"=some (some (.ref b0X)))
 (a45:K.lookup b0X=some ⟨oc_check_size,od_check_size,.func (W.fnOf "check_size" "check_size" (aP rZ) (aL rZ) (aC rZ) .none kV_check_size doc_check_size pm_check_size an_check_size b5Z ct_check_size),sl_check_size⟩)
 (a0n:W.codeIn K b5Z "check_size"=true)(mJ:W.keepIn K (.ref b0X)=true)
 (a4J:W.nsIn K mainGlobals "check_place"=some (some (.ref a9G)))
 (a6y:K.lookup a9G=some ⟨oc_check_place,od_check_place,.func (W.fnOf "check_place" "check_place" (aP qR) (aL qR) (aC qR) .none kV_check_place doc_check_place pm_check_place an_check_place b4A ct_check_place),sl_check_place⟩)
 (a47:W.codeIn K b4A "check_place"=true)(lS:W.keepIn K (.ref a9G)=true)
 (zC:W.nsIn K mainGlobals "check_values"=some (some (.ref b0Y)))
 (vX:K.lookup b0Y=some ⟨oc_check_values,od_check_values,.func (W.fnOf "check_values" "check_values" (aP qO) (aL qO) (aC qO) .none kV_check_values doc_check_values pm_check_values an_check_values b3R ct_check_values),sl_check_values⟩)
 (a7U:W.codeIn K b3R "check_values"=true)(mQ:W.keepIn K (.ref b0Y)=true)
 (a72:W.nsIn K mainGlobals "check_column"=some (some (.ref a99)))
 (a2T:K.lookup a99=some ⟨oc_check_column,od_check_column,.func (W.fnOf "check_column" "check_column" (aP qG) (aL qG) (aC qG) .none kV_check_column doc_check_column pm_check_column an_check_column b5k ct_check_column),sl_check_column⟩)
 (a6o:W.codeIn K b5k "check_column"=true)(xG:W.keepIn K (.ref a99)=true)
 (a5m:W.nsIn K mainGlobals "check_count"=some (some (.ref a9Q)))
 (a4g:K.lookup a9Q=some ⟨oc_check_count,od_check_count,.func (W.fnOf "check_count" "check_count" (aP qS) (aL qS) (aC qS) .none kV_check_count doc_check_count pm_check_count an_check_count b54 ct_check_count),sl_check_count⟩)
 (a0A:W.codeIn K b54 "check_count"=true)(a9k:W.keepIn K (.ref a9Q)=true)
 (a6M:W.nsIn K mainGlobals "behind_point"=some (some (.ref b0t)))
 (a0L:K.lookup b0t=some ⟨oc_behind_point,od_behind_point,.func (W.fnOf "behind_point" "behind_point" (aP uJ) (aL uJ) (aC uJ) .none kV_behind_point doc_behind_point pm_behind_point an_behind_point b5c ct_behind_point),sl_behind_point⟩)
 (a8k:W.codeIn K b5c "behind_point"=true)(a3x:W.keepIn K (.ref b0t)=true)
 (a62:W.nsIn K mainGlobals "_law_whole"=some (some (.ref b0E)))
 (a73:K.lookup b0E=some ⟨oc_law_whole,od_law_whole,.func (W.fnOf "_law_whole" "_law_whole" (aP pS) (aL pS) (aC pS) .none kV_law_whole doc_law_whole pm_law_whole an_law_whole b1G ct_law_whole),sl_law_whole⟩)
 (a1m:W.codeIn K b1G "_law_whole"=true)(rQ:W.keepIn K (.ref b0E)=true)
 (a3Z:W.nsIn K mainGlobals "_law_kinds"=some (some (.ref b0r)))
 (a0l:K.lookup b0r=some ⟨oc_law_kinds,od_law_kinds,.func (W.fnOf "_law_kinds" "_law_kinds" (aP oN) (aL oN) (aC oN) .none kV_law_kinds doc_law_kinds pm_law_kinds an_law_kinds b1R ct_law_kinds),sl_law_kinds⟩)
 (a3s:W.codeIn K b1R "_law_kinds"=true)(rO:W.keepIn K (.ref b0r)=true)
 (a20:W.nsIn K mainGlobals "_law_made"=some (some (.ref b04)))
 (wR:K.lookup b04=some ⟨oc_law_made,od_law_made,.func (W.fnOf "_law_made" "_law_made" (aP pK) (aL pK) (aC pK) .none kV_law_made doc_law_made pm_law_made an_law_made b1W ct_law_made),sl_law_made⟩)
 (a4H:W.codeIn K b1W "_law_made"=true)(oI:W.keepIn K (.ref b04)=true)
 (a5i:W.nsIn K mainGlobals "_law_due"=some (some (.ref a9y)))
 (a6s:K.lookup a9y=some ⟨oc_law_due,od_law_due,.func (W.fnOf "_law_due" "_law_due" (aP gE) (aL gE) (aC gE) .none kV_law_due doc_law_due pm_law_due an_law_due b4y ct_law_due),sl_law_due⟩)
 (a0N:W.codeIn K b4y "_law_due"=true)(nK:W.keepIn K (.ref a9y)=true)
 (a8J:W.nsIn K mainGlobals "_law_columns"=some (some (.ref a9X)))
 (a80:K.lookup a9X=some ⟨oc_law_columns,od_law_columns,.func (W.fnOf "_law_columns" "_law_columns" (aP iI) (aL iI) (aC iI) .none kV_law_columns doc_law_columns pm_law_columns an_law_columns b2I ct_law_columns),sl_law_columns⟩)
 (a7q:W.codeIn K b2I "_law_columns"=true)(oJ:W.keepIn K (.ref a9X)=true)
 (yH:W.nsIn K mainGlobals "law"=some (some (.ref b1s)))
 (a29:K.lookup b1s=some ⟨oc_law,od_law,.func (W.fnOf "law" "law" (aP gK) (aL gK) (aC gK) .none kV_law doc_law pm_law an_law b6m ct_law),sl_law⟩)
 (vJ:W.codeIn K b6m "law"=true)(a4B:W.keepIn K (.ref b1s)=true)
 (a4v:W.nsIn K mainGlobals "ColsError"=some (some (.ref jO)))
 (a5u:W.nsIn K mainGlobals "NoName"=some (some (.ref cG)))
 (wN:W.nsIn K mainGlobals "NoValue"=some (some (.ref pI)))
 (a4Q:W.nsIn K mainGlobals "NoTable"=some (some (.ref cH)))
 (a08:W.nsIn K mainGlobals "NoColumn"=some (some (.ref cJ)))
 (a3z:W.nsIn K mainGlobals "NoPlace"=some (some (.ref cM)))
 (yJ:W.nsIn K mainGlobals "NoSize"=some (some (.ref rR)))
 (a6r:W.nsIn K mainGlobals "NoText"=some (some (.ref oC)))
 (a8X:W.nsIn K mainGlobals "NoRow"=some (some (.ref pA)))
 (zM:W.nsIn K mainGlobals "NoBack"=some (some (.ref oR)))
 (a5C:W.nsIn K mainGlobals "TooMuch"=some (some (.ref pZ)))
 (a9e:W.nsIn K mainGlobals "Ruled"=some (some (.ref oV)))
 (yC:W.nsIn K mainGlobals "Ring"=some (some (.ref qF)))
 (a3T:W.nsIn K mainGlobals "Nobody"=some (some (.ref oW)))
 (a1b:W.nsIn K mainGlobals "Several"=some (some (.ref rF)))
 (x_NoTable:W.excIn K cH jM "ValueError.__new__"=true)(v_NoTable:W.kitOne K (.ref cH) (.type "ValueError")=some true)
 (a1Y:W.findIn K (.ref cH) "__getattribute__"=some (some (.builtin "BaseException.__getattribute__")))
 (a89:W.findIn K (.ref cH) "__getattr__"=some none)
 (a3J:W.findIn K (.ref cH) "__class__"=some (some (.builtin "object.__class__")))
 (a13:W.mroIn K cH (.type "object")=some true)
 (a1O:W.mroIn K cH (.type "BaseException")=some true)
 {b3u:ClassData}(a1R:W.clsIn K cH=some b3u)
 (i_NoTable_ColsError:W.kitOne K (.ref cH) (.ref jO)=some true)
 (e_NoTable_ColsError:W.exmOne K (.ref cH) (.ref jO)=some true)
 (i_NoTable_NoName:W.kitOne K (.ref cH) (.ref cG)=some false)
 (i_NoTable_NoValue:W.kitOne K (.ref cH) (.ref pI)=some false)
 (i_NoTable_NoTable:W.kitOne K (.ref cH) (.ref cH)=some true)
 (i_NoTable_NoColumn:W.kitOne K (.ref cH) (.ref cJ)=some false)
 (i_NoTable_NoPlace:W.kitOne K (.ref cH) (.ref cM)=some false)
 (i_NoTable_NoSize:W.kitOne K (.ref cH) (.ref rR)=some false)
 (i_NoTable_NoText:W.kitOne K (.ref cH) (.ref oC)=some false)
 (i_NoTable_NoRow:W.kitOne K (.ref cH) (.ref pA)=some false)
 (i_NoTable_NoBack:W.kitOne K (.ref cH) (.ref oR)=some false)
 (i_NoTable_TooMuch:W.kitOne K (.ref cH) (.ref pZ)=some false)
 (i_NoTable_Ruled:W.kitOne K (.ref cH) (.ref oV)=some false)
 (i_NoTable_Ring:W.kitOne K (.ref cH) (.ref qF)=some false)
 (i_NoTable_Nobody:W.kitOne K (.ref cH) (.ref oW)=some false)
 (i_NoTable_Several:W.kitOne K (.ref cH) (.ref rF)=some false)
 (x_NoColumn:W.excIn K cJ jM "ValueError.__new__"=true)(v_NoColumn:W.kitOne K (.ref cJ) (.type "ValueError")=some true)
 (wS:W.findIn K (.ref cJ) "__getattribute__"=some (some (.builtin "BaseException.__getattribute__")))
 (a5j:W.findIn K (.ref cJ) "__getattr__"=some none)
 (a0z:W.findIn K (.ref cJ) "__class__"=some (some (.builtin "object.__class__")))
 (a2a:W.mroIn K cJ (.type "object")=some true)
 (a4Z:W.mroIn K cJ (.type "BaseException")=some true)
 {b3P:ClassData}(wD:W.clsIn K cJ=some b3P)
 (i_NoColumn_ColsError:W.kitOne K (.ref cJ) (.ref jO)=some true)
 (e_NoColumn_ColsError:W.exmOne K (.ref cJ) (.ref jO)=some true)
 (i_NoColumn_NoName:W.kitOne K (.ref cJ) (.ref cG)=some false)
 (i_NoColumn_NoValue:W.kitOne K (.ref cJ) (.ref pI)=some false)
 (i_NoColumn_NoTable:W.kitOne K (.ref cJ) (.ref cH)=some false)
 (i_NoColumn_NoColumn:W.kitOne K (.ref cJ) (.ref cJ)=some true)
 (i_NoColumn_NoPlace:W.kitOne K (.ref cJ) (.ref cM)=some false)
 (i_NoColumn_NoSize:W.kitOne K (.ref cJ) (.ref rR)=some false)
 (i_NoColumn_NoText:W.kitOne K (.ref cJ) (.ref oC)=some false)
 (i_NoColumn_NoRow:W.kitOne K (.ref cJ) (.ref pA)=some false)
 (i_NoColumn_NoBack:W.kitOne K (.ref cJ) (.ref oR)=some false)
 (i_NoColumn_TooMuch:W.kitOne K (.ref cJ) (.ref pZ)=some false)
 (i_NoColumn_Ruled:W.kitOne K (.ref cJ) (.ref oV)=some false)
 (i_NoColumn_Ring:W.kitOne K (.ref cJ) (.ref qF)=some false)
 (i_NoColumn_Nobody:W.kitOne K (.ref cJ) (.ref oW)=some false)
 (i_NoColumn_Several:W.kitOne K (.ref cJ) (.ref rF)=some false)
 (x_NoPlace:W.excIn K cM jM "ValueError.__new__"=true)(v_NoPlace:W.kitOne K (.ref cM) (.type "ValueError")=some true)
 (zB:W.findIn K (.ref cM) "__getattribute__"=some (some (.builtin "BaseException.__getattribute__")))
 (a32:W.findIn K (.ref cM) "__getattr__"=some none)
 (wF:W.findIn K (.ref cM) "__class__"=some (some (.builtin "object.__class__")))
 (a4i:W.mroIn K cM (.type "object")=some true)
 (a0D:W.mroIn K cM (.type "BaseException")=some true)
 {b3T:ClassData}(a3i:W.clsIn K cM=some b3T)
 (i_NoPlace_ColsError:W.kitOne K (.ref cM) (.ref jO)=some true)
 (e_NoPlace_ColsError:W.exmOne K (.ref cM) (.ref jO)=some true)
 (i_NoPlace_NoName:W.kitOne K (.ref cM) (.ref cG)=some false)
 (i_NoPlace_NoValue:W.kitOne K (.ref cM) (.ref pI)=some false)
 (i_NoPlace_NoTable:W.kitOne K (.ref cM) (.ref cH)=some false)
 (i_NoPlace_NoColumn:W.kitOne K (.ref cM) (.ref cJ)=some false)
 (i_NoPlace_NoPlace:W.kitOne K (.ref cM) (.ref cM)=some true)
 (i_NoPlace_NoSize:W.kitOne K (.ref cM) (.ref rR)=some false)
 (i_NoPlace_NoText:W.kitOne K (.ref cM) (.ref oC)=some false)
 (i_NoPlace_NoRow:W.kitOne K (.ref cM) (.ref pA)=some false)
 (i_NoPlace_NoBack:W.kitOne K (.ref cM) (.ref oR)=some false)
 (i_NoPlace_TooMuch:W.kitOne K (.ref cM) (.ref pZ)=some false)
 (i_NoPlace_Ruled:W.kitOne K (.ref cM) (.ref oV)=some false)
 (i_NoPlace_Ring:W.kitOne K (.ref cM) (.ref qF)=some false)
 (i_NoPlace_Nobody:W.kitOne K (.ref cM) (.ref oW)=some false)
 (i_NoPlace_Several:W.kitOne K (.ref cM) (.ref rF)=some false)
 (x_NoName:W.excIn K cG jM "ValueError.__new__"=true)(v_NoName:W.kitOne K (.ref cG) (.type "ValueError")=some true)
 (wH:W.findIn K (.ref cG) "__getattribute__"=some (some (.builtin "BaseException.__getattribute__")))
 (a0r:W.findIn K (.ref cG) "__getattr__"=some none)
 (a0F:W.findIn K (.ref cG) "__class__"=some (some (.builtin "object.__class__")))
 (a3B:W.mroIn K cG (.type "object")=some true)
 (xR:W.mroIn K cG (.type "BaseException")=some true)
 {b5A:ClassData}(wQ:W.clsIn K cG=some b5A)
 (i_NoName_ColsError:W.kitOne K (.ref cG) (.ref jO)=some true)
 (e_NoName_ColsError:W.exmOne K (.ref cG) (.ref jO)=some true)
 (i_NoName_NoName:W.kitOne K (.ref cG) (.ref cG)=some true)
 (i_NoName_NoValue:W.kitOne K (.ref cG) (.ref pI)=some false)
 (i_NoName_NoTable:W.kitOne K (.ref cG) (.ref cH)=some false)
 (i_NoName_NoColumn:W.kitOne K (.ref cG) (.ref cJ)=some false)
 (i_NoName_NoPlace:W.kitOne K (.ref cG) (.ref cM)=some false)
 (i_NoName_NoSize:W.kitOne K (.ref cG) (.ref rR)=some false)
 (i_NoName_NoText:W.kitOne K (.ref cG) (.ref oC)=some false)
 (i_NoName_NoRow:W.kitOne K (.ref cG) (.ref pA)=some false)
 (i_NoName_NoBack:W.kitOne K (.ref cG) (.ref oR)=some false)
 (i_NoName_TooMuch:W.kitOne K (.ref cG) (.ref pZ)=some false)
 (i_NoName_Ruled:W.kitOne K (.ref cG) (.ref oV)=some false)
 (i_NoName_Ring:W.kitOne K (.ref cG) (.ref qF)=some false)
 (i_NoName_Nobody:W.kitOne K (.ref cG) (.ref oW)=some false)
 (i_NoName_Several:W.kitOne K (.ref cG) (.ref rF)=some false)
 (w4:W.specialIn K (.builtin "object.__class__") "__get__"=some (some (.builtin "getset_descriptor.__get__")))(w5:W.takesIn K (.builtin "object.__class__")=some true)
 (a1w:W.nsIn K mainGlobals "Table"=some (some (.ref eJ)))
 (a6R:W.plainGet K eJ Str.empty=true)(a1g:W.hasDictIn K eJ=true)(a7o:W.plainOver K eJ=true)(a7j:W.findIn K (.ref eJ) "__setattr__"=some (some (.builtin "object.__setattr__")))(a4A:W.makesIn K eJ=true)(a7G:W.keepIn K (.ref eJ)=true)(a51:W.findIn K (.ref eJ) "__class__"=some (some (.builtin "object.__class__")))
 (a0x:W.findIn K (.ref eJ) "row_numbers"=some none)
 (a7C:W.findIn K (.ref eJ) "fresh_number"=some none)
 (a18:W.findIn K (.ref eJ) "kept"=some none)
 (a5d:W.findIn K (.ref eJ) "__init__"=some (some (.ref a4z)))(a5F:W.isFn K (.ref a4z)=true)
 (a1x:K.lookup a4z=some ⟨oc_Table_init,od_Table_init,.func (W.fnOf "__init__" "Table.__init__" (aP pX) (aL pX) (aC pX) .none kV_Table_init doc_Table_init pm_Table_init an_Table_init b5V ct_Table_init),sl_Table_init⟩)
 (a6X:W.codeIn K b5V "Table.__init__"=true)(qD:W.keepIn K (.ref a4z)=true)
 (a7v:W.findIn K (.ref eJ) "many"=some (some (.ref a3c)))(a70:W.isFn K (.ref a3c)=true)
 (a1K:K.lookup a3c=some ⟨oc_Table_many,od_Table_many,.func (W.fnOf "many" "Table.many" (aP pQ) (aL pQ) (aC pQ) .none kV_Table_many doc_Table_many pm_Table_many an_Table_many b3M ct_Table_many),sl_Table_many⟩)
 (a7h:W.codeIn K b3M "Table.many"=true)(jN:W.keepIn K (.ref a3c)=true)
 (a3f:W.findIn K (.ref eJ) "columns"=some (some (.ref a7p)))(a1s:W.isFn K (.ref a7p)=true)
 (vY:K.lookup a7p=some ⟨oc_Table_columns,od_Table_columns,.func (W.fnOf "columns" "Table.columns" (aP tG) (aL tG) (aC tG) .none kV_Table_columns doc_Table_columns pm_Table_columns an_Table_columns b3i ct_Table_columns),sl_Table_columns⟩)
 (a2J:W.codeIn K b3i "Table.columns"=true)(zZ:W.keepIn K (.ref a7p)=true)
 (wM:W.findIn K (.ref eJ) "give"=some (some (.ref a5O)))(xW:W.isFn K (.ref a5O)=true)
 (vV:K.lookup a5O=some ⟨oc_Table_give,od_Table_give,.func (W.fnOf "give" "Table.give" (aP kU) (aL kU) (aC kU) .none kV_Table_give doc_Table_give pm_Table_give an_Table_give b2E ct_Table_give),sl_Table_give⟩)
 (a2Q:W.codeIn K b2E "Table.give"=true)(oX:W.keepIn K (.ref a5O)=true)
 (a4F:W.findIn K (.ref eJ) "drop"=some (some (.ref a03)))(a3F:W.isFn K (.ref a03)=true)
 (a63:K.lookup a03=some ⟨oc_Table_drop,od_Table_drop,.func (W.fnOf "drop" "Table.drop" (aP sK) (aL sK) (aC sK) .none kV_Table_drop doc_Table_drop pm_Table_drop an_Table_drop b3f ct_Table_drop),sl_Table_drop⟩)
 (a8p:W.codeIn K b3f "Table.drop"=true)(a8E:W.keepIn K (.ref a03)=true)
 (a0k:W.findIn K (.ref eJ) "at"=some (some (.ref a5U)))(a64:W.isFn K (.ref a5U)=true)
 (a1U:K.lookup a5U=some ⟨oc_Table_at,od_Table_at,.func (W.fnOf "at" "Table.at" (aP qI) (aL qI) (aC qI) .none kV_Table_at doc_Table_at pm_Table_at an_Table_at b6d ct_Table_at),sl_Table_at⟩)
 (yD:W.codeIn K b6d "Table.at"=true)(tL:W.keepIn K (.ref a5U)=true)
 (a5E:W.findIn K (.ref eJ) "number_at"=some (some (.ref a2L)))(a79:W.isFn K (.ref a2L)=true)
 (a4I:K.lookup a2L=some ⟨oc_Table_number_at,od_Table_number_at,.func (W.fnOf "number_at" "Table.number_at" (aP nX) (aL nX) (aC nX) .none kV_Table_number_at doc_Table_number_at pm_Table_number_at an_Table_number_at b2D ct_Table_number_at),sl_Table_number_at⟩)
 (wC:W.codeIn K b2D "Table.number_at"=true)(uL:W.keepIn K (.ref a2L)=true)
 (a7n:W.findIn K (.ref eJ) "check_column"=some (some (.ref xJ)))(a4l:W.isFn K (.ref xJ)=true)
 (vP:K.lookup xJ=some ⟨oc_Table_check_column,od_Table_check_column,.func (W.fnOf "check_column" "Table.check_column" (aP rY) (aL rY) (aC rY) .none kV_Table_check_column doc_Table_check_column pm_Table_check_column an_Table_check_column b29 ct_Table_check_column),sl_Table_check_column⟩)
 (a3r:W.codeIn K b29 "Table.check_column"=true)(pJ:W.keepIn K (.ref xJ)=true)
 (jA:W.nsIn K mainGlobals "View"=some (some (.ref dZ)))
 (a25:W.plainGet K dZ Str.empty=true)(yP:W.hasDictIn K dZ=true)(a4L:W.plainOver K dZ=true)(a7M:W.findIn K (.ref dZ) "__setattr__"=some (some (.builtin "object.__setattr__")))(a11:W.makesIn K dZ=true)(a1H:W.keepIn K (.ref dZ)=true)(a4q:W.findIn K (.ref dZ) "__class__"=some (some (.builtin "object.__class__")))
 (a9i:W.findIn K (.ref dZ) "columns"=some (some (.ref lW)))(mF:W.isFn K (.ref lW)=true)
 (mP:K.lookup lW=some ⟨oc_View_columns,od_View_columns,.func (W.fnOf "columns" "View.columns" (aP iO) (aL iO) (aC iO) .none kV_View_columns doc_View_columns pm_View_columns an_View_columns b4d ct_View_columns),sl_View_columns⟩)
 (lV:W.codeIn K b4d "View.columns"=true)(nC:W.keepIn K (.ref lW)=true)
 (a8Q:W.findIn K (.ref dZ) "rows"=some (some (.ref tK)))(tD:W.isFn K (.ref tK)=true)
 (vA:K.lookup tK=some ⟨oc_View_rows,od_View_rows,.func (W.fnOf "rows" "View.rows" (aP nI) (aL nI) (aC nI) .none kV_View_rows doc_View_rows pm_View_rows an_View_rows b2v ct_View_rows),sl_View_rows⟩)
 (uM:W.codeIn K b2v "View.rows"=true)(tQ:W.keepIn K (.ref tK)=true)
 (a2S:W.findIn K (.ref dZ) "value_at"=some (some (.ref mU)))(lQ:W.isFn K (.ref mU)=true)
 (lY:K.lookup mU=some ⟨oc_View_value_at,od_View_value_at,.func (W.fnOf "value_at" "View.value_at" (aP lC) (aL lC) (aC lC) .none kV_View_value_at doc_View_value_at pm_View_value_at an_View_value_at b32 ct_View_value_at),sl_View_value_at⟩)
 (mG:W.codeIn K b32 "View.value_at"=true)(nB:W.keepIn K (.ref mU)=true)
 (a74:W.findIn K (.ref dZ) "many"=some (some (.ref iH)))(iZ:W.isFn K (.ref iH)=true)
 (iF:K.lookup iH=some ⟨oc_View_many,od_View_many,.func (W.fnOf "many" "View.many" (aP hV) (aL hV) (aC hV) .none kV_View_many doc_View_many pm_View_many an_View_many b3j ct_View_many),sl_View_many⟩)
 (jE:W.codeIn K b3j "View.many"=true)(jI:W.keepIn K (.ref iH)=true)
 (a0G:W.findIn K (.ref dZ) "look"=some (some (.ref jF)))(jS:W.isFn K (.ref jF)=true)
 (jC:K.lookup jF=some ⟨oc_View_look,od_View_look,.func (W.fnOf "look" "View.look" (aP hW) (aL hW) (aC hW) .none kV_View_look doc_View_look pm_View_look an_View_look b2p ct_View_look),sl_View_look⟩)
 (jK:W.codeIn K b2p "View.look"=true)(iL:W.keepIn K (.ref jF)=true)
 (a2E:W.findIn K (.ref dZ) "asked_row"=some (some (.ref jB)))(iU:W.isFn K (.ref jB)=true)
 (jG:K.lookup jB=some ⟨oc_View_asked_row,od_View_asked_row,.func (W.fnOf "asked_row" "View.asked_row" (aP iE) (aL iE) (aC iE) .none kV_View_asked_row doc_View_asked_row pm_View_asked_row an_View_asked_row b4G ct_View_asked_row),sl_View_asked_row⟩)
 (jD:W.codeIn K b4G "View.asked_row"=true)(iX:W.keepIn K (.ref jB)=true)
 (yM:W.nsIn K mainGlobals "Whole"=some (some (.ref eN)))
 (a1n:W.plainGet K eN Str.empty=true)(a6Q:W.hasDictIn K eN=true)(a4W:W.plainOver K eN=true)(wE:W.findIn K (.ref eN) "__setattr__"=some (some (.builtin "object.__setattr__")))(a1t:W.makesIn K eN=true)(a4m:W.keepIn K (.ref eN)=true)(a5Q:W.findIn K (.ref eN) "__class__"=some (some (.builtin "object.__class__")))
 (a71:W.findIn K (.ref eN) "sheet"=some none)
 (a4s:W.findIn K (.ref eN) "name"=some none)
 (a7Y:W.findIn K (.ref eN) "__init__"=some (some (.ref a4t)))(wX:W.isFn K (.ref a4t)=true)
 (a75:K.lookup a4t=some ⟨oc_Whole_init,od_Whole_init,.func (W.fnOf "__init__" "Whole.__init__" (aP oY) (aL oY) (aC oY) .none kV_Whole_init doc_Whole_init pm_Whole_init an_Whole_init b49 ct_Whole_init),sl_Whole_init⟩)
 (a1F:W.codeIn K b49 "Whole.__init__"=true)(a3p:W.keepIn K (.ref a4t)=true)
 (a4r:W.findIn K (.ref eN) "columns"=some (some (.ref a05)))(a7x:W.isFn K (.ref a05)=true)
 (a3K:K.lookup a05=some ⟨oc_Whole_columns,od_Whole_columns,.func (W.fnOf "columns" "Whole.columns" (aP rD) (aL rD) (aC rD) .none kV_Whole_columns doc_Whole_columns pm_Whole_columns an_Whole_columns b5a ct_Whole_columns),sl_Whole_columns⟩)
 (wP:W.codeIn K b5a "Whole.columns"=true)(a8y:W.keepIn K (.ref a05)=true)
 (a3R:W.findIn K (.ref eN) "rows"=some (some (.ref a8W)))(a0s:W.isFn K (.ref a8W)=true)
 (a3X:K.lookup a8W=some ⟨oc_Whole_rows,od_Whole_rows,.func (W.fnOf "rows" "Whole.rows" (aP sZ) (aL sZ) (aC sZ) .none kV_Whole_rows doc_Whole_rows pm_Whole_rows an_Whole_rows b55 ct_Whole_rows),sl_Whole_rows⟩)
 (a3P:W.codeIn K b55 "Whole.rows"=true)(wO:W.keepIn K (.ref a8W)=true)
 (a4E:W.findIn K (.ref eN) "value_at"=some (some (.ref a6a)))(a2g:W.isFn K (.ref a6a)=true)
 (a9n:K.lookup a6a=some ⟨oc_Whole_value_at,od_Whole_value_at,.func (W.fnOf "value_at" "Whole.value_at" (aP uC) (aL uC) (aC uC) .none kV_Whole_value_at doc_Whole_value_at pm_Whole_value_at an_Whole_value_at b2M ct_Whole_value_at),sl_Whole_value_at⟩)
 (zI:W.codeIn K b2M "Whole.value_at"=true)(a6t:W.keepIn K (.ref a6a)=true)
 (a50:W.findIn K (.ref eN) "many"=some (some (.ref iH)))
 (xA:W.findIn K (.ref eN) "look"=some (some (.ref jF)))
 (a6c:W.findIn K (.ref eN) "asked_row"=some (some (.ref jB)))
 (kH:W.specialIn K (.builtin "object.__class__") "__get__"=some (some (.builtin "getset_descriptor.__get__")))(kA:W.takesIn K (.builtin "object.__class__")=some true)
 (a5Z:W.mroIn K eN (.type "object")=some true)
 (a4P:W.kitOne K (.ref eN) (.ref dZ)=some true)
 (a6u:W.nsIn K mainGlobals "Some"=some (some (.ref eC)))
 (a2Z:W.plainGet K eC Str.empty=true)(a1Z:W.hasDictIn K eC=true)(a6Y:W.plainOver K eC=true)(a1o:W.findIn K (.ref eC) "__setattr__"=some (some (.builtin "object.__setattr__")))(a5M:W.makesIn K eC=true)(a35:W.keepIn K (.ref eC)=true)(a5o:W.findIn K (.ref eC) "__class__"=some (some (.builtin "object.__class__")))
 (a3C:W.findIn K (.ref eC) "view"=some none)
 (wG:W.findIn K (.ref eC) "column"=some none)
 (a8s:W.findIn K (.ref eC) "__init__"=some (some (.ref a6O)))(a0R:W.isFn K (.ref a6O)=true)
 (a8S:K.lookup a6O=some ⟨oc_Some_init,od_Some_init,.func (W.fnOf "__init__" "Some.__init__" (aP qZ) (aL qZ) (aC qZ) .none kV_Some_init doc_Some_init pm_Some_init an_Some_init b1A ct_Some_init),sl_Some_init⟩)
 (a59:W.codeIn K b1A "Some.__init__"=true)(a1X:W.keepIn K (.ref a6O)=true)
 (a3n:W.findIn K (.ref eC) "rows"=some (some (.ref a5f)))(a1d:W.isFn K (.ref a5f)=true)
 (a0b:K.lookup a5f=some ⟨oc_Some_rows,od_Some_rows,.func (W.fnOf "rows" "Some.rows" (aP sD) (aL sD) (aC sD) .none kV_Some_rows doc_Some_rows pm_Some_rows an_Some_rows b4i ct_Some_rows),sl_Some_rows⟩)
 (a2I:W.codeIn K b4i "Some.rows"=true)(a5R:W.keepIn K (.ref a5f)=true)
 (a84:W.findIn K (.ref eC) "has_row"=some (some (.ref zX)))(a2p:W.isFn K (.ref zX)=true)
 (yY:K.lookup zX=some ⟨oc_Some_has_row,od_Some_has_row,.func (W.fnOf "has_row" "Some.has_row" (aP uX) (aL uX) (aC uX) .none kV_Some_has_row doc_Some_has_row pm_Some_has_row an_Some_has_row b4v ct_Some_has_row),sl_Some_has_row⟩)
 (a24:W.codeIn K b4v "Some.has_row"=true)(a4c:W.keepIn K (.ref zX)=true)
 (a1Q:W.findIn K (.ref eC) "columns"=some (some (.ref lW)))
 (a2r:W.findIn K (.ref eC) "value_at"=some (some (.ref mU)))
 (a9f:W.findIn K (.ref eC) "many"=some (some (.ref iH)))
 (a3y:W.findIn K (.ref eC) "look"=some (some (.ref jF)))
 (wZ:W.findIn K (.ref eC) "asked_row"=some (some (.ref jB)))
 (a2C:W.mroIn K eC (.type "object")=some true)
 (a7S:W.kitOne K (.ref eC) (.ref dZ)=some true)
 (a2z:W.nsIn K mainGlobals "Ordered"=some (some (.ref dU)))
 (a43:W.plainGet K dU Str.empty=true)(a5T:W.hasDictIn K dU=true)(a4R:W.plainOver K dU=true)(vL:W.findIn K (.ref dU) "__setattr__"=some (some (.builtin "object.__setattr__")))(a6N:W.makesIn K dU=true)(a6H:W.keepIn K (.ref dU)=true)(yK:W.findIn K (.ref dU) "__class__"=some (some (.builtin "object.__class__")))
 (a5D:W.findIn K (.ref dU) "view"=some none)
 (a38:W.findIn K (.ref dU) "column"=some none)
 (a5K:W.findIn K (.ref dU) "__init__"=some (some (.ref a14)))(a4y:W.isFn K (.ref a14)=true)
 (a53:K.lookup a14=some ⟨oc_Ordered_init,od_Ordered_init,.func (W.fnOf "__init__" "Ordered.__init__" (aP rC) (aL rC) (aC rC) .none kV_Ordered_init doc_Ordered_init pm_Ordered_init an_Ordered_init b2z ct_Ordered_init),sl_Ordered_init⟩)
 (a7D:W.codeIn K b2z "Ordered.__init__"=true)(a9c:W.keepIn K (.ref a14)=true)
 (a2i:W.findIn K (.ref dU) "rows"=some (some (.ref a26)))(xX:W.isFn K (.ref a26)=true)
 (a3S:K.lookup a26=some ⟨oc_Ordered_rows,od_Ordered_rows,.func (W.fnOf "rows" "Ordered.rows" (aP sE) (aL sE) (aC sE) .none kV_Ordered_rows doc_Ordered_rows pm_Ordered_rows an_Ordered_rows b2T ct_Ordered_rows),sl_Ordered_rows⟩)
 (a83:W.codeIn K b2T "Ordered.rows"=true)(a23:W.keepIn K (.ref a26)=true)
 (a8F:W.findIn K (.ref dU) "rank"=some (some (.ref a2V)))(vO:W.isFn K (.ref a2V)=true)
 (a5V:K.lookup a2V=some ⟨oc_Ordered_rank,od_Ordered_rank,.func (W.fnOf "rank" "Ordered.rank" (aP tR) (aL tR) (aC tR) .none kV_Ordered_rank doc_Ordered_rank pm_Ordered_rank an_Ordered_rank b4h ct_Ordered_rank),sl_Ordered_rank⟩)
 (a6K:W.codeIn K b4h "Ordered.rank"=true)(a0Q:W.keepIn K (.ref a2V)=true)
 (wU:W.findIn K (.ref dU) "columns"=some (some (.ref lW)))
 (a4D:W.findIn K (.ref dU) "value_at"=some (some (.ref mU)))
 (a7z:W.findIn K (.ref dU) "many"=some (some (.ref iH)))
 (a5G:W.findIn K (.ref dU) "look"=some (some (.ref jF)))
 (a56:W.findIn K (.ref dU) "asked_row"=some (some (.ref jB)))
 (a2U:W.mroIn K dU (.type "object")=some true)
 (a8M:W.kitOne K (.ref dU) (.ref dZ)=some true)
 (a5Y:W.nsIn K mainGlobals "Cut"=some (some (.ref dY)))
 (yN:W.plainGet K dY Str.empty=true)(wA:W.hasDictIn K dY=true)(yE:W.plainOver K dY=true)(a5I:W.findIn K (.ref dY) "__setattr__"=some (some (.builtin "object.__setattr__")))(a1v:W.makesIn K dY=true)(a2O:W.keepIn K (.ref dY)=true)(a3h:W.findIn K (.ref dY) "__class__"=some (some (.builtin "object.__class__")))
 (a6d:W.findIn K (.ref dY) "view"=some none)
 (a3I:W.findIn K (.ref dY) "start"=some none)
 (a8P:W.findIn K (.ref dY) "count"=some none)
 (a8Z:W.findIn K (.ref dY) "__init__"=some (some (.ref a2s)))(a4X:W.isFn K (.ref a2s)=true)
 (a6z:K.lookup a2s=some ⟨oc_Cut_init,od_Cut_init,.func (W.fnOf "__init__" "Cut.__init__" (aP pU) (aL pU) (aC pU) .none kV_Cut_init doc_Cut_init pm_Cut_init an_Cut_init b5d ct_Cut_init),sl_Cut_init⟩)
 (a6w:W.codeIn K b5d "Cut.__init__"=true)(a2j:W.keepIn K (.ref a2s)=true)
 (a0Z:W.findIn K (.ref dY) "rows"=some (some (.ref a9l)))(a4O:W.isFn K (.ref a9l)=true)
 (a0W:K.lookup a9l=some ⟨oc_Cut_rows,od_Cut_rows,.func (W.fnOf "rows" "Cut.rows" (aP sM) (aL sM) (aC sM) .none kV_Cut_rows doc_Cut_rows pm_Cut_rows an_Cut_rows b3C ct_Cut_rows),sl_Cut_rows⟩)
 (a2o:W.codeIn K b3C "Cut.rows"=true)(a3g:W.keepIn K (.ref a9l)=true)
 (a7B:W.findIn K (.ref dY) "columns"=some (some (.ref lW)))
 (a6E:W.findIn K (.ref dY) "value_at"=some (some (.ref mU)))
 (a6e:W.findIn K (.ref dY) "many"=some (some (.ref iH)))
 (a2k:W.findIn K (.ref dY) "look"=some (some (.ref jF)))
 (a87:W.findIn K (.ref dY) "asked_row"=some (some (.ref jB)))
 (a7F:W.mroIn K dY (.type "object")=some true)
 (a0B:W.kitOne K (.ref dY) (.ref dZ)=some true)
 (a2q:W.nsIn K mainGlobals "Together"=some (some (.ref eE)))
 (a8j:W.plainGet K eE Str.empty=true)(a5x:W.hasDictIn K eE=true)(yQ:W.plainOver K eE=true)(a7I:W.findIn K (.ref eE) "__setattr__"=some (some (.builtin "object.__setattr__")))(a4U:W.makesIn K eE=true)(a3W:W.keepIn K (.ref eE)=true)(a7J:W.findIn K (.ref eE) "__class__"=some (some (.builtin "object.__class__")))
 (a1D:W.findIn K (.ref eE) "one"=some none)
 (a2K:W.findIn K (.ref eE) "other"=some none)
 (vS:W.findIn K (.ref eE) "__init__"=some (some (.ref a5t)))(a0T:W.isFn K (.ref a5t)=true)
 (zT:K.lookup a5t=some ⟨oc_Together_init,od_Together_init,.func (W.fnOf "__init__" "Together.__init__" (aP oK) (aL oK) (aC oK) .none kV_Together_init doc_Together_init pm_Together_init an_Together_init b6r ct_Together_init),sl_Together_init⟩)
 (a4T:W.codeIn K b6r "Together.__init__"=true)(yA:W.keepIn K (.ref a5t)=true)
 (xE:W.findIn K (.ref eE) "columns"=some (some (.ref vZ)))(a5n:W.isFn K (.ref vZ)=true)
 (xI:K.lookup vZ=some ⟨oc_Together_columns,od_Together_columns,.func (W.fnOf "columns" "Together.columns" (aP jX) (aL jX) (aC jX) .none kV_Together_columns doc_Together_columns pm_Together_columns an_Together_columns b1X ct_Together_columns),sl_Together_columns⟩)
 (a8H:W.codeIn K b1X "Together.columns"=true)(a4f:W.keepIn K (.ref vZ)=true)
 (a0J:W.findIn K (.ref eE) "rows"=some (some (.ref a09)))(a0X:W.isFn K (.ref a09)=true)
 (a8n:K.lookup a09=some ⟨oc_Together_rows,od_Together_rows,.func (W.fnOf "rows" "Together.rows" (aP tZ) (aL tZ) (aC tZ) .none kV_Together_rows doc_Together_rows pm_Together_rows an_Together_rows b4Y ct_Together_rows),sl_Together_rows⟩)
 (a9d:W.codeIn K b4Y "Together.rows"=true)(a8x:W.keepIn K (.ref a09)=true)
 (wJ:W.findIn K (.ref eE) "value_at"=some (some (.ref a5p)))(a8w:W.isFn K (.ref a5p)=true)
 (a2w:K.lookup a5p=some ⟨oc_Together_value_at,od_Together_value_at,.func (W.fnOf "value_at" "Together.value_at" (aP tF) (aL tF) (aC tF) .none kV_Together_value_at doc_Together_value_at pm_Together_value_at an_Together_value_at b3E ct_Together_value_at),sl_Together_value_at⟩)
 (a5J:W.codeIn K b3E "Together.value_at"=true)(a5e:W.keepIn K (.ref a5p)=true)
 (a85:W.findIn K (.ref eE) "many"=some (some (.ref iH)))
 (zE:W.findIn K (.ref eE) "look"=some (some (.ref jF)))
 (a4h:W.findIn K (.ref eE) "asked_row"=some (some (.ref jB)))
 (a7u:W.mroIn K eE (.type "object")=some true)
 (a7f:W.kitOne K (.ref eE) (.ref dZ)=some true)
 (a01:W.nsIn K mainGlobals "Beside"=some (some (.ref dF)))
 (zY:W.plainGet K dF Str.empty=true)(a6Z:W.hasDictIn K dF=true)(a77:W.plainOver K dF=true)(a5q:W.findIn K (.ref dF) "__setattr__"=some (some (.builtin "object.__setattr__")))(a5c:W.makesIn K dF=true)(a4d:W.keepIn K (.ref dF)=true)(a7g:W.findIn K (.ref dF) "__class__"=some (some (.builtin "object.__class__")))
 (a8A:W.findIn K (.ref dF) "view"=some none)
 (a1f:W.findIn K (.ref dF) "key"=some none)
 (a0I:W.findIn K (.ref dF) "sheet"=some none)
 (a0y:W.findIn K (.ref dF) "name"=some none)
 (xK:W.findIn K (.ref dF) "theirs"=some none)
 (a3d:W.findIn K (.ref dF) "__init__"=some (some (.ref a88)))(a0w:W.isFn K (.ref a88)=true)
 (yO:K.lookup a88=some ⟨oc_Beside_init,od_Beside_init,.func (W.fnOf "__init__" "Beside.__init__" (aP qJ) (aL qJ) (aC qJ) .none kV_Beside_init doc_Beside_init pm_Beside_init an_Beside_init b1w ct_Beside_init),sl_Beside_init⟩)
 (a7e:W.codeIn K b1w "Beside.__init__"=true)(a8K:W.keepIn K (.ref a88)=true)
 (a2b:W.findIn K (.ref dF) "columns"=some (some (.ref a1E)))(a6A:W.isFn K (.ref a1E)=true)
 (a9a:K.lookup a1E=some ⟨oc_Beside_columns,od_Beside_columns,.func (W.fnOf "columns" "Beside.columns" (aP kE) (aL kE) (aC kE) .none kV_Beside_columns doc_Beside_columns pm_Beside_columns an_Beside_columns b2l ct_Beside_columns),sl_Beside_columns⟩)
 (a5A:W.codeIn K b2l "Beside.columns"=true)(a7P:W.keepIn K (.ref a1E)=true)
 (xD:W.findIn K (.ref dF) "value_at"=some (some (.ref vW)))(a8l:W.isFn K (.ref vW)=true)
 (a4K:K.lookup vW=some ⟨oc_Beside_value_at,od_Beside_value_at,.func (W.fnOf "value_at" "Beside.value_at" (aP uQ) (aL uQ) (aC uQ) .none kV_Beside_value_at doc_Beside_value_at pm_Beside_value_at an_Beside_value_at b5W ct_Beside_value_at),sl_Beside_value_at⟩)
 (a7L:W.codeIn K b5W "Beside.value_at"=true)(yI:W.keepIn K (.ref vW)=true)
 (zN:W.findIn K (.ref dF) "is_theirs"=some (some (.ref xF)))(a1l:W.isFn K (.ref xF)=true)
 (a7w:K.lookup xF=some ⟨oc_Beside_is_theirs,od_Beside_is_theirs,.func (W.fnOf "is_theirs" "Beside.is_theirs" (aP tI) (aL tI) (aC tI) .none kV_Beside_is_theirs doc_Beside_is_theirs pm_Beside_is_theirs an_Beside_is_theirs b3F ct_Beside_is_theirs),sl_Beside_is_theirs⟩)
 (a1p:W.codeIn K b3F "Beside.is_theirs"=true)(a3Q:W.keepIn K (.ref xF)=true)
 (a7K:W.findIn K (.ref dF) "matching"=some (some (.ref a44)))(a0t:W.isFn K (.ref a44)=true)
 (a1G:K.lookup a44=some ⟨oc_Beside_matching,od_Beside_matching,.func (W.fnOf "matching" "Beside.matching" (aP sI) (aL sI) (aC sI) .none kV_Beside_matching doc_Beside_matching pm_Beside_matching an_Beside_matching b2K ct_Beside_matching),sl_Beside_matching⟩)
 (a02:W.codeIn K b2K "Beside.matching"=true)(a3v:W.keepIn K (.ref a44)=true)
 (a0o:W.findIn K (.ref dF) "rows"=some (some (.ref tK)))
 (a2R:W.findIn K (.ref dF) "many"=some (some (.ref iH)))
 (a46:W.findIn K (.ref dF) "look"=some (some (.ref jF)))
 (yZ:W.findIn K (.ref dF) "asked_row"=some (some (.ref jB)))
 (a69:W.mroIn K dF (.type "object")=some true)
 (a9j:W.kitOne K (.ref dF) (.ref dZ)=some true)
 (vQ:W.nsIn K mainGlobals "Board"=some (some (.ref eQ)))
 (a2d:W.plainGet K eQ Str.empty=true)(a7V:W.hasDictIn K eQ=true)(a7m:W.plainOver K eQ=true)(a8d:W.findIn K (.ref eQ) "__setattr__"=some (some (.builtin "object.__setattr__")))(a5L:W.makesIn K eQ=true)(a1B:W.keepIn K (.ref eQ)=true)(a6h:W.findIn K (.ref eQ) "__class__"=some (some (.builtin "object.__class__")))
 (a0u:W.findIn K (.ref eQ) "given"=some none)
 (a54:W.findIn K (.ref eQ) "rules"=some none)
 (a4j:W.findIn K (.ref eQ) "memory"=some none)
 (a19:W.findIn K (.ref eQ) "order"=some none)
 (a6J:W.findIn K (.ref eQ) "__init__"=some (some (.ref a7T)))(a4Y:W.isFn K (.ref a7T)=true)
 (vR:K.lookup a7T=some ⟨oc_Board_init,od_Board_init,.func (W.fnOf "__init__" "Board.__init__" (aP pF) (aL pF) (aC pF) .none kV_Board_init doc_Board_init pm_Board_init an_Board_init b23 ct_Board_init),sl_Board_init⟩)
 (a7Z:W.codeIn K b23 "Board.__init__"=true)(pP:W.keepIn K (.ref a7T)=true)
 (a8f:W.findIn K (.ref eQ) "has_column"=some (some (.ref a48)))(a6G:W.isFn K (.ref a48)=true)
 (a8g:K.lookup a48=some ⟨oc_Board_has_column,od_Board_has_column,.func (W.fnOf "has_column" "Board.has_column" (aP oO) (aL oO) (aC oO) .none kV_Board_has_column doc_Board_has_column pm_Board_has_column an_Board_has_column b2W ct_Board_has_column),sl_Board_has_column⟩)
 (a1k:W.codeIn K b2W "Board.has_column"=true)(pM:W.keepIn K (.ref a48)=true)
 (a1i:W.findIn K (.ref eQ) "content"=some (some (.ref a49)))(a57:W.isFn K (.ref a49)=true)
 (a0a:K.lookup a49=some ⟨oc_Board_content,od_Board_content,.func (W.fnOf "content" "Board.content" (aP oA) (aL oA) (aC oA) .none kV_Board_content doc_Board_content pm_Board_content an_Board_content b1z ct_Board_content),sl_Board_content⟩)
 (a1r:W.codeIn K b1z "Board.content"=true)(qK:W.keepIn K (.ref a49)=true)
 (a5X:W.findIn K (.ref eQ) "set_column"=some (some (.ref a8R)))(xZ:W.isFn K (.ref a8R)=true)
 (xP:K.lookup a8R=some ⟨oc_Board_set_column,od_Board_set_column,.func (W.fnOf "set_column" "Board.set_column" (aP oE) (aL oE) (aC oE) .none kV_Board_set_column doc_Board_set_column pm_Board_set_column an_Board_set_column b2w ct_Board_set_column),sl_Board_set_column⟩)
 (a5r:W.codeIn K b2w "Board.set_column"=true)(a6D:W.keepIn K (.ref a8R)=true)
 (zW:W.findIn K (.ref eQ) "empty_column"=some (some (.ref a6p)))(yV:W.isFn K (.ref a6p)=true)
 (a3O:K.lookup a6p=some ⟨oc_Board_empty_column,od_Board_empty_column,.func (W.fnOf "empty_column" "Board.empty_column" (aP nH) (aL nH) (aC nH) .none kV_Board_empty_column doc_Board_empty_column pm_Board_empty_column an_Board_empty_column b10 ct_Board_empty_column),sl_Board_empty_column⟩)
 (a04:W.codeIn K b10 "Board.empty_column"=true)(qL:W.keepIn K (.ref a6p)=true)
 (a8V:W.findIn K (.ref eQ) "outcome"=some (some (.ref a1N)))(a10:W.isFn K (.ref a1N)=true)
 (zJ:K.lookup a1N=some ⟨oc_Board_outcome,od_Board_outcome,.func (W.fnOf "outcome" "Board.outcome" (aP uA) (aL uA) (aC uA) .none kV_Board_outcome doc_Board_outcome pm_Board_outcome an_Board_outcome b4O ct_Board_outcome),sl_Board_outcome⟩)
 (a1q:W.codeIn K b4O "Board.outcome"=true)(a5a:W.keepIn K (.ref a1N)=true)
 (a5g:W.nsIn K mainGlobals "TableTold"=some (some (.ref gJ)))
 (a0v:W.plainGet K gJ Str.empty=true)(zF:W.hasDictIn K gJ=true)(a8Y:W.plainOver K gJ=true)(a8u:W.findIn K (.ref gJ) "__setattr__"=some (some (.builtin "object.__setattr__")))(a2t:W.makesIn K gJ=true)(a0c:W.keepIn K (.ref gJ)=true)(zK:W.findIn K (.ref gJ) "__class__"=some (some (.builtin "object.__class__")))
 (zS:W.findIn K (.ref gJ) "boards"=some none)
 (a22:W.findIn K (.ref gJ) "name"=some none)
 (xM:W.findIn K (.ref gJ) "size"=some none)
 (a28:W.findIn K (.ref gJ) "__init__"=some (some (.ref a16)))(a7y:W.isFn K (.ref a16)=true)
 (a2x:K.lookup a16=some ⟨oc_TableTold_init,od_TableTold_init,.func (W.fnOf "__init__" "TableTold.__init__" (aP nU) (aL nU) (aC nU) .none kV_TableTold_init doc_TableTold_init pm_TableTold_init an_TableTold_init b4P ct_TableTold_init),sl_TableTold_init⟩)
 (yU:W.codeIn K b4P "TableTold.__init__"=true)(rL:W.keepIn K (.ref a16)=true)
 (a8G:W.findIn K (.ref gJ) "take"=some (some (.ref a06)))(a8c:W.isFn K (.ref a06)=true)
 (a40:K.lookup a06=some ⟨oc_TableTold_take,od_TableTold_take,.func (W.fnOf "take" "TableTold.take" (aP rE) (aL rE) (aC rE) .none kV_TableTold_take doc_TableTold_take pm_TableTold_take an_TableTold_take b3B ct_TableTold_take),sl_TableTold_take⟩)
 (a15:W.codeIn K b3B "TableTold.take"=true)(rN:W.keepIn K (.ref a06)=true)
 (wK:W.nsIn K mainGlobals "ColumnSet"=some (some (.ref fV)))
 (a7d:W.plainGet K fV Str.empty=true)(a2l:W.hasDictIn K fV=true)(a5s:W.plainOver K fV=true)(a0q:W.findIn K (.ref fV) "__setattr__"=some (some (.builtin "object.__setattr__")))(a6B:W.makesIn K fV=true)(a8t:W.keepIn K (.ref fV)=true)(a52:W.findIn K (.ref fV) "__class__"=some (some (.builtin "object.__class__")))
 (a8D:W.findIn K (.ref fV) "board"=some none)
 (vM:W.findIn K (.ref fV) "column"=some none)
 (a7b:W.findIn K (.ref fV) "after"=some none)
 (a0g:W.findIn K (.ref fV) "before"=some none)
 (a7N:W.findIn K (.ref fV) "__init__"=some (some (.ref a3b)))(xQ:W.isFn K (.ref a3b)=true)
 (a78:K.lookup a3b=some ⟨oc_ColumnSet_init,od_ColumnSet_init,.func (W.fnOf "__init__" "ColumnSet.__init__" (aP nZ) (aL nZ) (aC nZ) .none kV_ColumnSet_init doc_ColumnSet_init pm_ColumnSet_init an_ColumnSet_init b4e ct_ColumnSet_init),sl_ColumnSet_init⟩)
 (a1T:W.codeIn K b4e "ColumnSet.__init__"=true)(qT:W.keepIn K (.ref a3b)=true)
 (a6V:W.findIn K (.ref fV) "take"=some (some (.ref a3m)))(a7l:W.isFn K (.ref a3m)=true)
 (vK:K.lookup a3m=some ⟨oc_ColumnSet_take,od_ColumnSet_take,.func (W.fnOf "take" "ColumnSet.take" (aP qW) (aL qW) (aC qW) .none kV_ColumnSet_take doc_ColumnSet_take pm_ColumnSet_take an_ColumnSet_take b4M ct_ColumnSet_take),sl_ColumnSet_take⟩)
 (wL:W.codeIn K b4M "ColumnSet.take"=true)(pC:W.keepIn K (.ref a3m)=true)
 (a0K:W.nsIn K mainGlobals "Trial"=some (some (.ref gG)))
 (a2X:W.plainGet K gG Str.empty=true)(a3V:W.hasDictIn K gG=true)(xO:W.plainOver K gG=true)(a7O:W.findIn K (.ref gG) "__setattr__"=some (some (.builtin "object.__setattr__")))(a6j:W.makesIn K gG=true)(a3H:W.keepIn K (.ref gG)=true)(a27:W.findIn K (.ref gG) "__class__"=some (some (.builtin "object.__class__")))
 (a4o:W.findIn K (.ref gG) "finder"=some none)
 (wB:W.findIn K (.ref gG) "looked"=some none)
 (a8O:W.findIn K (.ref gG) "lacking"=some none)
 (a6C:W.findIn K (.ref gG) "__init__"=some (some (.ref a1P)))(a60:W.isFn K (.ref a1P)=true)
 (yF:K.lookup a1P=some ⟨oc_Trial_init,od_Trial_init,.func (W.fnOf "__init__" "Trial.__init__" (aP uY) (aL uY) (aC uY) .none kV_Trial_init doc_Trial_init pm_Trial_init an_Trial_init b4I ct_Trial_init),sl_Trial_init⟩)
 (vT:W.codeIn K b4I "Trial.__init__"=true)(a9g:W.keepIn K (.ref a1P)=true)
 (a9m:W.findIn K (.ref gG) "look"=some (some (.ref a7W)))(a4M:W.isFn K (.ref a7W)=true)
 (a2f:K.lookup a7W=some ⟨oc_Trial_look,od_Trial_look,.func (W.fnOf "look" "Trial.look" (aP vH) (aL vH) (aC vH) .none kV_Trial_look doc_Trial_look pm_Trial_look an_Trial_look b6k ct_Trial_look),sl_Trial_look⟩)
 (a3U:W.codeIn K b6k "Trial.look"=true)(a6n:W.keepIn K (.ref a7W)=true)
 (a7X:W.nsIn K mainGlobals "Finder"=some (some (.ref eW)))
 (a39:W.plainGet K eW Str.empty=true)(a8o:W.hasDictIn K eW=true)(zO:W.plainOver K eW=true)(a4e:W.findIn K (.ref eW) "__setattr__"=some (some (.builtin "object.__setattr__")))(a3A:W.makesIn K eW=true)(a1z:W.keepIn K (.ref eW)=true)(a5H:W.findIn K (.ref eW) "__class__"=some (some (.builtin "object.__class__")))
 (a3j:W.findIn K (.ref eW) "boards"=some none)
 (a8z:W.findIn K (.ref eW) "found"=some none)
 (a5l:W.findIn K (.ref eW) "looked"=some none)
 (a0U:W.findIn K (.ref eW) "__init__"=some (some (.ref wT)))(a6g:W.isFn K (.ref wT)=true)
 (a2W:K.lookup wT=some ⟨oc_Finder_init,od_Finder_init,.func (W.fnOf "__init__" "Finder.__init__" (aP qH) (aL qH) (aC qH) .none kV_Finder_init doc_Finder_init pm_Finder_init an_Finder_init b2a ct_Finder_init),sl_Finder_init⟩)
 (a8h:W.codeIn K b2a "Finder.__init__"=true)(mE:W.keepIn K (.ref wT)=true)
 (a1M:W.findIn K (.ref eW) "value_of"=some (some (.ref a0f)))(a31:W.isFn K (.ref a0f)=true)
 (a2P:K.lookup a0f=some ⟨oc_Finder_value_of,od_Finder_value_of,.func (W.fnOf "value_of" "Finder.value_of" (aP vD) (aL vD) (aC vD) .none kV_Finder_value_of doc_Finder_value_of pm_Finder_value_of an_Finder_value_of b1v ct_Finder_value_of),sl_Finder_value_of⟩)
 (a1J:W.codeIn K b1v "Finder.value_of"=true)(vN:W.keepIn K (.ref a0f)=true)
 (a0H:W.findIn K (.ref eW) "attempt"=some (some (.ref a3q)))(a2u:W.isFn K (.ref a3q)=true)
 (a65:K.lookup a3q=some ⟨oc_Finder_attempt,od_Finder_attempt,.func (W.fnOf "attempt" "Finder.attempt" (aP tS) (aL tS) (aC tS) .none kV_Finder_attempt doc_Finder_attempt pm_Finder_attempt an_Finder_attempt b3D ct_Finder_attempt),sl_Finder_attempt⟩)
 (a58:W.codeIn K b3D "Finder.attempt"=true)(a41:W.keepIn K (.ref a3q)=true)
 (a6f:W.findIn K (.ref eW) "gathered"=some (some (.ref a2h)))(a2M:W.isFn K (.ref a2h)=true)
 (a6v:K.lookup a2h=some ⟨oc_Finder_gathered,od_Finder_gathered,.func (W.fnOf "gathered" "Finder.gathered" (aP uH) (aL uH) (aC uH) .none kV_Finder_gathered doc_Finder_gathered pm_Finder_gathered an_Finder_gathered b6g ct_Finder_gathered),sl_Finder_gathered⟩)
 (a0Y:W.codeIn K b6g "Finder.gathered"=true)(a2e:W.keepIn K (.ref a2h)=true)
 (a2G:W.findIn K (.ref eW) "settle"=some (some (.ref a5B)))(a8v:W.isFn K (.ref a5B)=true)
 (a4V:K.lookup a5B=some ⟨oc_Finder_settle,od_Finder_settle,.func (W.fnOf "settle" "Finder.settle" (aP uW) (aL uW) (aC uW) .none kV_Finder_settle doc_Finder_settle pm_Finder_settle an_Finder_settle b33 ct_Finder_settle),sl_Finder_settle⟩)
 (a2B:W.codeIn K b33 "Finder.settle"=true)(a1S:W.keepIn K (.ref a5B)=true)
 (a9b:W.findIn K (.ref eW) "knows"=some (some (.ref a2m)))(a4b:W.isFn K (.ref a2m)=true)
 (a4G:K.lookup a2m=some ⟨oc_Finder_knows,od_Finder_knows,.func (W.fnOf "knows" "Finder.knows" (aP sB) (aL sB) (aC sB) .none kV_Finder_knows doc_Finder_knows pm_Finder_knows an_Finder_knows b4w ct_Finder_knows),sl_Finder_knows⟩)
 (a21:W.codeIn K b4w "Finder.knows"=true)(a8T:W.keepIn K (.ref a2m)=true)
 (xB:W.nsIn K mainGlobals "Sheet"=some (some (.ref dD)))
 (a1y:W.plainGet K dD Str.empty=true)(a1h:W.hasDictIn K dD=true)(a0C:W.plainOver K dD=true)(a17:W.findIn K (.ref dD) "__setattr__"=some (some (.builtin "object.__setattr__")))(a6P:W.makesIn K dD=true)(a86:W.keepIn K (.ref dD)=true)(a8U:W.findIn K (.ref dD) "__class__"=some (some (.builtin "object.__class__")))
 (a1j:W.findIn K (.ref dD) "boards"=some none)
 (a6W:W.findIn K (.ref dD) "changes"=some none)
 (a7c:W.findIn K (.ref dD) "finder"=some none)
 (wI:W.findIn K (.ref dD) "__init__"=some (some (.ref a0h)))(a5P:W.isFn K (.ref a0h)=true)
 (a00:K.lookup a0h=some ⟨oc_Sheet_init,od_Sheet_init,.func (W.fnOf "__init__" "Sheet.__init__" (aP nY) (aL nY) (aC nY) .none kV_Sheet_init doc_Sheet_init pm_Sheet_init an_Sheet_init b1S ct_Sheet_init),sl_Sheet_init⟩)
 (zH:W.codeIn K b1S "Sheet.__init__"=true)(oF:W.keepIn K (.ref a0h)=true)
 (a2A:W.findIn K (.ref dD) "table"=some (some (.ref a0M)))(a3t:W.isFn K (.ref a0M)=true)
 (a4k:K.lookup a0M=some ⟨oc_Sheet_table,od_Sheet_table,.func (W.fnOf "table" "Sheet.table" (aP qN) (aL qN) (aC qN) .none kV_Sheet_table doc_Sheet_table pm_Sheet_table an_Sheet_table b5f ct_Sheet_table),sl_Sheet_table⟩)
 (a7s:W.codeIn K b5f "Sheet.table"=true)(nW:W.keepIn K (.ref a0M)=true)
 (a6F:W.findIn K (.ref dD) "give"=some (some (.ref a8i)))(a1A:W.isFn K (.ref a8i)=true)
 (a34:K.lookup a8i=some ⟨oc_Sheet_give,od_Sheet_give,.func (W.fnOf "give" "Sheet.give" (aP qC) (aL qC) (aC qC) .none kV_Sheet_give doc_Sheet_give pm_Sheet_give an_Sheet_give b5E ct_Sheet_give),sl_Sheet_give⟩)
 (a7k:W.codeIn K b5E "Sheet.give"=true)(qV:W.keepIn K (.ref a8i)=true)
 (zR:W.findIn K (.ref dD) "tables"=some (some (.ref a0m)))(a0i:W.isFn K (.ref a0m)=true)
 (a0S:K.lookup a0m=some ⟨oc_Sheet_tables,od_Sheet_tables,.func (W.fnOf "tables" "Sheet.tables" (aP sH) (aL sH) (aC sH) .none kV_Sheet_tables doc_Sheet_tables pm_Sheet_tables an_Sheet_tables b1D ct_Sheet_tables),sl_Sheet_tables⟩)
 (a0j:W.codeIn K b1D "Sheet.tables"=true)(a8I:W.keepIn K (.ref a0m)=true)
 (a3l:W.findIn K (.ref dD) "columns"=some (some (.ref a6k)))(a0P:W.isFn K (.ref a6k)=true)
 (yS:K.lookup a6k=some ⟨oc_Sheet_columns,od_Sheet_columns,.func (W.fnOf "columns" "Sheet.columns" (aP oU) (aL oU) (aC oU) .none kV_Sheet_columns doc_Sheet_columns pm_Sheet_columns an_Sheet_columns b4b ct_Sheet_columns),sl_Sheet_columns⟩)
 (yW:W.codeIn K b4b "Sheet.columns"=true)(mY:W.keepIn K (.ref a6k)=true)
 (a0e:W.findIn K (.ref dD) "many"=some (some (.ref a6L)))(a07:W.isFn K (.ref a6L)=true)
 (a6m:K.lookup a6L=some ⟨oc_Sheet_many,od_Sheet_many,.func (W.fnOf "many" "Sheet.many" (aP pB) (aL pB) (aC pB) .none kV_Sheet_many doc_Sheet_many pm_Sheet_many an_Sheet_many b5P ct_Sheet_many),sl_Sheet_many⟩)
 (a4p:W.codeIn K b5P "Sheet.many"=true)(a68:W.keepIn K (.ref a6L)=true)
 (a8a:W.findIn K (.ref dD) "cell"=some (some (.ref a2F)))(a3o:W.isFn K (.ref a2F)=true)
 (a4n:K.lookup a2F=some ⟨oc_Sheet_cell,od_Sheet_cell,.func (W.fnOf "cell" "Sheet.cell" (aP sU) (aL sU) (aC sU) .none kV_Sheet_cell doc_Sheet_cell pm_Sheet_cell an_Sheet_cell b4x ct_Sheet_cell),sl_Sheet_cell⟩)
 (a6T:W.codeIn K b4x "Sheet.cell"=true)(a1C:W.keepIn K (.ref a2F)=true)
 (a6i:W.findIn K (.ref dD) "stretch"=some (some (.ref a5v)))(a4x:W.isFn K (.ref a5v)=true)
 (a6l:K.lookup a5v=some ⟨oc_Sheet_stretch,od_Sheet_stretch,.func (W.fnOf "stretch" "Sheet.stretch" (aP sV) (aL sV) (aC sV) .none kV_Sheet_stretch doc_Sheet_stretch pm_Sheet_stretch an_Sheet_stretch b6i ct_Sheet_stretch),sl_Sheet_stretch⟩)
 (a7R:W.codeIn K b6i "Sheet.stretch"=true)(a7E:W.keepIn K (.ref a5v)=true)
 (a9h:W.findIn K (.ref dD) "make"=some (some (.ref a55)))(zQ:W.isFn K (.ref a55)=true)
 (a0V:K.lookup a55=some ⟨oc_Sheet_make,od_Sheet_make,.func (W.fnOf "make" "Sheet.make" (aP pY) (aL pY) (aC pY) .none kV_Sheet_make doc_Sheet_make pm_Sheet_make an_Sheet_make b4u ct_Sheet_make),sl_Sheet_make⟩)
 (a8L:W.codeIn K b4u "Sheet.make"=true)(mW:W.keepIn K (.ref a55)=true)
 (a1e:W.findIn K (.ref dD) "board_of"=some (some (.ref wW)))(yR:W.isFn K (.ref wW)=true)
 (yX:K.lookup wW=some ⟨oc_Sheet_board_of,od_Sheet_board_of,.func (W.fnOf "board_of" "Sheet.board_of" (aP pL) (aL pL) (aC pL) .none kV_Sheet_board_of doc_Sheet_board_of pm_Sheet_board_of an_Sheet_board_of b28 ct_Sheet_board_of),sl_Sheet_board_of⟩)
 (a76:W.codeIn K b28 "Sheet.board_of"=true)(kQ:W.keepIn K (.ref wW)=true)
 (zP:W.findIn K (.ref dD) "board_with"=some (some (.ref yB)))(a3k:W.isFn K (.ref yB)=true)
 (a1L:K.lookup yB=some ⟨oc_Sheet_board_with,od_Sheet_board_with,.func (W.fnOf "board_with" "Sheet.board_with" (aP oB) (aL oB) (aC oB) .none kV_Sheet_board_with doc_Sheet_board_with pm_Sheet_board_with an_Sheet_board_with b3w ct_Sheet_board_with),sl_Sheet_board_with⟩)
 (a3N:W.codeIn K b3w "Sheet.board_with"=true)(tY:W.keepIn K (.ref yB)=true)
 (a6I:W.findIn K (.ref dD) "board_for"=some (some (.ref a82)))(a5y:W.isFn K (.ref a82)=true)
 (a5k:K.lookup a82=some ⟨oc_Sheet_board_for,od_Sheet_board_for,.func (W.fnOf "board_for" "Sheet.board_for" (aP rX) (aL rX) (aC rX) .none kV_Sheet_board_for doc_Sheet_board_for pm_Sheet_board_for an_Sheet_board_for b1x ct_Sheet_board_for),sl_Sheet_board_for⟩)
 (a6q:W.codeIn K b1x "Sheet.board_for"=true)(nP:W.keepIn K (.ref a82)=true)
 (zA:W.findIn K (.ref dD) "check_cell"=some (some (.ref xL)))(a5W:W.isFn K (.ref xL)=true)
 (a8N:K.lookup xL=some ⟨oc_Sheet_check_cell,od_Sheet_check_cell,.func (W.fnOf "check_cell" "Sheet.check_cell" (aP uO) (aL uO) (aC uO) .none kV_Sheet_check_cell doc_Sheet_check_cell pm_Sheet_check_cell an_Sheet_check_cell b5t ct_Sheet_check_cell),sl_Sheet_check_cell⟩)
 (a3D:W.codeIn K b5t "Sheet.check_cell"=true)(zU:W.keepIn K (.ref xL)=true):bD K mg where
 len:=W.mg_none_of X G a0d
 isinstance:=W.mg_none_of X G a33
 int:=W.mg_none_of X G zD
 bool:=W.mg_none_of X G a3L
 str:=W.mg_none_of X G a5z
 all:=W.mg_none_of X G a2y
 range:=W.mg_none_of X G a7Q
 abs:=W.mg_none_of X G a5S
 list:=W.mg_none_of X G a8B
 tuple:=W.mg_none_of X G wV
 sorted:=W.mg_none_of X G a8C
 enumerate:=W.mg_none_of X G a1I
 set:=W.mg_none_of X G a1V
 ValueError:=W.mg_none_of X G a2c
 g_LETTERS:=⟨_,W.mg_of X G a1a⟩
 g_MOST_LETTERS:=⟨_,W.mg_of X G a3w⟩
 g_LACKS:=⟨b0n,W.mg_of X G a7i,fun H=> .inr ⟨_,_,_,xY,rfl,rfl,sl (by simp),.cons ⟨_,rfl⟩ (.cons ⟨_,rfl⟩ (.nil))⟩⟩
 g_MOST_ROWS:=⟨_,W.mg_of X G zV⟩
 g_MOST_COLUMNS:=⟨_,W.mg_of X G a2N⟩
 g_MOST_TABLES:=⟨_,W.mg_of X G a1u⟩
 g_UNKNOWN:=⟨b1i,W.mg_of X G a8q,fun H=> .inr ⟨_,_,_,a2n,rfl,rfl,sl (by simp),.cons ⟨_,rfl⟩ (.cons ⟨_,rfl⟩ (.nil))⟩⟩
 d_is_whole:=eU X G yT a4C a3u jY
 d_is_number:=eU X G a3a a1W a3Y qY
 d_is_name:=eU X G a30 a7r a0O gL
 d_is_fault:=eU X G a8e a7a a12 qX
 d_is_value:=eU X G a6S a0E xV nJ
 d_check_size:=eU X G zL a45 a0n mJ
 d_check_place:=eU X G a4J a6y a47 lS
 d_check_values:=eU X G zC vX a7U mQ
 d_check_column:=eU X G a72 a2T a6o xG
 d_check_count:=eU X G a5m a4g a0A a9k
 d_behind_point:=eU X G a6M a0L a8k a3x
 d_law_whole:=eU X G a62 a73 a1m rQ
 d_law_kinds:=eU X G a3Z a0l a3s rO
 d_law_made:=eU X G a20 wR a4H oI
 d_law_due:=eU X G a5i a6s a0N nK
 d_law_columns:=eU X G a8J a80 a7q oJ
 d_law:=eU X G yH a29 vJ a4B
 exc:=⟨⟨jO,cG,pI,cH,cJ,cM,rR,oC,pA,oR,pZ,oV,qF,oW,rF⟩,{c_ColsError:=W.mg_of X G a4v,c_NoName:=W.mg_of X G a5u,c_NoValue:=W.mg_of X G wN,c_NoTable:=W.mg_of X G a4Q,c_NoColumn:=W.mg_of X G a08,c_NoPlace:=W.mg_of X G a3z,c_NoSize:=W.mg_of X G yJ,c_NoText:=W.mg_of X G a6r,c_NoRow:=W.mg_of X G a8X,c_NoBack:=W.mg_of X G zM,c_TooMuch:=W.mg_of X G a5C,c_Ruled:=W.mg_of X G a9e,c_Ring:=W.mg_of X G yC,c_Nobody:=W.mg_of X G a3T,c_Several:=W.mg_of X G a1b,x_NoTable:=x_NoTable,v_NoTable:=v_NoTable,k_NoTable:=⟨a1Y,a89,⟨_,a1R⟩,a3J,w4,w5,a13,a1O⟩,i_NoTable_ColsError:=i_NoTable_ColsError,e_NoTable_ColsError:=e_NoTable_ColsError,i_NoTable_NoName:=i_NoTable_NoName,i_NoTable_NoValue:=i_NoTable_NoValue,i_NoTable_NoTable:=i_NoTable_NoTable,i_NoTable_NoColumn:=i_NoTable_NoColumn,i_NoTable_NoPlace:=i_NoTable_NoPlace,i_NoTable_NoSize:=i_NoTable_NoSize,i_NoTable_NoText:=i_NoTable_NoText,i_NoTable_NoRow:=i_NoTable_NoRow,i_NoTable_NoBack:=i_NoTable_NoBack,i_NoTable_TooMuch:=i_NoTable_TooMuch,i_NoTable_Ruled:=i_NoTable_Ruled,i_NoTable_Ring:=i_NoTable_Ring,i_NoTable_Nobody:=i_NoTable_Nobody,i_NoTable_Several:=i_NoTable_Several,x_NoColumn:=x_NoColumn,v_NoColumn:=v_NoColumn,k_NoColumn:=⟨wS,a5j,⟨_,wD⟩,a0z,w4,w5,a2a,a4Z⟩,i_NoColumn_ColsError:=i_NoColumn_ColsError,e_NoColumn_ColsError:=e_NoColumn_ColsError,i_NoColumn_NoName:=i_NoColumn_NoName,i_NoColumn_NoValue:=i_NoColumn_NoValue,i_NoColumn_NoTable:=i_NoColumn_NoTable,i_NoColumn_NoColumn:=i_NoColumn_NoColumn,i_NoColumn_NoPlace:=i_NoColumn_NoPlace,i_NoColumn_NoSize:=i_NoColumn_NoSize,i_NoColumn_NoText:=i_NoColumn_NoText,i_NoColumn_NoRow:=i_NoColumn_NoRow,i_NoColumn_NoBack:=i_NoColumn_NoBack,i_NoColumn_TooMuch:=i_NoColumn_TooMuch,i_NoColumn_Ruled:=i_NoColumn_Ruled,i_NoColumn_Ring:=i_NoColumn_Ring,i_NoColumn_Nobody:=i_NoColumn_Nobody,i_NoColumn_Several:=i_NoColumn_Several,x_NoPlace:=x_NoPlace,v_NoPlace:=v_NoPlace,k_NoPlace:=⟨zB,a32,⟨_,a3i⟩,wF,w4,w5,a4i,a0D⟩,i_NoPlace_ColsError:=i_NoPlace_ColsError,e_NoPlace_ColsError:=e_NoPlace_ColsError,i_NoPlace_NoName:=i_NoPlace_NoName,i_NoPlace_NoValue:=i_NoPlace_NoValue,i_NoPlace_NoTable:=i_NoPlace_NoTable,i_NoPlace_NoColumn:=i_NoPlace_NoColumn,i_NoPlace_NoPlace:=i_NoPlace_NoPlace,i_NoPlace_NoSize:=i_NoPlace_NoSize,i_NoPlace_NoText:=i_NoPlace_NoText,i_NoPlace_NoRow:=i_NoPlace_NoRow,i_NoPlace_NoBack:=i_NoPlace_NoBack,i_NoPlace_TooMuch:=i_NoPlace_TooMuch,i_NoPlace_Ruled:=i_NoPlace_Ruled,i_NoPlace_Ring:=i_NoPlace_Ring,i_NoPlace_Nobody:=i_NoPlace_Nobody,i_NoPlace_Several:=i_NoPlace_Several,x_NoName:=x_NoName,v_NoName:=v_NoName,k_NoName:=⟨wH,a0r,⟨_,wQ⟩,a0F,w4,w5,a3B,xR⟩,i_NoName_ColsError:=i_NoName_ColsError,e_NoName_ColsError:=e_NoName_ColsError,i_NoName_NoName:=i_NoName_NoName,i_NoName_NoValue:=i_NoName_NoValue,i_NoName_NoTable:=i_NoName_NoTable,i_NoName_NoColumn:=i_NoName_NoColumn,i_NoName_NoPlace:=i_NoName_NoPlace,i_NoName_NoSize:=i_NoName_NoSize,i_NoName_NoText:=i_NoName_NoText,i_NoName_NoRow:=i_NoName_NoRow,i_NoName_NoBack:=i_NoName_NoBack,i_NoName_TooMuch:=i_NoName_TooMuch,i_NoName_Ruled:=i_NoName_Ruled,i_NoName_Ring:=i_NoName_Ring,i_NoName_Nobody:=i_NoName_Nobody,i_NoName_Several:=i_NoName_Several}⟩
 t_Table:=⟨eJ,{c:=W.mg_of X G a1w,cl:=⟨a6R,a1g,a7o,a7j⟩,mks:=a4A,kc:=a7G,hc:=a51,n_row_numbers:=a0x,n_fresh_number:=a7C,n_kept:=a18,m_init:=aQ a5d a5F a1x a6X qD,m_many:=aQ a7v a70 a1K a7h jN,m_columns:=aQ a3f a1s vY a2J zZ,m_give:=aQ wM xW vV a2Q oX,m_drop:=aQ a4F a3F a63 a8p a8E,m_at:=aQ a0k a64 a1U yD tL,m_number_at:=aQ a5E a79 a4I wC uL,m_check_column:=aQ a7n a4l vP a3r pJ}⟩
 t_View:=⟨dZ,{c:=W.mg_of X G jA,cl:=⟨a25,yP,a4L,a7M⟩,mks:=a11,kc:=a1H,hc:=a4q,m_columns:=aQ a9i mF mP lV nC,m_rows:=aQ a8Q tD vA uM tQ,m_value_at:=aQ a2S lQ lY mG nB,m_many:=aQ a74 iZ iF jE jI,m_look:=aQ a0G jS jC jK iL,m_asked_row:=aQ a2E iU jG jD iX}⟩
 t_Whole:=⟨eN,{c:=W.mg_of X G yM,cl:=⟨a1n,a6Q,a4W,wE⟩,mks:=a1t,kc:=a4m,hc:=a5Q,n_sheet:=a71,n_name:=a4s,m_init:=aQ a7Y wX a75 a1F a3p,m_columns:=aQ a4r a7x a3K wP a8y,m_rows:=aQ a3R a0s a3X a3P wO,m_value_at:=aQ a4E a2g a9n zI a6t,m_many:=aQ a50 iZ iF jE jI,m_look:=aQ xA jS jC jK iL,m_asked_row:=aQ a6c iU jG jD iX,up_View:=⟨_,W.mg_of X G jA,a4P,a5Z,kH,kA⟩}⟩
 t_Some:=⟨eC,{c:=W.mg_of X G a6u,cl:=⟨a2Z,a1Z,a6Y,a1o⟩,mks:=a5M,kc:=a35,hc:=a5o,n_view:=a3C,n_column:=wG,m_init:=aQ a8s a0R a8S a59 a1X,m_rows:=aQ a3n a1d a0b a2I a5R,m_has_row:=aQ a84 a2p yY a24 a4c,m_columns:=aQ a1Q mF mP lV nC,m_value_at:=aQ a2r lQ lY mG nB,m_many:=aQ a9f iZ iF jE jI,m_look:=aQ a3y jS jC jK iL,m_asked_row:=aQ wZ iU jG jD iX,up_View:=⟨_,W.mg_of X G jA,a7S,a2C,kH,kA⟩}⟩
 t_Ordered:=⟨dU,{c:=W.mg_of X G a2z,cl:=⟨a43,a5T,a4R,vL⟩,mks:=a6N,kc:=a6H,hc:=yK,n_view:=a5D,n_column:=a38,m_init:=aQ a5K a4y a53 a7D a9c,m_rows:=aQ a2i xX a3S a83 a23,m_rank:=aQ a8F vO a5V a6K a0Q,m_columns:=aQ wU mF mP lV nC,m_value_at:=aQ a4D lQ lY mG nB,m_many:=aQ a7z iZ iF jE jI,m_look:=aQ a5G jS jC jK iL,m_asked_row:=aQ a56 iU jG jD iX,up_View:=⟨_,W.mg_of X G jA,a8M,a2U,kH,kA⟩}⟩
 t_Cut:=⟨dY,{c:=W.mg_of X G a5Y,cl:=⟨yN,wA,yE,a5I⟩,mks:=a1v,kc:=a2O,hc:=a3h,n_view:=a6d,n_start:=a3I,n_count:=a8P,m_init:=aQ a8Z a4X a6z a6w a2j,m_rows:=aQ a0Z a4O a0W a2o a3g,m_columns:=aQ a7B mF mP lV nC,m_value_at:=aQ a6E lQ lY mG nB,m_many:=aQ a6e iZ iF jE jI,m_look:=aQ a2k jS jC jK iL,m_asked_row:=aQ a87 iU jG jD iX,up_View:=⟨_,W.mg_of X G jA,a0B,a7F,kH,kA⟩}⟩
 t_Together:=⟨eE,{c:=W.mg_of X G a2q,cl:=⟨a8j,a5x,yQ,a7I⟩,mks:=a4U,kc:=a3W,hc:=a7J,n_one:=a1D,n_other:=a2K,m_init:=aQ vS a0T zT a4T yA,m_columns:=aQ xE a5n xI a8H a4f,m_rows:=aQ a0J a0X a8n a9d a8x,m_value_at:=aQ wJ a8w a2w a5J a5e,m_many:=aQ a85 iZ iF jE jI,m_look:=aQ zE jS jC jK iL,m_asked_row:=aQ a4h iU jG jD iX,up_View:=⟨_,W.mg_of X G jA,a7f,a7u,kH,kA⟩}⟩
 t_Beside:=⟨dF,{c:=W.mg_of X G a01,cl:=⟨zY,a6Z,a77,a5q⟩,mks:=a5c,kc:=a4d,hc:=a7g,n_view:=a8A,n_key:=a1f,n_sheet:=a0I,n_name:=a0y,n_theirs:=xK,m_init:=aQ a3d a0w yO a7e a8K,m_columns:=aQ a2b a6A a9a a5A a7P,m_value_at:=aQ xD a8l a4K a7L yI,m_is_theirs:=aQ zN a1l a7w a1p a3Q,m_matching:=aQ a7K a0t a1G a02 a3v,m_rows:=aQ a0o tD vA uM tQ,m_many:=aQ a2R iZ iF jE jI,m_look:=aQ a46 jS jC jK iL,m_asked_row:=aQ yZ iU jG jD iX,up_View:=⟨_,W.mg_of X G jA,a9j,a69,kH,kA⟩}⟩
 t_Board:=⟨eQ,{c:=W.mg_of X G vQ,cl:=⟨a2d,a7V,a7m,a8d⟩,mks:=a5L,kc:=a1B,hc:=a6h,n_given:=a0u,n_rules:=a54,n_memory:=a4j,n_order:=a19,m_init:=aQ a6J a4Y vR a7Z pP,m_has_column:=aQ a8f a6G a8g a1k pM,m_content:=aQ a1i a57 a0a a1r qK,m_set_column:=aQ a5X xZ xP a5r a6D,m_empty_column:=aQ zW yV a3O a04 qL,m_outcome:=aQ a8V a10 zJ a1q a5a}⟩
 t_TableTold:=⟨gJ,{c:=W.mg_of X G a5g,cl:=⟨a0v,zF,a8Y,a8u⟩,mks:=a2t,kc:=a0c,hc:=zK,n_boards:=zS,n_name:=a22,n_size:=xM,m_init:=aQ a28 a7y a2x yU rL,m_take:=aQ a8G a8c a40 a15 rN}⟩
 t_ColumnSet:=⟨fV,{c:=W.mg_of X G wK,cl:=⟨a7d,a2l,a5s,a0q⟩,mks:=a6B,kc:=a8t,hc:=a52,n_board:=a8D,n_column:=vM,n_after:=a7b,n_before:=a0g,m_init:=aQ a7N xQ a78 a1T qT,m_take:=aQ a6V a7l vK wL pC}⟩
 t_Trial:=⟨gG,{c:=W.mg_of X G a0K,cl:=⟨a2X,a3V,xO,a7O⟩,mks:=a6j,kc:=a3H,hc:=a27,n_finder:=a4o,n_looked:=wB,n_lacking:=a8O,m_init:=aQ a6C a60 yF vT a9g,m_look:=aQ a9m a4M a2f a3U a6n}⟩
 t_Finder:=⟨eW,{c:=W.mg_of X G a7X,cl:=⟨a39,a8o,zO,a4e⟩,mks:=a3A,kc:=a1z,hc:=a5H,n_boards:=a3j,n_found:=a8z,n_looked:=a5l,m_init:=aQ a0U a6g a2W a8h mE,m_value_of:=aQ a1M a31 a2P a1J vN,m_attempt:=aQ a0H a2u a65 a58 a41,m_gathered:=aQ a6f a2M a6v a0Y a2e,m_settle:=aQ a2G a8v a4V a2B a1S,m_knows:=aQ a9b a4b a4G a21 a8T}⟩
 t_Sheet:=⟨dD,{c:=W.mg_of X G xB,cl:=⟨a1y,a1h,a0C,a17⟩,mks:=a6P,kc:=a86,hc:=a8U,n_boards:=a1j,n_changes:=a6W,n_finder:=a7c,m_init:=aQ wI a5P a00 zH oF,m_table:=aQ a2A a3t a4k a7s nW,m_give:=aQ a6F a1A a34 a7k qV,m_tables:=aQ zR a0i a0S a0j a8I,m_columns:=aQ a3l a0P yS yW mY,m_many:=aQ a0e a07 a6m a4p a68,m_cell:=aQ a8a a3o a4n a6T a1C,m_stretch:=aQ a6i a4x a6l a7R a7E,m_make:=aQ a9h zQ a0V a8L mW,m_board_of:=aQ a1e yR yX a76 kQ,m_board_with:=aQ zP a3k a1L a3N tY,m_board_for:=aQ a6I a5y a5k a6q nP,m_check_cell:=aQ zA a5W a8N a3D zU}⟩
theorem walk{l:W.OpenLaw}{q:Program}{loose:List Str}{XP:(Str->Option Value)->Heap->Prop}{YP:World->Heap->Prop}{d:DefRec}{K:Params->Fg}(hn:l.most=some 63)(hdf:d.params.defaults= [])(hdn:d.name= "law")
 (hY:∀(w:World) (h:Heap),YP w h->(K w.params).In h)
 (F:∀(w:World) (mg:Str->Option Value) (h:Heap),(K w.params).In h->h.Ns mainGlobals mg->bD (K w.params) mg):
 W.WalkO q loose XP YP l.row.toRowW d [] (fun f vs=>PySem.call f vs):=
 L2.b2Q (n:=63) (k:=14) (x:= "_law_script") (CX:=fun _=>aJ) (sp:=fun w=>b0l (K w.params)) hn (by decide) hdf ⟨rfl,by decide,by decide⟩ hY
  (fun w mg fa h KX G hmg=>by
   have T:=F w mg h KX G
   obtain⟨f,fd,F4,hm⟩:=T.d_law.ex
   rw[hdn]at hmg
   have e:=hmg.symm.trans hm
   cases e
   refine⟨fd,fun s u=> ?_,fun base kb nb=> ?_⟩
   ·obtain⟨oc,od,kV,doc,pm,an,cdv,ct,osl,rfl,_⟩:=F4.ex
    exact .of_eq rfl
   ·exact b4o T F4)
  (fun _ _ a ns hl _ hS=>⟨a,ns,rfl,hS,hl,fun _=>rfl⟩) fun _ _ _ _ _ z=>z
end My
namespace PySem.W.Fast
abbrev Z:=Nat
def tw4798862932326044268:=Z
def tw10624009529363793388:=Z
def tw1595822557825566698:=Z
def tw4024967906235039759:=Z
def tw7481412179919871663:=Z
def tw16934534687022700675:=Z
def tw1429041571513817418:=Z
def tw15370811115666951552:=Z
def tw6598362447315840363:=Z
def tw344577177697132577:=Z
def tw8323201500618271299:=Z
def tw6312283064191197262:=Z
def tw10688545536546056497:=Z
def tw13785759919483612700:=Z
def tw1987974825208907732:=Z
def tw10194838636303702164:=Z
def tw7990116679855305903:=Z
def tw273105779660978234:=Z
def tw14238325124891388845:=Z
def tw1038105906077098761:=Z
def tw8559317235855246289:=Z
def tw10018138300551188715:=Z
def tw8234760345362600451:=Z
def tw14157505133879290069:=Z
def tw2189252032274068442:=Z
def tw11545832489499680906:=Z
def tw16005624439094060679:=Z
def tw1277936028104488941:=Z
def tw9794608244584961598:=Z
def tw17683172631866011518:=Z
def tw14335100932392731311:=Z
def tw18354075730230459189:=Z
def tw17726656506411907762:=Z
def tw13566558148070064733:=Z
def tw16362255948639575474:=Z
def tw3437619385868847578:=Z
def tw10211256412086661677:=Z
def tw3339487156934403741:=Z
def tw7698510854021143595:=Z
def tw7029424472374501955:=Z
def tw2010906896965835500:=Z
def tw5764237679050860173:=Z
def tw8606786949582488060:=Z
def tw13697717206519029649:=Z
def tw722848472325932369:=Z
def tw10362215840891569878:=Z
def tw10800972834898231298:=Z
def tw9268138390769743334:=Z
def tw7104628294470684703:=Z
def tw11222033013670660630:=Z
def tw12063000941026295427:=Z
def tw4615655230675599678:=Z
def tw11992668628211873693:=Z
def tw2928468963954183696:=Z
def tw10311395573647669191:=Z
def tw17437428080035308081:=Z
def tw10716187760226981:=Z
def tw245407149349455125:=Z
def tw5589875362437575563:=Z
def tw12149725843109994676:=Z
def tw4573565494514387164:=Z
def tw12639153559207348189:=Z
def tw5529781232525219977:=Z
def tw6810690022509991008:=Z
def tw13707352545172025769:=Z
def tw12098261112333888154:=Z
def tw7579057327582313249:=Z
def tw12758419862652037202:=Z
def tw7701691108359015104:=Z
def tw13552191176528423880:=Z
def tw2030433041086952963:=Z
def tw11562989591830812027:=Z
def tw11112265864186327541:=Z
def tw15316840963719157070:=Z
def tw3122603496180857959:=Z
def tw832958818033295402:=Z
def tw7521345647357525298:=Z
def tw1343013762595865405:=Z
def tw8194401680011361237:=Z
def tw11158464817218655971:=Z
def tw15525602470972038105:=Z
def tw13435573551585841275:=Z
def tw9993589809370456322:=Z
def tw14560532327423563194:=Z
def tw13486732475941149983:=Z
def tw7576080834771509059:=Z
def tw2258312155576854815:=Z
def tw726026354846474388:=Z
def tw9610451788030884001:=Z
def tw6649790960970385966:=Z
def tw15449683783422707555:=Z
def tw6877601117632548010:=Z
def tw1941463787226397398:=Z
def tw14819083762836238233:=Z
def tw875620403979899333:=Z
def tw11994694131978604707:=Z
def tw1394756066226396876:=Z
def tw8329222798491719054:=Z
def tw4505661279936460274:=Z
def tw14298840819612900753:=Z
def tw12828571208279802366:=Z
def tw17950240037515310103:=Z
def tw12318873535644805114:=Z
def tw14688479236324730511:=Z
def tw15236808088837452408:=Z
def tw2936016135820515284:=Z
def tw6407686816203266761:=Z
def tw3707704526633956226:=Z
def tw17171532861928394190:=Z
def tw4594272458968078494:=Z
def tw13374065394282305341:=Z
def tw14776325314890730808:=Z
def tw294235593901138420:=Z
def tw3004557641877992266:=Z
def tw6497616004942675385:=Z
def tw16964342653459587060:=Z
def tw8694560691729258228:=Z
def tw4698172098050404159:=Z
def tw17900971480848577848:=Z
def tw15140012113017856741:=Z
def tw15379188622140351623:=Z
def tw16601341193326357386:=Z
def tw14783789491294032563:=Z
def tw9462124685232534040:=Z
def tw14662393220089017218:=Z
def tw2532281930475242123:=Z
def tw1731721948379388702:=Z
def tw18250010337920045276:=Z
def tw3063113102701974808:=Z
def tw1794910410465141129:=Z
def tw12462036866647637482:=Z
def tw10306817473947659931:=Z
def tw13171137466705202109:=Z
def tw15139845538859211700:=Z
def tw9470992437252951303:=Z
def tw16289970989242509036:=Z
def tw13335605127032364081:=Z
def tw462312692853901868:=Z
def tw3380866865780110754:=Z
def tw12725154872485653934:=Z
def tw10862392099056631124:=Z
def tw1190833717154636159:=Z
def tw16977561048204663288:=Z
def tw17491898637475234748:=Z
def tw9623427883201567415:=Z
def tw7996089148971244289:=Z
def tw11033985792798409974:=Z
def tw3000645793628698495:=Z
def tw3684669483938389997:=Z
def tw13243263987750300028:=Z
def tw9810217309324031958:=Z
def tw17615239466484507877:=Z
def tw5432988022873058823:=Z
def tw11231331832553576061:=Z
def tw14120535380906800433:=Z
def tw8488048826726864469:=Z
def tw3525042158037520464:=Z
def tw18305927020221913647:=Z
def tw1117231643977321816:=Z
def tw17937027935129056164:=Z
def tw4367378591394334733:=Z
def tw15120211966191405795:=Z
def tw3609699291939238538:=Z
def tw5390528490333560518:=Z
def tw9510009686894415013:=Z
def tw3732417252845433711:=Z
def tw7882909174761080466:=Z
def tw12167006535158444064:=Z
def tw15935661972059660494:=Z
def tw10570843254766163478:=Z
def tw5510249541205556925:=Z
def tw15829958270129029604:=Z
def tw8105865833624586201:=Z
def tw9610160476826087407:=Z
def tw12306940615746407368:=Z
def tw556089743069437598:=Z
def tw16723043728971637894:=Z
def tw15611591548383420360:=Z
def tw16725120082437738100:=Z
def tw17696373622463475742:=Z
def tw2171800777393528007:=Z
def tw2188509545136207977:=Z
def tw13331526701128924325:=Z
def tw15641557479265145477:=Z
def tw12334513613450421248:=Z
def tw12946105778446247987:=Z
def tw8537587009464516851:=Z
def tw12099526096684820238:=Z
def tw1322256690371209912:=Z
def tw8155567639855504271:=Z
def tw5650586578615798250:=Z
def tw10646088070481212057:=Z
def tw13095274620610809051:=Z
def tw2345617021348819894:=Z
def tw16834434565298952611:=Z
def tw6606632746776852004:=Z
def tw3196420026274777104:=Z
def tw5644133036011436724:=Z
def tw9793312471175484223:=Z
def tw1412315936021102791:=Z
def tw5511100439069940773:=Z
def tw3040155068462201104:=Z
def tw8990985701230878700:=Z
def tw992359138770721925:=Z
def tw3380923169031035519:=Z
def tw15717342276079271220:=Z
def tw235717308747535193:=Z
def tw8721157373514270923:=Z
def tw4457854762527091201:=Z
def tw9163140012083429077:=Z
def tw12353790804928943920:=Z
def tw17583295452142145738:=Z
def tw456218338905617609:=Z
def tw9314932998611563600:=Z
def tw5937030657721709318:=Z
def tw18261603108680455771:=Z
def tw2959923813468796313:=Z
def tw11346159829122355085:=Z
def tw14503683765370572835:=Z
def tw1384254457027211281:=Z
def tw664496760043047092:=Z
def tw18408002576700085322:=Z
def tw18061422888285929606:=Z
def tw10966477380660305660:=Z
def tw10563067969777768416:=Z
def tw11206092114388411140:=Z
def tw14169860565339741333:=Z
def tw6184938281947291777:=Z
def tw17628506358790209771:=Z
def tw12683458824488931731:=Z
def tw1400077147907023310:=Z
def tw10309302151898331843:=Z
def tw15189949200064074449:=Z
def tw9485763342857408743:=Z
def tw3965027475266421469:=Z
def tw17677664868375004245:=Z
def tw7104381080400513512:=Z
def tw12016899474852654330:=Z
def tw9536107907227890976:=Z
def tw10325175359518121385:=Z
def tw3061536980463998783:=Z
def tw16120818696024527380:=Z
def tw296606447585254958:=Z
def tw6441734051163374682:=Z
def tw9433593483855178638:=Z
def tw3014520922073645299:=Z
def tw15396287116711188308:=Z
def tw13841963390815369059:=Z
def tw11191972994941609859:=Z
def tw5579676533274146142:=Z
def tw76903766573590612:=Z
def tw4821418198260317839:=Z
def tw9287784156474238965:=Z
def tw17904953113218813248:=Z
def tw3135634822627054572:=Z
def tw16401896122789912825:=Z
def tw9099836135320548146:=Z
def tw11469577683398208654:=Z
def tw342933748985028924:=Z
def tw4090455616205528228:=Z
def tw13885295512937946007:=Z
def tw6035504137215164069:=Z
def tw13655763981915962457:=Z
def tw10234291683172597324:=Z
def tw1007399785246370697:=Z
def tw17961962387266597198:=Z
def tw55706258587666223:=Z
def tw15756385428605138612:=Z
def tw12974337760120388705:=Z
def tw8148855495653187515:=Z
def tw3296814939069755647:=Z
def tw8857982742894572630:=Z
def tw2005728732843899136:=Z
def tw8354969562561641969:=Z
def tw2278485422729029305:=Z
def tw9168951342828133232:=Z
def tw5739182556622056032:=Z
def tw779392729856102739:=Z
def tw12857444000441512098:=Z
def tw8546783264840791572:=Z
def tw994445561271166046:=Z
def tw5596714693501208597:=Z
def tw576559160403588131:=Z
def tw2571353766612004879:=Z
def tw6392868893755886509:=Z
def tw17268263222248778038:=Z
def tw10570635408534657688:=Z
def tw6827283589233675576:=Z
def tw12387371851454643090:=Z
def tw13977414206018940156:=Z
def tw9455502912203324999:=Z
def tw17964560458761792534:=Z
def tw18235486473926407243:=Z
def tw6803908883141015501:=Z
def tw6890999700262058467:=Z
def tw15109530727370880076:=Z
def tw3625527430929860100:=Z
def tw12428320037998809146:=Z
def tw17457540814857766058:=Z
def tw8205770481447523582:=Z
def tw16739109835481408140:=Z
def tw9689963682781876026:=Z
def tw16852860122118245006:=Z
def tw13821651511579525488:=Z
def tw7010230216529020386:=Z
def tw7017061680584021724:=Z
def tw10150105660711500128:=Z
def tw13243862800550201991:=Z
def tw530890181705965205:=Z
def tw16639964822994678679:=Z
def tw18231013039233733312:=Z
def tw10240529268812840276:=Z
def tw15477982928403489978:=Z
def tw1903966317326381159:=Z
def tw9256066269628395701:=Z
def tw1018729302635959187:=Z
def tw13259091454911949624:=Z
def tw7127643118690116952:=Z
def tw15451536872551946857:=Z
def tw3703962200411117504:=Z
def tw7967161326163736396:=Z
def tw6147239645039159422:=Z
def tw11604809959885657891:=Z
def tw2375446075488042403:=Z
def tw5767640680374473514:=Z
def tw16358532338753676113:=Z
def tw17090180657333973920:=Z
def tw7923376992711685724:=Z
def tw15614398094466683903:=Z
def tw7159159980185562507:=Z
def tw1061616272117051990:=Z
def tw8191393438683381815:=Z
def tw16214956342481804977:=Z
def tw18175344464263652398:=Z
def tw3900411417851185941:=Z
def tw16396793045751529903:=Z
def tw17194572939930444747:=Z
def tw4826083722693059966:=Z
def tw13226135810608782715:=Z
def tw1006793093923720057:=Z
def tw15358363185397319471:=Z
def tw3096886538298011930:=Z
def tw15479867912909722198:=Z
def tw3370328320034317948:=Z
def tw4446364062017014244:=Z
def tw8322481745773577746:=Z
def tw6591928168300732723:=Z
def tw15745213286252122908:=Z
def tw5098275151399034846:=Z
def tw13621168705271239974:=Z
def tw2688956991220269160:=Z
def tw886597870495785760:=Z
def tw15835993063704764065:=Z
def tw7441300365403308491:=Z
def tw11757734941968851192:=Z
def tw1515105825828358639:=Z
def tw14714944308472607654:=Z
def tw12661070189858466032:=Z
def tw13852030692937196953:=Z
def tw16394657039774277707:=Z
def tw15542895931609615873:=Z
def tw16567781970121558938:=Z
def tw431700040776702198:=Z
def tw5184639377918749797:=Z
def tw10960622853527996909:=Z
def tw1876275294679415210:=Z
def tw226356011929464158:=Z
def tw4089759184031051799:=Z
def tw18292581118384887175:=Z
def tw3911713141712299665:=Z
def tw381206262533653802:=Z
def tw16658030973767998035:=Z
def tw7070113404527758251:=Z
def tw7931838843097916790:=Z
def tw1424957136339342667:=Z
def tw3750742300370285355:=Z
def tw4117180651687884389:=Z
def tw11754520654523739638:=Z
def tw4026485238655197256:=Z
def tw14897758907532657228:=Z
def tw1697520879756367577:=Z
def tw15155460834923583939:=Z
def tw2617696050668574008:=Z
def tw4911461039841662115:=Z
def tw9397742972813824466:=Z
def tw227514555628908640:=Z
def tw6341742155208960553:=Z
def tw14667647112700829892:=Z
def tw4645782797186913813:=Z
def tw14418249978723130958:=Z
def tw3261290933758859247:=Z
def tw647306977049184157:=Z
def tw13137678100515559165:=Z
def tw13517643456781155914:=Z
def tw9349577964073036891:=Z
def tw3877090391687173366:=Z
def tw5882719615402750174:=Z
def tw5349678481171469820:=Z
def tw14886205391041979321:=Z
def tw8566578699453330845:=Z
def tw11319493443399275609:=Z
def tw5430948198835944399:=Z
def tw7634688337465153041:=Z
def tw284057735128399649:=Z
def tw18135147217294317186:=Z
def tw15599741567758076786:=Z
def tw10425885754184848529:=Z
def tw790401470326202099:=Z
def tw17293674605277933586:=Z
def tw6228260025548767295:=Z
def tw9106114883705236680:=Z
def tw14969889421837780351:=Z
def tw8721392534873184642:=Z
def tw750568642639408582:=Z
def tw9601002563661134988:=Z
def tw3096496303670532039:=Z
def tw4542346931891582960:=Z
def tw3253271657171062654:=Z
def tw17691440407795546871:=Z
def tw7597157795744044763:=Z
def tw3659533411570368232:=Z
def tw2621028494039002188:=Z
def tw14824089977249179613:=Z
def tw1082161381314410610:=Z
def tw2368660809937893087:=Z
def tw5198791839700585680:=Z
def tw11092682020918270080:=Z
def tw11136044009313848208:=Z
def tw11293638063407159635:=Z
def tw9658162959696387657:=Z
def tw9657139284810705478:=Z
def tw18334624813560177705:=Z
def tw10980558202086452099:=Z
def tw9121317347247224630:=Z
def tw618152549478929589:=Z
def tw12746985671198384451:=Z
def tw4159977108866668517:=Z
def tw15415276111021667304:=Z
def tw10720445959969372984:=Z
def tw10706325942465813090:=Z
def tw5238577402785243680:=Z
def tw669172579332919788:=Z
def tw17636433010965762947:=Z
def tw2113641333513630151:=Z
def tw10467564411019231357:=Z
def tw15241141463363500340:=Z
def tw13216077457854095931:=Z
def tw15547496692928587355:=Z
def tw14981756891969928464:=Z
def tw6084282509549470609:=Z
def tw15073717222506452901:=Z
def tw2091773166589335010:=Z
def tw1826261755601374572:=Z
def tw8796768382708326369:=Z
def tw11625391820842822164:=Z
def tw9443042202501956623:=Z
def tw16243263527063495138:=Z
def tw14744235907761793559:=Z
def tw16294937331853092188:=Z
def tw9762633252513149158:=Z
def tw9862758147874517309:=Z
def tw13007006633129195124:=Z
def tw612837994878338670:=Z
def tw14811476908766452002:=Z
def tw17270466674196767459:=Z
def tw6241306768262979362:=Z
def tw15122578709333096002:=Z
def tw15318350459439726842:=Z
def tw10916931163885817344:=Z
def tw11978059676344647485:=Z
def tw16333890964578400526:=Z
def tw12598137887988225192:=Z
def tw10311266647108220091:=Z
def tw8931129680140830981:=Z
def tw4152679918880531636:=Z
def tw8774853202105226654:=Z
def tw17472830147653566724:=Z
def tw11014049482769371259:=Z
def tw17775913632129174565:=Z
def tw9362803912295270713:=Z
def tw9182196928031529046:=Z
def tw2774248068865269063:=Z
def tw22236671584551465:=Z
def tw9090704983291041586:=Z
def tw2284026032968259815:=Z
def tw5163284313632552090:=Z
def tw17519392448898450030:=Z
def tw12410016291370366979:=Z
def tw4471984741914259471:=Z
def tw4327212804555717046:=Z
def tw15077322805795059068:=Z
def tw12852457084859706356:=Z
def tw280997667649406105:=Z
def tw14296194830908871851:=Z
def tw9044789214100220345:=Z
def tw17284592367182662000:=Z
def tw7167168617789991048:=Z
def tw14594274476843305605:=Z
def tw11811203805899551719:=Z
def tw18130753542013225459:=Z
def tw7153468086915369871:=Z
def tw1998014995446782043:=Z
def tw18183599913488003260:=Z
def tw154500058623228441:=Z
def tw5401135729590185310:=Z
def tw10424267642490344941:=Z
def tw2219245071559322687:=Z
def tw2589915024768093860:=Z
def tw10428404540832554897:=Z
def tw2971143672633393443:=Z
def tw8290942409369729718:=Z
def tw12721001781848129700:=Z
def tw3554377699630799239:=Z
def tw3630201440225728941:=Z
def tw15905945880908650300:=Z
def tw7606549796169208242:=Z
def tw4208202415042138457:=Z
def tw12233188205282183570:=Z
def tw3015682660426502328:=Z
def tw6184575900896747340:=Z
def tw5120364233734068616:=Z
def tw10368879012818597924:=Z
def tw9516137158442845993:=Z
def tw14203087853346170426:=Z
def tw7429482713948268884:=Z
def tw3583079574991148697:=Z
def tw16341851762700481386:=Z
def tw4981937254907394815:=Z
def tw3239960903652343321:=Z
def tw6747723121865194003:=Z
def tw13666041237001690491:=Z
def tw12498482951709043408:=Z
def tw4824074132946915267:=Z
def tw8748535637736169812:=Z
def tw17744016897386502687:=Z
def tw8383749953222230947:=Z
def tw9410020845711783836:=Z
def tw5520118851823452185:=Z
def tw4269075476003369847:=Z
def tw11821131565387649457:=Z
def tw2463316087667848483:=Z
def tw13948298961133597732:=Z
def tw6390840564016593474:=Z
def tw2087787097223630925:=Z
def tw13333193316307639878:=Z
def tw9554186029982236519:=Z
def tw14660260989661964308:=Z
def tw18256387237720222399:=Z
def tw9319776660016312350:=Z
def tw15047368694316975343:=Z
def tw3104868478893915222:=Z
def tw10879746929276837531:=Z
def tw16764028614133475656:=Z
def tw15240547863295431892:=Z
def tw16614360132854519349:=Z
def tw18276522403600611364:=Z
def tw2741755340574690622:=Z
def tw9331476361350010789:=Z
def tw1318072289120588656:=Z
def tw11775498587944683996:=Z
def tw12068418660485323182:=Z
def tw5675922353182153138:=Z
def tw12893513454134632896:=Z
def tw3549049929902321829:=Z
def tw16818261984307719433:=Z
def tw16316388741342377548:=Z
def tw9454854226191983713:=Z
def tw11067259183859918797:=Z
def tw14097734237408470798:=Z
def tw5184285545540406803:=Z
def tw16128597358769583042:=Z
def tw11335735936067386919:=Z
def tw17620512315535233768:=Z
def tw18357657791140035314:=Z
def tw6136383931719567191:=Z
def tw14494537458976961192:=Z
def tw1314716089081433867:=Z
def tw12843745713649667104:=Z
def tw6714210704071891735:=Z
def tw14660428421620833097:=Z
def tw6540258285562520593:=Z
def tw4661482002582542915:=Z
def tw10289863212944658824:=Z
def tw15401870863192116782:=Z
def tw5766798671941884562:=Z
def tw8268392723477538399:=Z
def tw9845186386153668193:=Z
def tw16543500618537934768:=Z
def tw7932223994305745637:=Z
def tw16012382943348540098:=Z
def tw12719750161028045070:=Z
def tw573421488130231848:=Z
def tw14115089443441940204:=Z
def tw14393275212107242127:=Z
def tw6329853199323176475:=Z
def tw13097502420803604199:=Z
def tw4850284031863558074:=Z
def tw7150993643825113537:=Z
def tw14148921475284562170:=Z
def tw1117781903702869777:=Z
def tw16100433903678925442:=Z
def tw15387769459186943636:=Z
def tw18107245595617203309:=Z
def tw8874818777251307922:=Z
def tw7131377151894447778:=Z
def tw10147567299098059196:=Z
def tw5669130569719357693:=Z
def tw10403076043827133443:=Z
def tw1411474436086765445:=Z
def tw16403293000674340122:=Z
def tw5613578137380416613:=Z
def tw18370806168959768200:=Z
def tw15186135200015451355:=Z
def tw929232378362612559:=Z
def tw17838521291123395016:=Z
def tw1039635073559624788:=Z
def tw15274257347441824190:=Z
def tw16918450773776409144:=Z
def tw7556526918307361205:=Z
def tw16178034141206680740:=Z
def tw10043342700224329206:=Z
def tw52909421166346877:=Z
def tw2917523223027244498:=Z
def tw6622413731832766285:=Z
def tw5107685150949492958:=Z
def tw5125157954778382075:=Z
def tw14462295577792830425:=Z
def tw12588286173314248336:=Z
def tw2527231500169498095:=Z
def tw10609125953646688195:=Z
def tw1936270453000049722:=Z
def tw1113090484669400474:=Z
def tw13769648876808380373:=Z
def tw3515446701259474597:=Z
def tw5490596386879863611:=Z
def tw8375700397334216483:=Z
def tw6724768044269097850:=Z
def tw4288073927244833807:=Z
def tw10733993313778410184:=Z
def tw12975487028338512219:=Z
def tw8429736090948603288:=Z
def tw9223669570659895376:=Z
def tw6485289674923731690:=Z
def tw15135478091527037831:=Z
def tw9413691797517957129:=Z
def tw12566315017168776171:=Z
def tw9096387118963526215:=Z
def tw14540342972735772285:=Z
def tw12139489775489489933:=Z
def tw4304733158791586619:=Z
def tw3528184227974669641:=Z
def tw11875251065086578988:=Z
def tw265575918358861849:=Z
def tw4413870915807085336:=Z
def tw685733886190610172:=Z
def tw15250522929841425155:=Z
def tw16112044137057036206:=Z
def tw8642178674987340181:=Z
def tw6308536542552374790:=Z
def tw10454382952933294089:=Z
def tw6747254421102036557:=Z
def tw4273976210909389411:=Z
def tw5655520731201071318:=Z
def tw13625691057789367921:=Z
def tw9561930594116309775:=Z
def tw8744795495416539485:=Z
def tw57862509558601911:=Z
def tw8582315245030749699:=Z
def tw5872830987333845891:=Z
def tw12748244970402882569:=Z
def tw8650550715676933523:=Z
def tw8907555552741752430:=Z
def tw3616040863586566003:=Z
def tw7904144384339159077:=Z
def tw2788668384153195296:=Z
def tw4141301003943764142:=Z
def tw11010095445602080421:=Z
def tw14033586861790798516:=Z
def tw7345669977831485104:=Z
def tw12441772524716127988:=Z
def tw7427010092140677995:=Z
def tw8042953480978166914:=Z
def tw6488283055140438869:=Z
def tw1517134432863796814:=Z
def tw7818182205261871530:=Z
def tw10265337928356838493:=Z
def tw5369093960725584230:=Z
def tw9705985549472275346:=Z
def tw9365481906584964515:=Z
def tw9731978864008055147:=Z
def tw14266745201001893144:=Z
def tw2038575221841033026:=Z
def tw740414182036696931:=Z
def tw8938203233838037879:=Z
def tw5735020662175116605:=Z
def tw15990651517574595475:=Z
def tw8822727566127971824:=Z
def tw6737820151840994765:=Z
def tw1247540540125308463:=Z
def tw1935287459592460632:=Z
def tw10328147397085469422:=Z
def tw6275118277706979129:=Z
def tw14814871862614826598:=Z
def tw16740225494800452078:=Z
def tw14617656042205568828:=Z
def tw9320143232001452285:=Z
def tw8733044527557702893:=Z
def tw17995187728331968977:=Z
def tw16090614752247563598:=Z
def tw8046138696834495394:=Z
def tw4675961399774485709:=Z
def tw12188815975466986103:=Z
def tw7645633545705669324:=Z
def tw9473982185461669969:=Z
def tw3340568910894636932:=Z
def tw17623895025751345103:=Z
def tw6040710747313901194:=Z
def tw17763502224450384872:=Z
def tw14616929938307563157:=Z
def tw12352223869155015020:=Z
def tw15287832007580377364:=Z
def tw17030077949165058501:=Z
def tw17766120506387443979:=Z
def tw156863089824133937:=Z
def tw3098905056494259960:=Z
def tw15958077856026401453:=Z
def tw3664075610341297042:=Z
def tw8361606073514391328:=Z
def tw1097255641966496517:=Z
def tw15932766495690372798:=Z
def tw12208394109533547409:=Z
def tw3958594665368426359:=Z
def tw3378054424409904557:=Z
def tw1146212936671908342:=Z
def tw8975917660519402645:=Z
def tw7783203720680448699:=Z
def tw14198631537589039438:=Z
def tw1651703624218834381:=Z
def tw15262046285515437466:=Z
def tw64100080036688459:=Z
def tw12789297363879752652:=Z
def tw605517859714756484:=Z
def tw7952273724036578382:=Z
def tw2296291062625127641:=Z
def tw11535110617689955779:=Z
def tw7216070475082569685:=Z
def tw17796860749635806815:=Z
def tw1705163016589085855:=Z
def tw1364070598515974299:=Z
def tw16260663631585190026:=Z
def tw3431840384116291399:=Z
def tw12605142169132595425:=Z
def tw8719496960040656331:=Z
def tw11583714380753582533:=Z
def tw12596165448473070468:=Z
def tw2074537617516080070:=Z
def tw17872731871616528913:=Z
def tw3349327454522919676:=Z
def tw6177721359693979424:=Z
def tw4069285044540975905:=Z
def tw508413038184114116:=Z
def tw5483295892211683377:=Z
def tw3567993125597463636:=Z
def tw9135282058558167203:=Z
def tw2124912714425869534:=Z
def tw16556105174950239654:=Z
def tw16211276008555874331:=Z
def tw15298235031844315260:=Z
def tw7705060949088874408:=Z
def tw2251442738445846980:=Z
def tw1572050565201005048:=Z
def tw5668692725002278888:=Z
def tw3263716261730154607:=Z
def tw12352769416752265891:=Z
def tw11972682341686136275:=Z
def tw13571987418981788775:=Z
def tw7961979094192980653:=Z
def tw2684522120882876362:=Z
def tw7339430206607001357:=Z
def tw6663098980458646205:=Z
def tw14739479899401440770:=Z
def tw14451112766230318246:=Z
def tw16306070421810248133:=Z
def tw5134991659394953735:=Z
def tw12106300594142355869:=Z
def tw897094861743167593:=Z
def tw17137440727823727770:=Z
def tw3681844780590529183:=Z
def tw5403411728534028099:=Z
def tw2383110268378217757:=Z
def tw3613745732038800414:=Z
def tw8953386464680573800:=Z
def tw7115921594106702960:=Z
def tw13588071511977283233:=Z
def tw5676760284013723526:=Z
def tw15687509977528225261:=Z
def tw7298040792664099956:=Z
def tw4205860274232662058:=Z
def tw2627139177783453780:=Z
def tw6806764216593018759:=Z
def tw8037240709823102587:=Z
def tw14084601941835049267:=Z
def tw639418001087620453:=Z
def tw16095800750274601501:=Z
def tw8211459863868489469:=Z
def tw4301868458352188407:=Z
def tw3921876270793437101:=Z
def tw13653674926620156318:=Z
def tw2792197826591121594:=Z
def tw13809828557707755010:=Z
def tw14154204010588364419:=Z
def tw5408093860015212175:=Z
def tw2797297725109141695:=Z
def tw3180910001464345044:=Z
def tw17440509003640071910:=Z
def tw12351473923850101745:=Z
def tw5254147390033356701:=Z
def tw870136391900248019:=Z
def tw2050706126290651478:=Z
def tw8792908650203816274:=Z
def tw12312648381506543781:=Z
def tw4191414293594502242:=Z
def tw12099968562668032994:=Z
def tw18378184660492711728:=Z
def tw17937551302410281476:=Z
def tw6647117874291212562:=Z
def tw6232574474062996266:=Z
def tw3596767452167127440:=Z
def tw6148022285132083886:=Z
def tw6777684404752210544:=Z
def tw16695998228101420853:=Z
def tw12922966535813328598:=Z
def tw16173604322589103102:=Z
def tw9726002465449730481:=Z
def tw17832849155210387651:=Z
def tw5129659953075106444:=Z
def tw14374340735849926566:=Z
def tw16848610937734540355:=Z
def tw1505444893280032800:=Z
def tw7465448656247149164:=Z
def tw866176999090645437:=Z
def tw7420376072234732179:=Z
def tw18083811243785466105:=Z
def tw1460809516022498053:=Z
def tw16601647711106011983:=Z
def tw4488504518087490084:=Z
def tw11360226895116089762:=Z
def tw16569144090128994778:=Z
def tw14290736465708684877:=Z
def tw10768771016100186778:=Z
def tw5520807742037591812:=Z
def tw16923221412892088129:=Z
def tw4495224296322427763:=Z
def tw13815294195963486240:=Z
def tw12589184283268362120:=Z
def tw2130034506055842325:=Z
def tw17620635572848122308:=Z
def tw9341588474221138635:=Z
def tw17239838745931469460:=Z
def tw10037138016472380023:=Z
def tw17422014975179276445:=Z
def tw7212606875218206651:=Z
def tw8654253919902382869:=Z
def tw15045292409426087628:=Z
def tw7823990130166182655:=Z
def tw2021412273822858462:=Z
def tw11895527334612778993:=Z
def tw7698933178656403983:=Z
def tw15261721742337553760:=Z
def tw9837102570662857320:=Z
def tw10216788633326222851:=Z
def tw10591502506718771232:=Z
def tw17572722637234247669:=Z
def tw5797689411973123558:=Z
def tw16346557200650173675:=Z
def tw10042718711749953298:=Z
def tw9390145244731347107:=Z
def tw4474809078285428713:=Z
def tw4128899695379546094:=Z
def tw2019102625732362895:=Z
def tw8302244840630804089:=Z
def tw9930266529556716620:=Z
def tw15118723709960808046:=Z
def tw17096586387731276931:=Z
def tw15992994006910679529:=Z
def tw12346443887133898322:=Z
def tw16991635573105053026:=Z
def tw2448601044060477102:=Z
def tw6895796688983130538:=Z
def tw2253111615332957427:=Z
def tw1464964328516956556:=Z
def tw6783130106813600981:=Z
def tw17569880592856027046:=Z
def tw11446774241609670626:=Z
def tw11263288791295626401:=Z
def tw6094320365580523873:=Z
def tw8761927730630859299:=Z
def tw886410267067420:=Z
def tw9754499643743409687:=Z
def tw1050580518899343279:=Z
def tw2243230754205459098:=Z
def tw3056194759292495819:=Z
def tw7851624843160849657:=Z
def tw7797117808578942789:=Z
def tw13642122031621911370:=Z
def tw13899665924412709197:=Z
def tw8132992036972505532:=Z
def tw18150619590119822425:=Z
def tw1429380092297877263:=Z
def tw281049343466252303:=Z
def tw7248202873594119942:=Z
def tw5914367223411099617:=Z
def tw14628397953428064251:=Z
def tw2816665543078582246:=Z
def tw14212309375254433848:=Z
def tw7792118171232982304:=Z
def tw16561231198020112769:=Z
def tw16840289269077858596:=Z
def tw12266577685503654184:=Z
def tw10044885879278711725:=Z
def tw13385513541116046082:=Z
def tw12619952327948189303:=Z
def tw11012102083982157400:=Z
def tw652868806751874268:=Z
def tw11976994791043003449:=Z
def tw12320767585452789850:=Z
def tw7769675715795269329:=Z
def tw4962446085838088293:=Z
def tw7237623192244190026:=Z
def tw3109475854657647750:=Z
def tw10443934039406051946:=Z
def tw8825903271807061584:=Z
def tw8598397450355512381:=Z
def tw13026566721476201992:=Z
def tw17112480301180938222:=Z
def tw18238537200012079344:=Z
def tw970274202343317781:=Z
def tw11461662370062849354:=Z
def tw17457311939116376565:=Z
def tw1502113310881663442:=Z
def tw3889911047504169635:=Z
def tw14319643164510220615:=Z
def tw17542426230881326713:=Z
def tw12674984740484315903:=Z
def tw10599764970820664241:=Z
def tw633287823892298510:=Z
def tw5724746499359210499:=Z
def tw3970904470184886514:=Z
def tw5490636284727869347:=Z
def tw14227922683707280690:=Z
def tw14473412689061337083:=Z
def tw1703110696661766614:=Z
def tw6556665706373639302:=Z
def tw14283008188955538910:=Z
def tw17232622674456941038:=Z
def tw11216277909300815415:=Z
def tw3558104527400808510:=Z
def tw2889899501062144940:=Z
def tw11818502503784823288:=Z
def tw17433799350133607885:=Z
def tw3902633940595700917:=Z
def tw4753518644754969254:=Z
def tw5751990885722363440:=Z
def tw14278064895999145220:=Z
def tw1374599060806059760:=Z
def tw11946624427785502358:=Z
def tw10070552052818573371:=Z
def tw12425649237864202390:=Z
def tw919603511238192405:=Z
def tw16644094332923023633:=Z
def tw17662943453219564572:=Z
def tw8953111773610050038:=Z
def tw6904500525254453755:=Z
def tw312057445261264759:=Z
def tw698700262905122421:=Z
def tw8684420682025928186:=Z
def tw2205212380963632445:=Z
def tw2327795408894582202:=Z
def tw16986969333263460619:=Z
def tw3978028472281244534:=Z
def tw5928025454010279325:=Z
def tw16016920357516148263:=Z
def tw17868949775110107220:=Z
def tw12212952810235756963:=Z
def tw1411616142012655730:=Z
def tw17169452812230848746:=Z
def tw10451164321809551907:=Z
def tw15205296231926162484:=Z
def tw477892223383288664:=Z
def tw10355108787360826710:=Z
def tw6372967778125508072:=Z
def tw4373360161701328885:=Z
def tw956658851293547959:=Z
def tw14818404763082574974:=Z
def tw5445859609668409825:=Z
def tw292734901862774554:=Z
def tw9506019018314370215:=Z
def tw880702249566933068:=Z
def tw3351862566928871314:=Z
def tw6857262469311543772:=Z
def tw12093984832123235524:=Z
def tw5865766564611536079:=Z
def tw17161465236074324000:=Z
def tw7405531381021950503:=Z
def tw5848881076316647809:=Z
def tw9463023554819107371:=Z
def tw2547262175094707712:=Z
def tw5272344684010703649:=Z
def tw13971789700963316259:=Z
def tw7827058887736767888:=Z
def tw10910096770902668594:=Z
def tw11515824280260360936:=Z
def tw6433221323522398247:=Z
def tw2296573280493148075:=Z
def tw12101044087513295428:=Z
def tw11452191329784918117:=Z
def tw7094497558145763682:=Z
def tw16750964939957062603:=Z
def tw18171552786446684378:=Z
def tw15384850573519849353:=Z
def tw11481741123482558657:=Z
def tw11908759422760661788:=Z
def tw11545454736283238849:=Z
def tw5943193251875535603:=Z
def tw7560529657388290640:=Z
def tw4315985822964399078:=Z
def tw6721773454817971750:=Z
def tw7035489009267855919:=Z
def tw17884222847037245630:=Z
def tw11748176015547080357:=Z
def tw7198240106668074487:=Z
def tw6076800851870886505:=Z
def tw6602403866049043435:=Z
def tw16088759744550396497:=Z
def tw8457770629134530442:=Z
def tw8146578695966364339:=Z
def tw6687608916346798626:=Z
def tw17500014476341333211:=Z
def tw14963783756793592928:=Z
def tw9566131317148211781:=Z
def tw6853410962220001649:=Z
def tw15870439241803750194:=Z
def tw14271369935468026041:=Z
def tw15622161095126512640:=Z
def tw3549546230967847611:=Z
def tw2111373342231548983:=Z
def tw3667255073474616590:=Z
def tw3246644890581964327:=Z
def tw5265713168329295866:=Z
def tw3195217526710519043:=Z
def tw3991886787194706419:=Z
def tw15227457290042528468:=Z
def tw6645494015815101699:=Z
def tw8472797794172087233:=Z
def tw989188725324983936:=Z
def tw5350585155082026538:=Z
def tw10607614159287704205:=Z
def tw9230094392152720547:=Z
def tw10327416004674045712:=Z
def tw5808423414983855332:=Z
def tw8774417112387804892:=Z
def tw13985080889327853095:=Z
def tw2853923936408896802:=Z
def tw17370086836906564663:=Z
def tw10975468964309600082:=Z
def tw5488024036959586047:=Z
def tw665320407417592682:=Z
def tw12724486593259131439:=Z
def tw13145189259931238571:=Z
def tw12180208628874388330:=Z
def tw11119961728848099525:=Z
def tw9032330306221069525:=Z
def tw1011845967196972553:=Z
def tw6240268627508599325:=Z
def tw14747928520043800682:=Z
def tw14789736786344340386:=Z
def tw9873245243099157298:=Z
def tw8663120036093012219:=Z
def tw7871109310806959388:=Z
def tw11888785166976418749:=Z
def tw12663975373365314125:=Z
def tw14902469834487813916:=Z
def tw3767259797921414411:=Z
def tw8146550660988981879:=Z
def tw7890784076384895295:=Z
def tw11590653896986997858:=Z
def tw2233350857443351542:=Z
def tw7763804017237482668:=Z
def tw5536890292577420929:=Z
def tw880503823310140161:=Z
def tw1496038145355111592:=Z
def tw5245542627811996801:=Z
def tw17825594921834871543:=Z
def tw1585138905618137680:=Z
def tw15446841402348174811:=Z
def tw11275336150882902896:=Z
def tw17354505084141398538:=Z
def tw18190156985908428753:=Z
def tw7218851060207295446:=Z
def tw1601845037780614240:=Z
def tw9833151902287489532:=Z
def tw4631434334461949851:=Z
def tw9490865009572566190:=Z
def tw1401425178407636208:=Z
def tw9600528374635232366:=Z
def tw3050554382070463322:=Z
def tw437930922308953391:=Z
def tw3408997898320712584:=Z
def tw437700348057938939:=Z
def tw5772801192092644555:=Z
def tw16177946580642670554:=Z
def tw10617474471324580505:=Z
def tw10437215171310947290:=Z
def tw11733905307381786031:=Z
def tw2114173160323052660:=Z
def tw12873693931476923429:=Z
def tw8037274588459892538:=Z
def tw886788981927329280:=Z
def tw2271038861915182611:=Z
def tw1491885770251921128:=Z
def tw685302738940749472:=Z
def tw15599447742578490783:=Z
def tw15989646921850136875:=Z
def tw11639061384904680296:=Z
def tw1550154624629531885:=Z
def tw9810800962611182227:=Z
def tw2956999523958409436:=Z
def tw10691346386850796504:=Z
def tw3771065795525103692:=Z
def tw15908130824572503952:=Z
def tw3362788946844531273:=Z
def tw15795454736267635527:=Z
def tw8829069806839565485:=Z
def tw702033684937198706:=Z
def tw10914576393732971504:=Z
def tw13437259172182862237:=Z
def tw3075943792432178941:=Z
def tw15641582620515216817:=Z
def tw4198776955005287169:=Z
def tw13435925503494150351:=Z
def tw14563117274035419187:=Z
def tw9744885693839877153:=Z
def tw13507657204826758903:=Z
def tw17787220855242422608:=Z
def tw4989145354626940898:=Z
def tw10892193709655779559:=Z
def tw4500114732129815998:=Z
def tw2022950965787360975:=Z
def tw15643973736598168091:=Z
def tw10569070473933143458:=Z
def tw4402346962042969723:=Z
def tw8015523268298726551:=Z
def tw16485610177731335708:=Z
def tw8901135032270742679:=Z
def tw2600195934260131762:=Z
def tw7040802864979196098:=Z
def tw6240937472368581680:=Z
def tw7222417841594135473:=Z
def tw17422033290214178867:=Z
def tw1765018459478395016:=Z
def tw11659853262650721644:=Z
def tw18029107312450119169:=Z
def tw14776254128220417222:=Z
def tw8876363935324061312:=Z
def tw11230591544080690458:=Z
def tw8920970884968151214:=Z
def tw10289281252036590945:=Z
def tw10357318365284692739:=Z
def tw17854025205101243586:=Z
def tw10317653848808059941:=Z
def tw6689535775018720414:=Z
def tw11385995973165803746:=Z
def tw14772612039122357018:=Z
def tw7059087251153436997:=Z
def tw2402243516609014251:=Z
def tw60983830046406547:=Z
def tw3740612863418792158:=Z
def tw5724781611752000154:=Z
def tw9994694455247335476:=Z
def tw4382067924123178071:=Z
def tw8485824026222468673:=Z
def tw1033142659157161118:=Z
def tw17312345908163547622:=Z
def tw6720936892433156464:=Z
def tw8697576672298550586:=Z
def tw16798547178343761363:=Z
def tw2033416086459175561:=Z
def tw12444457762341684097:=Z
def tw13093779418477076307:=Z
def tw9199618735457245813:=Z
def tw11969269491929773493:=Z
def tw14842222857889963016:=Z
def tw11524303560246147586:=Z
def tw672047248045775500:=Z
def tw13545985049635222583:=Z
def tw18019254486550185533:=Z
def tw4181567047746458127:=Z
def tw1389220996483190695:=Z
def tw13694938253239134900:=Z
def tw6941313161568706218:=Z
def tw15719302660995833648:=Z
def tw9731903870816170184:=Z
def tw6988680750359467098:=Z
def tw8300951912866795642:=Z
def tw4252772705467915940:=Z
def tw625023773111414556:=Z
def tw17020481609406748100:=Z
def tw3176517699762209084:=Z
def tw6974722057555385204:=Z
def tw12542071483105481226:=Z
def tw17494042818518688021:=Z
def tw2126116464028889121:=Z
def tw15975209123454346206:=Z
def tw5119407576113703986:=Z
def tw17828168443904155939:=Z
def tw685485827952390912:=Z
def tw14141897862891418919:=Z
def tw3940561160789180273:=Z
def tw15219410334451670987:=Z
def tw9434524094845439674:=Z
def tw16291595495616841061:=Z
def tw7158606583334508460:=Z
def tw16284366071182011296:=Z
def tw11429532524074054435:=Z
def tw6056067218845119676:=Z
def tw7718839242584794430:=Z
def tw3433803900601854914:=Z
def tw11934134803464614823:=Z
def tw13891089848502117824:=Z
def tw16925209782473941710:=Z
def tw1332110376760587477:=Z
def tw5301534025905367091:=Z
def tw16052589986709721629:=Z
def tw17834275538624344382:=Z
def tw4421971385144469983:=Z
def tw3661119897007383051:=Z
def tw17642543658229274489:=Z
def tw17543208215768116460:=Z
def tw4149904613350296911:=Z
def tw15234565515353589133:=Z
def tw9749467462829367281:=Z
def tw11879533972859002365:=Z
def tw7249220609205657382:=Z
def tw1523006376242036595:=Z
def tw18252178810020640330:=Z
def tw3737001751166554833:=Z
def tw15167051043313376872:=Z
def tw12137651354461307823:=Z
def tw458824696514140401:=Z
def tw8395378037426244719:=Z
def tw7030019642323413866:=Z
def tw700774078619943833:=Z
def tw65404387010697642:=Z
def tw11210455056574728596:=Z
def tw15082924380460703654:=Z
def tw7139556236663927791:=Z
def tw5854521911932036389:=Z
def tw8169152781451537380:=Z
def tw2360845072354772731:=Z
def tw18329303895958866713:=Z
end PySem.W.Fast
open PySem PySem.W PyProof.Rows
set_option maxRecDepth 100000 in
set_option maxHeartbeats 0 in
theorem PySem.Challenge.cw_lazycols_k47_views_refused_holds : PySem.Challenge.rw_lazycols_k47_views_refused.Holds := by
 w_on;o_law;k_head;(case hw=>w_witness2)
 k_fill
 refine My.walk (l:=PySem.Challenge.rw_lazycols_k47_views_refused) rfl rfl rfl (fun w h Y => PySem.W.km_in_of Y) ?F
 case F=>
  intro w mg h KX G
  refine' My.b43 KX G ?a0d ?a33 ?zD ?a3L ?a5z ?a2y ?a7Q ?a5S ?a8B ?wV ?a8C ?a1I ?a1V ?a2c ?a1a ?a3w ?a7i ?xY ?zV ?a2N ?a1u ?a8q ?a2n ?yT ?a4C ?a3u ?jY ?a3a ?a1W ?a3Y ?qY ?a30 ?a7r ?a0O ?gL ?a8e ?a7a ?a12 ?qX ?a6S ?a0E ?xV ?nJ ?zL ?a45 ?a0n ?mJ ?a4J ?a6y ?a47 ?lS ?zC ?vX ?a7U ?mQ ?a72 ?a2T ?a6o ?xG ?a5m ?a4g ?a0A ?a9k ?a6M ?a0L ?a8k ?a3x ?a62 ?a73 ?a1m ?rQ ?a3Z ?a0l ?a3s ?rO ?a20 ?wR ?a4H ?oI ?a5i ?a6s ?a0N ?nK ?a8J ?a80 ?a7q ?oJ ?yH ?a29 ?vJ ?a4B ?a4v ?a5u ?wN ?a4Q ?a08 ?a3z ?yJ ?a6r ?a8X ?zM ?a5C ?a9e ?yC ?a3T ?a1b ?x_NoTable ?v_NoTable ?a1Y ?a89 ?a3J ?a13 ?a1O ?a1R ?i_NoTable_ColsError ?e_NoTable_ColsError ?i_NoTable_NoName ?i_NoTable_NoValue ?i_NoTable_NoTable ?i_NoTable_NoColumn ?i_NoTable_NoPlace ?i_NoTable_NoSize ?i_NoTable_NoText ?i_NoTable_NoRow ?i_NoTable_NoBack ?i_NoTable_TooMuch ?i_NoTable_Ruled ?i_NoTable_Ring ?i_NoTable_Nobody ?i_NoTable_Several ?x_NoColumn ?v_NoColumn ?wS ?a5j ?a0z ?a2a ?a4Z ?wD ?i_NoColumn_ColsError ?e_NoColumn_ColsError ?i_NoColumn_NoName ?i_NoColumn_NoValue ?i_NoColumn_NoTable ?i_NoColumn_NoColumn ?i_NoColumn_NoPlace ?i_NoColumn_NoSize ?i_NoColumn_NoText ?i_NoColumn_NoRow ?i_NoColumn_NoBack ?i_NoColumn_TooMuch ?i_NoColumn_Ruled ?i_NoColumn_Ring ?i_NoColumn_Nobody ?i_NoColumn_Several ?x_NoPlace ?v_NoPlace ?zB ?a32 ?wF ?a4i ?a0D ?a3i ?i_NoPlace_ColsError ?e_NoPlace_ColsError ?i_NoPlace_NoName ?i_NoPlace_NoValue ?i_NoPlace_NoTable ?i_NoPlace_NoColumn ?i_NoPlace_NoPlace ?i_NoPlace_NoSize ?i_NoPlace_NoText ?i_NoPlace_NoRow ?i_NoPlace_NoBack ?i_NoPlace_TooMuch ?i_NoPlace_Ruled ?i_NoPlace_Ring ?i_NoPlace_Nobody ?i_NoPlace_Several ?x_NoName ?v_NoName ?wH ?a0r ?a0F ?a3B ?xR ?wQ ?i_NoName_ColsError ?e_NoName_ColsError ?i_NoName_NoName ?i_NoName_NoValue ?i_NoName_NoTable ?i_NoName_NoColumn ?i_NoName_NoPlace ?i_NoName_NoSize ?i_NoName_NoText ?i_NoName_NoRow ?i_NoName_NoBack ?i_NoName_TooMuch ?i_NoName_Ruled ?i_NoName_Ring ?i_NoName_Nobody ?i_NoName_Several ?w4 ?w5 ?a1w ?a6R ?a1g ?a7o ?a7j ?a4A ?a7G ?a51 ?a0x ?a7C ?a18 ?a5d ?a5F ?a1x ?a6X ?qD ?a7v ?a70 ?a1K ?a7h ?jN ?a3f ?a1s ?vY ?a2J ?zZ ?wM ?xW ?vV ?a2Q ?oX ?a4F ?a3F ?a63 ?a8p ?a8E ?a0k ?a64 ?a1U ?yD ?tL ?a5E ?a79 ?a4I ?wC ?uL ?a7n ?a4l ?vP ?a3r ?pJ ?jA ?a25 ?yP ?a4L ?a7M ?a11 ?a1H ?a4q ?a9i ?mF ?mP ?lV ?nC ?a8Q ?tD ?vA ?uM ?tQ ?a2S ?lQ ?lY ?mG ?nB ?a74 ?iZ ?iF ?jE ?jI ?a0G ?jS ?jC ?jK ?iL ?a2E ?iU ?jG ?jD ?iX ?yM ?a1n ?a6Q ?a4W ?wE ?a1t ?a4m ?a5Q ?a71 ?a4s ?a7Y ?wX ?a75 ?a1F ?a3p ?a4r ?a7x ?a3K ?wP ?a8y ?a3R ?a0s ?a3X ?a3P ?wO ?a4E ?a2g ?a9n ?zI ?a6t ?a50 ?xA ?a6c ?kH ?kA ?a5Z ?a4P ?a6u ?a2Z ?a1Z ?a6Y ?a1o ?a5M ?a35 ?a5o ?a3C ?wG ?a8s ?a0R ?a8S ?a59 ?a1X ?a3n ?a1d ?a0b ?a2I ?a5R ?a84 ?a2p ?yY ?a24 ?a4c ?a1Q ?a2r ?a9f ?a3y ?wZ ?a2C ?a7S ?a2z ?a43 ?a5T ?a4R ?vL ?a6N ?a6H ?yK ?a5D ?a38 ?a5K ?a4y ?a53 ?a7D ?a9c ?a2i ?xX ?a3S ?a83 ?a23 ?a8F ?vO ?a5V ?a6K ?a0Q ?wU ?a4D ?a7z ?a5G ?a56 ?a2U ?a8M ?a5Y ?yN ?wA ?yE ?a5I ?a1v ?a2O ?a3h ?a6d ?a3I ?a8P ?a8Z ?a4X ?a6z ?a6w ?a2j ?a0Z ?a4O ?a0W ?a2o ?a3g ?a7B ?a6E ?a6e ?a2k ?a87 ?a7F ?a0B ?a2q ?a8j ?a5x ?yQ ?a7I ?a4U ?a3W ?a7J ?a1D ?a2K ?vS ?a0T ?zT ?a4T ?yA ?xE ?a5n ?xI ?a8H ?a4f ?a0J ?a0X ?a8n ?a9d ?a8x ?wJ ?a8w ?a2w ?a5J ?a5e ?a85 ?zE ?a4h ?a7u ?a7f ?a01 ?zY ?a6Z ?a77 ?a5q ?a5c ?a4d ?a7g ?a8A ?a1f ?a0I ?a0y ?xK ?a3d ?a0w ?yO ?a7e ?a8K ?a2b ?a6A ?a9a ?a5A ?a7P ?xD ?a8l ?a4K ?a7L ?yI ?zN ?a1l ?a7w ?a1p ?a3Q ?a7K ?a0t ?a1G ?a02 ?a3v ?a0o ?a2R ?a46 ?yZ ?a69 ?a9j ?vQ ?a2d ?a7V ?a7m ?a8d ?a5L ?a1B ?a6h ?a0u ?a54 ?a4j ?a19 ?a6J ?a4Y ?vR ?a7Z ?pP ?a8f ?a6G ?a8g ?a1k ?pM ?a1i ?a57 ?a0a ?a1r ?qK ?a5X ?xZ ?xP ?a5r ?a6D ?zW ?yV ?a3O ?a04 ?qL ?a8V ?a10 ?zJ ?a1q ?a5a ?a5g ?a0v ?zF ?a8Y ?a8u ?a2t ?a0c ?zK ?zS ?a22 ?xM ?a28 ?a7y ?a2x ?yU ?rL ?a8G ?a8c ?a40 ?a15 ?rN ?wK ?a7d ?a2l ?a5s ?a0q ?a6B ?a8t ?a52 ?a8D ?vM ?a7b ?a0g ?a7N ?xQ ?a78 ?a1T ?qT ?a6V ?a7l ?vK ?wL ?pC ?a0K ?a2X ?a3V ?xO ?a7O ?a6j ?a3H ?a27 ?a4o ?wB ?a8O ?a6C ?a60 ?yF ?vT ?a9g ?a9m ?a4M ?a2f ?a3U ?a6n ?a7X ?a39 ?a8o ?zO ?a4e ?a3A ?a1z ?a5H ?a3j ?a8z ?a5l ?a0U ?a6g ?a2W ?a8h ?mE ?a1M ?a31 ?a2P ?a1J ?vN ?a0H ?a2u ?a65 ?a58 ?a41 ?a6f ?a2M ?a6v ?a0Y ?a2e ?a2G ?a8v ?a4V ?a2B ?a1S ?a9b ?a4b ?a4G ?a21 ?a8T ?xB ?a1y ?a1h ?a0C ?a17 ?a6P ?a86 ?a8U ?a1j ?a6W ?a7c ?wI ?a5P ?a00 ?zH ?oF ?a2A ?a3t ?a4k ?a7s ?nW ?a6F ?a1A ?a34 ?a7k ?qV ?zR ?a0i ?a0S ?a0j ?a8I ?a3l ?a0P ?yS ?yW ?mY ?a0e ?a07 ?a6m ?a4p ?a68 ?a8a ?a3o ?a4n ?a6T ?a1C ?a6i ?a4x ?a6l ?a7R ?a7E ?a9h ?zQ ?a0V ?a8L ?mW ?a1e ?yR ?yX ?a76 ?kQ ?zP ?a3k ?a1L ?a3N ?tY ?a6I ?a5y ?a5k ?a6q ?nP ?zA ?a5W ?a8N ?a3D ?zU
  case a0d|a33|zD|a3L|a5z|a2y|a7Q|a5S|a8B|wV|a8C|a1I|a1V|a2c|a1a|a3w|a7i|xY|zV|a2N|a1u|a8q|a2n|yT|a4C|a3u|jY|a3a|a1W|a3Y|qY|a30|a7r|a0O|gL|a8e|a7a|a12|qX|a6S|a0E|xV|nJ|zL|a45|a0n|mJ|a4J|a6y|a47|lS|zC|vX|a7U|mQ|a72|a2T|a6o|xG|a5m|a4g|a0A|a9k|a6M|a0L|a8k|a3x|a62|a73|a1m|rQ|a3Z|a0l|a3s|rO|a20|wR|a4H|oI|a5i|a6s|a0N|nK|a8J|a80|a7q|oJ|yH|a29|vJ|a4B|a4v|a5u|wN|a4Q|a08|a3z|yJ|a6r|a8X|zM|a5C|a9e|yC|a3T|a1b=>k_is
  (case x_NoTable=>k_exc)
  (case v_NoTable=>kit_is)
  case a1Y|a89|a3J|a13|a1O|a1R=>k_is
  (case i_NoTable_ColsError=>kit_is)
  (case e_NoTable_ColsError=>kts_exm)
  (case i_NoTable_NoName=>kit_is)
  (case i_NoTable_NoValue=>kit_is)
  (case i_NoTable_NoTable=>kit_is)
  (case i_NoTable_NoColumn=>kit_is)
  (case i_NoTable_NoPlace=>kit_is)
  (case i_NoTable_NoSize=>kit_is)
  (case i_NoTable_NoText=>kit_is)
  (case i_NoTable_NoRow=>kit_is)
  (case i_NoTable_NoBack=>kit_is)
  (case i_NoTable_TooMuch=>kit_is)
  (case i_NoTable_Ruled=>kit_is)
  (case i_NoTable_Ring=>kit_is)
  (case i_NoTable_Nobody=>kit_is)
  (case i_NoTable_Several=>kit_is)
  (case x_NoColumn=>k_exc)
  (case v_NoColumn=>kit_is)
  case wS|a5j|a0z|a2a|a4Z|wD=>k_is
  (case i_NoColumn_ColsError=>kit_is)
  (case e_NoColumn_ColsError=>kts_exm)
  (case i_NoColumn_NoName=>kit_is)
  (case i_NoColumn_NoValue=>kit_is)
  (case i_NoColumn_NoTable=>kit_is)
  (case i_NoColumn_NoColumn=>kit_is)
  (case i_NoColumn_NoPlace=>kit_is)
  (case i_NoColumn_NoSize=>kit_is)
  (case i_NoColumn_NoText=>kit_is)
  (case i_NoColumn_NoRow=>kit_is)
  (case i_NoColumn_NoBack=>kit_is)
  (case i_NoColumn_TooMuch=>kit_is)
  (case i_NoColumn_Ruled=>kit_is)
  (case i_NoColumn_Ring=>kit_is)
  (case i_NoColumn_Nobody=>kit_is)
  (case i_NoColumn_Several=>kit_is)
  (case x_NoPlace=>k_exc)
  (case v_NoPlace=>kit_is)
  case zB|a32|wF|a4i|a0D|a3i=>k_is
  (case i_NoPlace_ColsError=>kit_is)
  (case e_NoPlace_ColsError=>kts_exm)
  (case i_NoPlace_NoName=>kit_is)
  (case i_NoPlace_NoValue=>kit_is)
  (case i_NoPlace_NoTable=>kit_is)
  (case i_NoPlace_NoColumn=>kit_is)
  (case i_NoPlace_NoPlace=>kit_is)
  (case i_NoPlace_NoSize=>kit_is)
  (case i_NoPlace_NoText=>kit_is)
  (case i_NoPlace_NoRow=>kit_is)
  (case i_NoPlace_NoBack=>kit_is)
  (case i_NoPlace_TooMuch=>kit_is)
  (case i_NoPlace_Ruled=>kit_is)
  (case i_NoPlace_Ring=>kit_is)
  (case i_NoPlace_Nobody=>kit_is)
  (case i_NoPlace_Several=>kit_is)
  (case x_NoName=>k_exc)
  (case v_NoName=>kit_is)
  case wH|a0r|a0F|a3B|xR|wQ=>k_is
  (case i_NoName_ColsError=>kit_is)
  (case e_NoName_ColsError=>kts_exm)
  (case i_NoName_NoName=>kit_is)
  (case i_NoName_NoValue=>kit_is)
  (case i_NoName_NoTable=>kit_is)
  (case i_NoName_NoColumn=>kit_is)
  (case i_NoName_NoPlace=>kit_is)
  (case i_NoName_NoSize=>kit_is)
  (case i_NoName_NoText=>kit_is)
  (case i_NoName_NoRow=>kit_is)
  (case i_NoName_NoBack=>kit_is)
  (case i_NoName_TooMuch=>kit_is)
  (case i_NoName_Ruled=>kit_is)
  (case i_NoName_Ring=>kit_is)
  (case i_NoName_Nobody=>kit_is)
  (case i_NoName_Several=>kit_is)
  case w4|w5|a1w|a6R|a1g|a7o|a7j|a4A|a7G|a51|a0x|a7C|a18|a5d|a5F|a1x|a6X|qD|a7v|a70|a1K|a7h|jN|a3f|a1s|vY|a2J|zZ|wM|xW|vV|a2Q|oX|a4F|a3F|a63|a8p|a8E|a0k|a64|a1U|yD|tL|a5E|a79|a4I|wC|uL|a7n|a4l|vP|a3r|pJ|jA|a25|yP|a4L|a7M|a11|a1H|a4q|a9i|mF|mP|lV|nC|a8Q|tD|vA|uM|tQ|a2S|lQ|lY|mG|nB|a74|iZ|iF|jE|jI|a0G|jS|jC|jK|iL|a2E|iU|jG|jD|iX|yM|a1n|a6Q|a4W|wE|a1t|a4m|a5Q|a71|a4s|a7Y|wX|a75|a1F|a3p|a4r|a7x|a3K|wP|a8y|a3R|a0s|a3X|a3P|wO|a4E|a2g|a9n|zI|a6t|a50|xA|a6c|kH|kA|a5Z=>k_is
  (case a4P=>kit_is)
  case a6u|a2Z|a1Z|a6Y|a1o|a5M|a35|a5o|a3C|wG|a8s|a0R|a8S|a59|a1X|a3n|a1d|a0b|a2I|a5R|a84|a2p|yY|a24|a4c|a1Q|a2r|a9f|a3y|wZ|a2C=>k_is
  (case a7S=>kit_is)
  case a2z|a43|a5T|a4R|vL|a6N|a6H|yK|a5D|a38|a5K|a4y|a53|a7D|a9c|a2i|xX|a3S|a83|a23|a8F|vO|a5V|a6K|a0Q|wU|a4D|a7z|a5G|a56|a2U=>k_is
  (case a8M=>kit_is)
  case a5Y|yN|wA|yE|a5I|a1v|a2O|a3h|a6d|a3I|a8P|a8Z|a4X|a6z|a6w|a2j|a0Z|a4O|a0W|a2o|a3g|a7B|a6E|a6e|a2k|a87|a7F=>k_is
  (case a0B=>kit_is)
  case a2q|a8j|a5x|yQ|a7I|a4U|a3W|a7J|a1D|a2K|vS|a0T|zT|a4T|yA|xE|a5n|xI|a8H|a4f|a0J|a0X|a8n|a9d|a8x|wJ|a8w|a2w|a5J|a5e|a85|zE|a4h|a7u=>k_is
  (case a7f=>kit_is)
  case a01|zY|a6Z|a77|a5q|a5c|a4d|a7g|a8A|a1f|a0I|a0y|xK|a3d|a0w|yO|a7e|a8K|a2b|a6A|a9a|a5A|a7P|xD|a8l|a4K|a7L|yI|zN|a1l|a7w|a1p|a3Q|a7K|a0t|a1G|a02|a3v|a0o|a2R|a46|yZ|a69=>k_is
  (case a9j=>kit_is)
  case vQ|a2d|a7V|a7m|a8d|a5L|a1B|a6h|a0u|a54|a4j|a19|a6J|a4Y|vR|a7Z|pP|a8f|a6G|a8g|a1k|pM|a1i|a57|a0a|a1r|qK|a5X|xZ|xP|a5r|a6D|zW|yV|a3O|a04|qL|a8V|a10|zJ|a1q|a5a|a5g|a0v|zF|a8Y|a8u|a2t|a0c|zK|zS|a22|xM|a28|a7y|a2x|yU|rL|a8G|a8c|a40|a15|rN|wK|a7d|a2l|a5s|a0q|a6B|a8t|a52|a8D|vM|a7b|a0g|a7N|xQ|a78|a1T|qT|a6V|a7l|vK|wL|pC|a0K|a2X|a3V|xO|a7O|a6j|a3H|a27|a4o|wB|a8O|a6C|a60|yF|vT|a9g|a9m|a4M|a2f|a3U|a6n|a7X|a39|a8o|zO|a4e|a3A|a1z|a5H|a3j|a8z|a5l|a0U|a6g|a2W|a8h|mE|a1M|a31|a2P|a1J|vN|a0H|a2u|a65|a58|a41|a6f|a2M|a6v|a0Y|a2e|a2G|a8v|a4V|a2B|a1S|a9b|a4b|a4G|a21|a8T|xB|a1y|a1h|a0C|a17|a6P|a86|a8U|a1j|a6W|a7c|wI|a5P|a00|zH|oF|a2A|a3t|a4k|a7s|nW|a6F|a1A|a34|a7k|qV|zR|a0i|a0S|a0j|a8I|a3l|a0P|yS|yW|mY|a0e|a07|a6m|a4p|a68|a8a|a3o|a4n|a6T|a1C|a6i|a4x|a6l|a7R|a7E|a9h|zQ|a0V|a8L|mW|a1e|yR|yX|a76|kQ|zP|a3k|a1L|a3N|tY|a6I|a5y|a5k|a6q|nP|zA|a5W|a8N|a3D=>k_is
  (case zU=>k_is)