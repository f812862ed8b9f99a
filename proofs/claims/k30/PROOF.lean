import PyProof.Rows.All
import Wide.All
import OpenK.AllK
import Wide.FinOn
import PyProof.EqAt
import PyProof.EqKinds
import PyProof.TupleCall
import Lean
import PySem.Challenge.RW_lazycols_k30_faults_and_mends
set_option Elab.async false
set_option linter.all false
set_option maxRecDepth 100000
set_option maxHeartbeats 4000000
set_option genSizeOfSpec false
set_option compiler.extract_closed false
namespace L2
theorem aa{α:Type _}{a:α}{l:List α}:a∈a::l:=List.mem_cons_self ..
theorem ad{α:Sort _}{a b c:α}(h:a=b\/ a=c:=by first|exact Or.inl rfl|exact Or.inr rfl):a=b\/ a=c:=h
theorem nk{α:Sort _}{p:α->Prop}(h:∀y,p y:=by intro _ y;cases y):∀y,p y:=h
abbrev Fg:=PySem.W.Frag
end L2
open PySem L2
variable{us its:List Value}{n i j p:Nat}{F:FuncData}{ps N:List Str}{a b ch D l C dx f fd fa CB CT bd fi lk CS CF CC la du zt CG CM:Addr}{u doc pm ah ct oc:Value}{P prog:Program}{w:World}{h af h':Heap}{x c m qual q me:Str}{e tg body iter:Expr}{A:Around}{E Q:Value->Shared->Prop}{s':Shared}{ae:List (Addr×Obj)}{pos pos' apos:Pos}{K:Fg}{es:List Expr}{fp M:List Addr}{mg:Str->Option Value}{ai:Scope}{params:Arguments}{an od ca:Option Addr}{d:PyData}{cp:List (Nat×Str)}{clos:List (Str×Addr)}{ds:List PyData}{gr:Nat->Addr}{z2 z1:Addr×Addr}
namespace L2
open PySem PySem.Spec PyProof.Rows
theorem fJ(h:us.length=n+ 1):∃a r,us=a::r/\r.length=n:=by
 cases us with
 |nil=>cases h
 |cons a r=>exact⟨a,r,rfl,Nat.succ.inj h⟩
theorem eU(h:∀a0,bindArgs F ⟨[a0],[]⟩=pure (ps.zip [a0])):∀us:List Value,us.length=1->bindArgs F ⟨us,[]⟩=pure (ps.zip us):=by
 intro us h0;obtain⟨a0,us0,rfl,h1⟩:=fJ h0;obtain rfl:=List.length_eq_zero_iff.mp h1;exact h a0
theorem eG(h:∀a0 a1,bindArgs F ⟨[a0,a1],[]⟩=pure (ps.zip [a0,a1])):∀us:List Value,us.length=2->bindArgs F ⟨us,[]⟩=pure (ps.zip us):=by
 intro us h0;obtain⟨a0,us0,rfl,h1⟩:=fJ h0;obtain⟨a1,us1,rfl,h2⟩:=fJ h1;obtain rfl:=List.length_eq_zero_iff.mp h2;exact h a0 a1
theorem jN(h:∀a0 a1 a2,bindArgs F ⟨[a0,a1,a2],[]⟩=pure (ps.zip [a0,a1,a2])):∀us:List Value,us.length=3->bindArgs F ⟨us,[]⟩=pure (ps.zip us):=by
 intro us h0;obtain⟨a0,us0,rfl,h1⟩:=fJ h0;obtain⟨a1,us1,rfl,h2⟩:=fJ h1;obtain⟨a2,us2,rfl,h3⟩:=fJ h2;obtain rfl:=List.length_eq_zero_iff.mp h3;exact h a0 a1 a2
theorem kP(h:∀a0 a1 a2 a3,bindArgs F ⟨[a0,a1,a2,a3],[]⟩=pure (ps.zip [a0,a1,a2,a3])):∀us:List Value,us.length=4->bindArgs F ⟨us,[]⟩=pure (ps.zip us):=by
 intro us h0;obtain⟨a0,us0,rfl,h1⟩:=fJ h0;obtain⟨a1,us1,rfl,h2⟩:=fJ h1;obtain⟨a2,us2,rfl,h3⟩:=fJ h2;obtain⟨a3,us3,rfl,h4⟩:=fJ h3;obtain rfl:=List.length_eq_zero_iff.mp h4;exact h a0 a1 a2 a3
theorem pP(h:∀a0 a1 a2 a3 a4,bindArgs F ⟨[a0,a1,a2,a3,a4],[]⟩=pure (ps.zip [a0,a1,a2,a3,a4])):∀us:List Value,us.length=5->bindArgs F ⟨us,[]⟩=pure (ps.zip us):=by
 intro us h0;obtain⟨a0,us0,rfl,h1⟩:=fJ h0;obtain⟨a1,us1,rfl,h2⟩:=fJ h1;obtain⟨a2,us2,rfl,h3⟩:=fJ h2;obtain⟨a3,us3,rfl,h4⟩:=fJ h3;obtain⟨a4,us4,rfl,h5⟩:=fJ h4;obtain rfl:=List.length_eq_zero_iff.mp h5;exact h a0 a1 a2 a3 a4
theorem bi6(h:∀a0 a1 a2 a3 a4 a5,bindArgs F ⟨[a0,a1,a2,a3,a4,a5],[]⟩=pure (ps.zip [a0,a1,a2,a3,a4,a5])):∀us:List Value,us.length=6->bindArgs F ⟨us,[]⟩=pure (ps.zip us):=by
 intro us h0;obtain⟨a0,us0,rfl,h1⟩:=fJ h0;obtain⟨a1,us1,rfl,h2⟩:=fJ h1;obtain⟨a2,us2,rfl,h3⟩:=fJ h2;obtain⟨a3,us3,rfl,h4⟩:=fJ h3;obtain⟨a4,us4,rfl,h5⟩:=fJ h4;obtain⟨a5,us5,rfl,h6⟩:=fJ h5;obtain rfl:=List.length_eq_zero_iff.mp h6;exact h a0 a1 a2 a3 a4 a5
theorem lt3(h:n<3:=by first|assumption|omega):n=0\/ n=1\/ n=2:=by omega
abbrev aB:=Sum Int Str
def pI:aB->Value->Bool
 | .inl k,v=>Value.isInt k v
 | .inr x,v=>Value.isStrOf x v
def keyH(w:World):aB->Int
 | .inl k=>hashInt k
 | .inr x=>hashStr w x
theorem lK:∀{k:aB} {v:Value},pI k v=true->(∃i t,k=Sum.inl i/\v=Value.int i t)\/ (∃x t,k=Sum.inr x/\v=Value.str x t)
 | .inl i,v,h=>by
  obtain⟨t,e⟩:=Value.isInt_shape (k:=i) (v:=v) h;exact .inl ⟨i,t,rfl,e⟩
 | .inr x,v,h=>by
  obtain⟨t,e⟩:=Value.isStrOf_shape (x:=x) (v:=v) h;exact .inr ⟨x,t,rfl,e⟩
theorem b0n(i:Int)(t:Tok):pI (.inl i) (.int i t)=true:=by simp[pI,Value.isInt]
theorem a6Q(x:Str)(t:Tok):pI (.inr x) (.str x t)=true:=by simp[pI,Value.isStrOf]
theorem a7V(a b:Int):decide ((Sum.inl a:aB)=Sum.inl b)=(a==b):=by
 by_cases e:a=b
 ·subst e;simp
 ·have h:¬(Sum.inl a:aB)=Sum.inl b:=fun q=>e (Sum.inl.inj q)
  rw[decide_eq_false h];exact(beq_eq_false_iff_ne.mpr e).symm
theorem a8Y(a b:Str):decide ((Sum.inr a:aB)=Sum.inr b)=decide (a=b):=by
 by_cases e:a=b
 ·subst e;simp
 ·have h:¬(Sum.inr a:aB)=Sum.inr b:=fun q=>e (Sum.inr.inj q)
  rw[decide_eq_false h,decide_eq_false e]
theorem a5N(a:Int)(b:Str):decide ((Sum.inl a:aB)=Sum.inr b)=false:=decide_eq_false (fun q=>nomatch q)
theorem a6k(a:Str)(b:Int):decide ((Sum.inr a:aB)=Sum.inl b)=false:=decide_eq_false (fun q=>nomatch q)
def fH(prog:Program)(w:World):PySem.KeyKind prog w aB where
 is:=pI
 hash:=keyH w
 inj:=fun v a b ha hb=>by
  rcases lK ha with⟨i,t,rfl,rfl⟩|⟨x,t,rfl,rfl⟩
  ·rcases lK hb with⟨j,u,rfl,e⟩|⟨y,u,rfl,e⟩
   ·injection e with e1 _;rw[e1]
   ·exact nomatch e
  ·rcases lK hb with⟨j,u,rfl,e⟩|⟨y,u,rfl,e⟩
   ·exact nomatch e
   ·injection e with e1 _;rw[e1]
 byValue:=fun k v h=>by
  rcases lK h with⟨i,t,rfl,rfl⟩|⟨x,t,rfl,rfl⟩<;>rfl
 pyHash:=fun hv h=>by
  rcases lK hv with⟨i,t,rfl,rfl⟩|⟨x,t,rfl,rfl⟩
  ·exact wpAny_pyHash_int h
  ·exact wpAny_pyHash_str h
 eqBool:=fun hu hv h=>by
  rcases lK hu with⟨i,t,rfl,rfl⟩|⟨x,t,rfl,rfl⟩
  ·rcases lK hv with⟨j,u,rfl,rfl⟩|⟨y,u,rfl,rfl⟩
   ·rw[a7V]at h;exact wpAny_eqBool_int h
   ·rw[a5N]at h;exact SeqAt.EqAt.int_str i t y u _ _ _ _ h
  ·rcases lK hv with⟨j,u,rfl,rfl⟩|⟨y,u,rfl,rfl⟩
   ·rw[a6k]at h;exact SeqAt.EqAt.str_int x t j u _ _ _ _ h
   ·rw[a8Y]at h;exact wpAny_eqBool_str h
 «strs» :=fun k x t v h=>by
  rcases lK h with⟨i,u,rfl,e⟩|⟨y,u,rfl,e⟩
  ·exact nomatch e
  ·injection e with e1 _
   subst e1;cases v<;>rfl
theorem a7m(prog:Program)(w:World)(i:Int)(t:Tok):(fH prog w).is (.inl i) (.int i t)=true:=b0n i t
theorem a4X(prog:Program)(w:World)(x:Str)(t:Tok):(fH prog w).is (.inr x) (.str x t)=true:=a6Q x t
inductive V where
 |non|bl(b:Bool)|int(i:Int)|str(x:Str)|byt(b:Array UInt8)|flt(b:UInt64)|ref(a:Addr)|ty(n:String)
 deriving DecidableEq
variable{xs vs ys cs zs cs' dv csh:List V}{y:V}{ns ns':List (Option V×List Int)}{kvs:List (List aB×V)}{mk:List (aB×V)}{mem:Str->Str->List (aB×V)}
def aZ:V->Value->Prop
 | .non,u=>u=Value.none
 | .bl b,u=>u=Value.bool b
 | .int i,u=>∃t,u=Value.int i t
 | .str x,u=>∃t,u=Value.str x t
 | .byt b,u=>∃t,u=Value.bytes b t
 | .flt b,u=>∃t,u=Value.float b t
 | .ref a,u=>u=Value.ref a
 | .ty n,u=>u=Value.type n
abbrev aW:List V->List Value->Prop:=Paired aZ
theorem aW.length(r:aW xs us):xs.length=us.length:=Paired.length r
theorem aW.get:∀{xs:List V} {us:List Value} {i:Nat} {x:V},aW xs us->xs[i]?=some x->∃u,us[i]?=some u/\aZ x u
 |_,_,_,_,.nil,e=>by simp at e
 |_,_,0,_,.cons r _,e=>by simp at e;subst e;exact⟨_,rfl,r⟩
 |_,_,i+ 1,x,.cons _ t,e=>by
  obtain⟨u,h1,h2⟩:=aW.get (i:=i) (x:=x) t (by simpa using e);exact⟨u,by simpa using h1,h2⟩
theorem aW.set{x:V}{u:Value}(r:aZ x u):∀{xs:List V} {us:List Value} (i:Nat),aW xs us->aW (xs.set i x) (us.set i u)
 |_,_,_,.nil=> .nil
 |_,_,0,.cons _ t=> .cons r t
 |_,_,i+ 1,.cons q t=> .cons q (aW.set r i t)
theorem aW.append:∀{xs ys:List V} {us ws:List Value},aW xs us->aW ys ws->aW (xs++ ys) (us++ ws)
 |_,_,_,_,.nil,s=>s
 |_,_,_,_,.cons r t,s=> .cons r (aW.append t s)
theorem aW.take:∀{xs:List V} {us:List Value} (n:Nat),aW xs us->aW (xs.take n) (us.take n)
 |_,_,0,_=> .nil
 |_,_,_+ 1,.nil=> .nil
 |_,_,n+ 1,.cons r t=> .cons r (aW.take n t)
theorem aW.drop:∀{xs:List V} {us:List Value} (n:Nat),aW xs us->aW (xs.drop n) (us.drop n)
 |_,_,0,r=>r
 |_,_,_+ 1,.nil=> .nil
 |_,_,n+ 1,.cons _ t=>aW.drop n t
def gG:Option V->Option Value->Prop
 |some v,some u=>aZ v u
 |none,none=>True
 |_,_=>False
def KV{κ:Type}:List (κ×V)->List (κ×Value)->Prop:=Paired fun(p:κ×V) (q:κ×Value)=>p.1=q.1/\aZ p.2 q.2
def kV:aB->V
 | .inl i=> .int i
 | .inr x=> .str x
inductive HO where
 |lst(xs:List V)
 |tup(xs:List V)
 |dK(kvs:List (aB×V))|dT(kvs:List (List aB×V))
 |set(S:Int->Bool)(n:Nat)
 |ins(C dx:Addr)(fs:List (Str×V))
 |own(x:Addr)
 |xd(fs:List (Str×V))
 |met(f x:Addr)
 |rng(lo hi:Int)
 |frz(o:Obj)(u:HO)
 |tbl(ps:Array Value)
 |ext(φ:Heap->Prop)
abbrev Hp:=Addr->Option HO
noncomputable def upd (H:Hp) (a:Addr) (o:HO):Hp:=fun b=>if b=a then some o else H b
variable{H H' H1 H2 H0:Hp}{o:HO}{LL:Hp->Prop}
theorem aI:upd H a o a=some o:=by unfold upd;rw[if_pos rfl]
theorem aH(h:b≠a):upd H a o b=H b:=by unfold upd;rw[if_neg h]
theorem kZ{u:HO}(h:H a=some o)(h':H b=some u)(d:o≠u):a≠b:=by
 intro e;subst e;rw[h]at h';exact d (Option.some.inj h')
theorem aX(h:H a=some o)(h':H b=none):a≠b:=by
 intro e;subst e;rw[h]at h';cases h'
section
variable(P:Program)(w:World)
def cU(H:Hp)(h:Heap)(a:Addr):HO->Prop
 | .lst xs=>xs.length<=sizeLine/\∃(its:List Value) (n:Nat),aW xs its/\h.get? a=some {cls:=.type "list",data:=.seq its.toArray n}
 | .tup xs=>xs.length<=sizeLine/\∃its:List Value,aW xs its/\IsTup h a its.toArray
 | .dK kvs=>kvs.length<=sizeLine/\(a==sysModules)=false/\∃vs,KV kvs vs/\h.DictOf (fH P w) a vs
 | .dT kvs=>kvs.length<=sizeLine/\(a==sysModules)=false/\∃xs:List (List aB×Addr×Value),
  Paired (fun(p:List aB×V) (q:List aB×Addr×Value)=>p.1=q.1/\H q.2.1=some (.tup (p.1.map kV))/\aZ p.2 q.2.2) kvs xs/\
  ∃o es ep,h.get? a=some o/\o.ExactDict/\o.data= .dict es ep/\es.toList=xs.map (entryOfKey (tupleKind (fH P w)))/\(xs.map (·.1)).Nodup
 | .set S n=>h.SetOf (intKind P w) a S n
 | .ins C dx fs=>H dx=some (.own a)/\fs.length<=1000/\dx≠a/\h.get? a=some (W.instObj C dx)/\
  ∃mA,h.Ns1 dx mA/\(∀f,gG (fs.lookup f) (mA f))/\PySem.Within mA (fs.map (·.1))
 | .own _=>∃o,h.get? a=some o
 | .xd fs=>∃mA,h.Ns1 a mA/\∀f,gG (fs.lookup f) (mA f)
 | .rng lo hi=>∃t u v,h.get? a=some {cls:=.type "range",data:=.fields #[.int lo t,.int hi u,.int 1 v]}
 | .frz o u=>h.get? a=some o/\cU H h a u
 | .tbl ps=>h.get? a=some {cls:=.none,data:=.fields ps}
 | .met f x=>h.get? a=some (W.methodObj (.ref f) (.ref x))
 | .ext φ=>φ h/\(∃o,h.get? a=some o)/\∀h1 h2:Heap,φ h1->(∀o,h1.get? a=some o->h2.get? a=some o)->φ h2
def bX(H:Hp)(h:Heap):Prop:=∀a o,H a=some o->cU P w H h a o
end
section
theorem cU.lt(x:cU P w H h a o):a<h.objs.size:=by
 cases o with
 |lst xs=>obtain⟨_,_,_,_,e⟩:=x;exact Heap.lt_size e
 |tup xs=>obtain⟨_,_,_,p⟩:=x;exact p.lt
 |dK kvs=>obtain⟨_,_,_,_,o,_,_,e,_⟩:=x;exact Heap.lt_size e
 |dT kvs=>obtain⟨_,_,_,_,o,_,_,e,_⟩:=x;exact Heap.lt_size e
 |set S n=>obtain⟨o,_,_,_,e,_⟩:=x;exact Heap.lt_size e
 |ins C dx fs=>obtain⟨_,_,_,e,_⟩:=x;exact Heap.lt_size e
 |own y=>obtain⟨_,e⟩:=x;exact Heap.lt_size e
 |xd fs=>obtain⟨_,⟨_,_,_,e,_⟩,_⟩:=x;exact Heap.lt_size e
 |rng lo hi=>obtain⟨_,_,_,e⟩:=x;exact Heap.lt_size e
 |frz ob u=>obtain⟨e,_⟩:=x;exact Heap.lt_size e
 |tbl ps=>exact Heap.lt_size (show h.get? a=some _ from x)
 |met f y=>exact Heap.lt_size (show h.get? a=some _ from x)
 |ext φ=>obtain⟨_,⟨_,e⟩,_⟩:=x;exact Heap.lt_size e
theorem Paired.mapP{α β:Type}{F G:α->β->Prop}:∀{l₁:List α} {l₂:List β},Paired F l₁ l₂->(∀a b,F a b->G a b)->Paired G l₁ l₂
 |_,_,.nil,_=> .nil
 |_,_,.cons r t,f=> .cons (f _ _ r) (Paired.mapP t f)
theorem cU.stay(x:cU P w H h a o)(k:∀b u,(b=a\/ H b=some (.own a))->h.get? b=some u->h'.get? b=some u)
 (ho:∀b,H b=some (.own a)->H' b=some (.own a))(ht:∀b xs,H b=some (.tup xs)->H' b=some (.tup xs)):cU P w H' h' a o:=by
 induction o with
 |lst xs=>obtain⟨z,its,n,r,e⟩:=x;exact⟨z,its,n,r,k _ _ (.inl rfl) e⟩
 |tup xs=>obtain⟨z,its,r,ob,e,c⟩:=x;exact⟨z,its,r,ob,k _ _ (.inl rfl) e,c⟩
 |dK kvs=>obtain⟨z,y,vs,r,ob,es,ep,e,c⟩:=x;exact⟨z,y,vs,r,ob,es,ep,k _ _ (.inl rfl) e,c⟩
 |dT kvs=>
  obtain⟨z,y,xs,r,ob,es,ep,e,c⟩:=x;exact⟨z,y,xs,Paired.mapP r fun p q z=>⟨z.1,ht _ _ z.2.1,z.2.2⟩,ob,es,ep,k _ _ (.inl rfl) e,c⟩
 |set S n=>obtain⟨ob,es,ep,t,e,c⟩:=x;exact⟨ob,es,ep,t,k _ _ (.inl rfl) e,c⟩
 |ins C dx fs=>
  obtain⟨d,z,ne,e,mA,⟨od,es,ep,e2,c⟩,r⟩:=x;exact⟨ho _ d,z,ne,k _ _ (.inl rfl) e,mA,⟨od,es,ep,k _ _ (.inr d) e2,c⟩,r⟩
 |own y=>obtain⟨ob,e⟩:=x;exact⟨ob,k _ _ (.inl rfl) e⟩
 |xd fs=>obtain⟨mA,⟨od,es,ep,e,c⟩,r⟩:=x;exact⟨mA,⟨od,es,ep,k _ _ (.inl rfl) e,c⟩,r⟩
 |rng lo hi=>obtain⟨t,u,v,e⟩:=x;exact⟨t,u,v,k _ _ (.inl rfl) e⟩
 |frz ob u ih=>obtain⟨e,q⟩:=x;exact⟨k _ _ (.inl rfl) e,ih q⟩
 |tbl ps=>
  have e:h.get? a=some {cls:=.none,data:=.fields ps}:=x;show h'.get? a=some {cls:=.none,data:=.fields ps};exact k a _ (.inl rfl) e
 |met f y=>
  have e:h.get? a=some (W.methodObj (.ref f) (.ref y)):=x;show h'.get? a=some (W.methodObj (.ref f) (.ref y));exact k a _ (.inl rfl) e
 |ext φ=>obtain⟨p,⟨o,e⟩,st⟩:=x;exact⟨st _ _ p fun o q=>k _ _ (.inl rfl) q,⟨o,k _ _ (.inl rfl) e⟩,st⟩
theorem bX.lt(x:bX P w H h)(e:H a=some o):a<h.objs.size:=(x a o e).lt
theorem bX.fresh(x:bX P w H h)(e:h.objs.size<=a):H a=none:=by
 cases q:H a with
 |none=>rfl
 |some u=>exact absurd (Nat.lt_of_lt_of_le (x.lt q) e) (Nat.lt_irrefl _)
theorem bX.kept(x:bX P w H h)(k:∀b u,h.get? b=some u->h'.get? b=some u):bX P w H h':=fun a o e=>
 (x a o e).stay (fun b u _ q=>k b u q) (fun _ q=>q) fun _ _ q=>q
theorem bX.laid(x:bX P w H h)(k:∀b u,h.get? b=some u->h'.get? b=some u)(hp:h.objs.size<=a)(new:cU P w (upd H a o) h' a o):bX P w (upd H a o) h':=fun b u e=>by
 have hn:=x.fresh hp;by_cases hb:b=a
 ·subst hb;rw[aI]at e;cases e;exact new
 ·rw[aH hb]at e
  exact(x b u e).stay (fun c v _ q=>k c v q) (fun c q=>by rw[aH (aX q hn)];exact q) fun c xs q=>by rw[aH (aX q hn)];exact q
end
def Rd(H:Hp)(a:Addr)(u:HO):Prop:=H a=some u\/ ∃o,H a=some (.frz o u)
theorem Rd.ok{u:HO}(r:Rd H a u)(x:bX P w H h):cU P w H h a u:=by
 rcases r with r|⟨o,r⟩
 ·exact x a u r
 ·obtain⟨_,q⟩:=x a _ r
  exact q
def sK:Option HO->Prop
 |some (.lst _)=>True
 |some (.dK _)=>True
 |some (.dT _)=>True
 |some (.set _ _)=>True
 |some (.ins _ _ _)=>True
 |some (.ext _)=>True
 |_=>False
section
variable{x e:Addr}{o':HO}
theorem bX.write(ok:bX P w H h)(mu:sK (H x))(he:e=x\/ H e=some (.own x))(k:∀b u,b≠e->h.get? b=some u->h'.get? b=some u)(heo:∃u,h'.get? e=some u)
 (new:cU P w (upd H x o') h' x o'):bX P w (upd H x o') h':=fun b u q=>by
 have nown:∀c y,H c=some (.own y)->c≠x:=fun c y r z=>by subst z;rw[r]at mu;exact mu
 have ntup:∀c xs,H c=some (.tup xs)->c≠x:=fun c xs r z=>by subst z;rw[r]at mu;exact mu
 by_cases hb:b=x
 ·subst hb;rw[aI]at q;cases q;exact new
 ·rw[aH hb]at q
  by_cases hbe:b=e
  ·have q':H b=some (.own x):=by
    rcases he with z|z
    ·exact absurd (hbe.trans z) hb
    ·rw[hbe];exact z
   rw[q]at q';cases q';obtain⟨v,hv⟩:=heo;exact⟨v,by rw[hbe];exact hv⟩
  ·refine(ok b u q).stay (fun c v hc r=>k c v ?_ r) (fun c r=>by rw[aH (nown c b r)];exact r) fun c xs r=>by rw[aH (ntup c xs r)];exact r
   rcases hc with rfl|hc
   ·exact hbe
   ·rintro rfl
    rcases he with z|z
    ·exact nown c b hc z
    ·rw[hc]at z;cases z;exact hb rfl
end
structure Un(fs ex:List Addr)(H H':Hp)(h h':Heap):Prop where
 keep:∀b o,h.get? b=some o->H b=none->b∉fs->b∉ex->h'.get? b=some o
 slot:∀b o,h.get? b=some o->H b=none->b∈fs->b∉ex->∃sl,h'.get? b=some {o with slots:=sl}
 free:∀b o,h.get? b=some o->H b=none->b∉ex->H' b=none
 there:∀b o,h.get? b=some o->b∉ex->∃o',h'.get? b=some o'
 tups:∀b xs,H b=some (.tup xs)->H' b=some (.tup xs)
 frzs:∀b o u,H b=some (.frz o u)->H' b=some (.frz o u)
 tbls:∀b ps,H b=some (.tbl ps)->∃more,H' b=some (.tbl (ps++ more))
section
variable{fs fs' ex ex':List Addr}{h1 h2:Heap}{x e:Addr}
theorem Un.any(u:Un fs ex H H1 h h1){ob:Obj}(q:h.get? b=some ob)(n:H b=none)(hx:b∉ex):∃sl,h1.get? b=some {ob with slots:=sl}:=by
 by_cases hb:b∈fs
 ·exact u.slot b ob q n hb hx
 ·exact⟨ob.slots,u.keep b ob q n hb hx⟩
theorem Un.kept(k:∀b u,h.get? b=some u->h'.get? b=some u):Un fs ex H H h h':=
 ⟨fun b ob q _ _ _=>k b ob q,fun b ob q _ _ _=>⟨ob.slots,k b ob q⟩,fun _ _ _ n _=>n,fun b ob q _=>⟨ob,k b ob q⟩,fun _ _ q=>q,fun _ _ _ q=>q,fun _ ps q=>⟨#[],by rw[q];simp⟩⟩
theorem Un.refl:Un fs ex H H h h:=Un.kept fun _ _ q=>q
theorem Un.laid(k:∀b u,h.get? b=some u->h'.get? b=some u)(hp:h.objs.size<=a)(hn:H a=none):Un fs ex H (upd H a o) h h' where
 keep:=fun b u q _ _ _=>k b u q
 slot:=fun b u q _ _ _=>⟨u.slots,k b u q⟩
 free:=fun b u q n _=>by rw[aH (Nat.ne_of_lt (Nat.lt_of_lt_of_le (Heap.lt_size q) hp))];exact n
 there:=fun b u q _=>⟨u,k b u q⟩
 tups:=fun b xs q=>by rw[aH (aX q hn)];exact q
 frzs:=fun b u xs q=>by rw[aH (aX q hn)];exact q
 tbls:=fun b ps q=>⟨#[],by rw[aH (aX q hn),q];simp⟩
theorem Un.write(mu:sK (H x))(he:e=x\/ H e=some (.own x))(k:∀b u,b≠e->h.get? b=some u->h'.get? b=some u)(heo:∃u,h'.get? e=some u):Un fs ex H (upd H x o) h h':=by
 have hx:∀b,H b=none->b≠x:=fun b n z=>by subst z;rw[n]at mu;exact mu
 have hb:∀b,H b=none->b≠e:=fun b n z=>by
  subst z
  rcases he with r|r
  ·exact hx b n r
  ·rw[n]at r;cases r
 have hm:∀b u,H b=some u->¬sK (some u)->b≠x:=fun b u q nm z=>by subst z;rw[q]at mu;exact nm mu
 refine⟨fun b u q n _ _=>k b u (hb b n) q,fun b u q n _ _=>⟨u.slots,k b u (hb b n) q⟩,fun b u q n _=>by rw[aH (hx b n)];exact n,fun b u q _=> ?_,
  fun b xs q=>by rw[aH (hm b _ q fun z=>z)];exact q,fun b u xs q=>by rw[aH (hm b _ q fun z=>z)];exact q,fun b ps q=>⟨#[],by rw[aH (hm b _ q fun z=>z),q];simp⟩⟩
 by_cases hbe:b=e
 ·subst hbe;exact heo
 ·exact⟨u,k b u hbe q⟩
end
noncomputable def wD (h:Heap) (H:Hp):List Addr:=(List.range h.objs.size).filter fun a=>(H a).isSome
noncomputable def lF (h:Heap) (H:Hp):Heap:=W.hideAll h (wD h H)
theorem a7s(h:Heap)(H:Hp):(lF h H).objs.size=h.objs.size:=W.hideAll_size _ _
theorem a6C{o:Obj}(e:h.get? b=some o)(n:H b=none):(lF h H).get? b=some o:=
 W.hideAll_get _ e fun hm=>by
  have q:(H b).isSome=true:=(List.mem_filter.mp hm).2;rw[n]at q;simp at q
theorem a6R{o:Obj}(e:(lF h H).get? b=some o):h.get? b=some o/\H b=none:=by
 have e':h.get? b=some o:=W.of_hideAll (wD h H) e;refine⟨e',?_⟩
 cases q:H b with
 |none=>rfl
 |some x=>
  have hm:b∈wD h H:=List.mem_filter.mpr ⟨List.mem_range.mpr (Heap.lt_size e'),by simp[q]⟩;have z:(lF h H).get? b=none:=W.hideAll_none (wD h H) hm;rw[z]at e;cases e
noncomputable def a5a (g h:Heap) (L:Addr):List (Addr×Obj):=(List.range h.objs.size).filterMap fun a=>if a=L\/ (g.get? a).isSome=true then none else(h.get? a).map fun o=>(a,o)
noncomputable def cH (g h:Heap) (L d:Addr):List (Addr×Obj):=(a5a g h L).filter fun p=>decide (p.1≠d)
structure Mod(K:Fg)(mg:Str->Option Value)(af:Heap):Prop where
 kin:K.In af
 glob:af.Ns mainGlobals mg
 blt:∃mb,af.Ns builtinsNs mb/\∀x:Str,x≠ "__name__" ->mb x=bootBuiltins x
 nolimit:af.NoLimit
structure Cx where
 prog:Program
 w:World
 K:Fg
 mg:Str->Option Value
 base:Heap
 A:Around
 N:List Str
 s₀:Shared
 H₀:Hp
 env:Env
 outer:List Env
 stack:List Env
 ex:List Addr
 fn:Str->Bool
 calm:Bool
 pn:List (Addr×Obj)
 xe:Value->Shared->Prop
variable{X:Cx}
def gH(l:List Env):List Addr:=l.filterMap (·.frame)
abbrev Cx.fs(X:Cx):List Addr:=gH X.outer
def xQ(sc:Scope)(x:Str):Prop:=sc.names.lookup x=some .local\/ sc.names.lookup x=some .cell\/ sc.names.lookup x=some .free
def tN(sc:Scope)(x:Str):Prop:=sc.names.lookup x=some .local\/ sc.names.lookup x=some .cell
def Look(env:Env)(h:Heap)(m:Str->Option Value)(x:Str)(u:Value):Prop:=
 (env.kindOf x=some .local/\m x=some u)\/ ((env.kindOf x=some .cell\/ env.kindOf x=some .free)/\∃c,env.cells.lookup x=some c/\h.IsCell c (some u))
structure Cx.Ok(X:Cx):Prop where
 mod:Mod X.K X.mg X.base
 kind:X.env.scope.kind= .function
 glob:X.env.globals=mainGlobals
 blt:X.env.builtins=builtinsNs
 above:X.s₀.heap.objs.size<=X.env.locals
 inj:∀x y c,X.env.cells.lookup x=some c->X.env.cells.lookup y=some c->x=y
 has:∀x,(X.env.kindOf x=some .cell\/ X.env.kindOf x=some .free)->∃c,X.env.cells.lookup x=some c
 cab:∀x c,X.fn x=true->X.env.cells.lookup x=some c->X.s₀.heap.objs.size<=c
 hd:X.calm=true->X.A.handled=none
 frames:X.A.frames=some X.stack
 stk:X.stack=X.outer\/ (X.stack=X.env::X.outer/\X.env.frame=some X.env.locals)
 exf:∀b∈X.ex,b≠X.env.locals/\∀x c,X.env.cells.lookup x=some c->c≠b
 bs:∀b o,X.base.get? b=some o->X.s₀.heap.get? b=some o/\X.H₀ b=none
 bsz:X.base.objs.size<=X.s₀.heap.objs.size
 noex:∀b o,X.base.get? b=some o->b∉X.ex
 exfs:∀b∈X.ex,b∉X.fs
 funs:X.s₀.heap.FunFrames X.base X.outer
 frf:∀b∈X.fs,X.H₀ b=none
structure aC(X:Cx)(ae:List (Addr×Obj))(σ:List (Option V))(H:Hp)(s:Shared):Prop where
 ok:X.Ok
 os:s.os=X.s₀.os
 bare:AllBare s.gens
 base:Un X.fs X.ex X.H₀ H X.s₀.heap s.heap
 loc:∃m,s.heap.Ns X.env.locals m/\∀(i:Nat) (x:Str) (v:V),X.N[i]?=some x->σ[i]?=some (some v)->xQ X.env.scope x->∃u,aZ v u/\Look X.env s.heap m x u
 cell:∀x c,X.env.cells.lookup x=some c->∃v,s.heap.IsCell c v
 free:H X.env.locals=none
 freeC:∀x c,X.env.cells.lookup x=some c->H c=none
 pin:∀p∈X.pn++ ae,s.heap.get? p.1=some p.2/\H p.1=none/\p.1≠X.env.locals/\p.1∉X.fs/\∀v,p.2.data≠ .cell v
 hok:bX X.prog X.w H s.heap
 len:σ.length=X.N.length
section
variable{σ:List (Option V)}{s:Shared}
theorem Cx.Ok.nofr(ok:X.Ok){o:Obj}(e:X.base.get? b=some o):b∉X.fs:=fun hb=>by
 have:=(ok.funs.mem hb).1;rw[e]at this;cases this
theorem aC.bs(I:aC X ae σ H s):∀b o,X.base.get? b=some o->s.heap.get? b=some o/\H b=none:=fun b o e=>
 ⟨I.base.keep b o (I.ok.bs b o e).1 (I.ok.bs b o e).2 (I.ok.nofr e) (I.ok.noex b o e),I.base.free b o (I.ok.bs b o e).1 (I.ok.bs b o e).2 (I.ok.noex b o e)⟩
theorem aC.bk(I:aC X ae σ H s):∀b o,X.base.get? b=some o->s.heap.get? b=some o:=fun b o e=>(I.bs b o e).1
theorem aC.mod(I:aC X ae σ H s):Mod X.K X.mg X.base:=I.ok.mod
theorem aC.kIn(I:aC X ae σ H s):X.K.In s.heap:=I.ok.mod.kin.keeps I.bk
theorem aC.lt(I:aC X ae σ H s):X.env.locals<s.heap.objs.size:=let ⟨_,hn,_⟩:=I.loc;hn.lt
theorem aC.sz(I:aC X ae σ H s):X.s₀.heap.objs.size<=s.heap.objs.size:=Nat.le_trans I.ok.above (Nat.le_of_lt I.lt)
theorem aC.nofs(I:aC X ae σ H s)(h:s.heap.objs.size<=a):a∉X.fs:=fun hb=>by
 obtain⟨_,o,ho,_⟩:=I.ok.funs.mem hb;exact absurd (Nat.lt_of_lt_of_le (Heap.lt_size ho) (Nat.le_trans I.sz h)) (Nat.lt_irrefl _)
theorem aC.cne(I:aC X ae σ H s):∀x c,X.env.cells.lookup x=some c->c≠X.env.locals:=fun x c e z=>by
 obtain⟨v,o,ho,hd⟩:=I.cell x c e;obtain⟨m,⟨o',es,ep,ho',hd',_⟩,_⟩:=I.loc;rw[z,ho']at ho;cases ho;rw[hd']at hd;cases hd
theorem aC.funs(I:aC X ae σ H s):s.heap.FunFrames X.base X.outer:=by
 have all:∀(l:List Env),(∀b∈gH l,b∈X.fs)->X.s₀.heap.FunFrames X.base l->s.heap.FunFrames X.base l:=by
  intro l
  induction l with
  |nil=>intro _ _;trivial
  |cons env r ih=>
   intro hs hl;obtain⟨hk,⟨L,o,hf,hn,ho,hd⟩,hr⟩:=hl;have hL:L∈X.fs:=hs L (by unfold gH;rw[List.filterMap_cons,hf];exact List.mem_cons_self);obtain⟨sl,e⟩:=I.base.slot L o ho (I.ok.frf L hL) hL fun z=>I.ok.exfs L z hL
   exact⟨hk,⟨L,_,hf,hn,e,hd⟩,ih (fun b hb=>hs b (by unfold gH;rw[List.filterMap_cons,hf];exact List.mem_cons_of_mem _ hb)) hr⟩
 exact all X.outer (fun _ hb=>hb) I.ok.funs
theorem aC.stack(I:aC X ae σ H s):s.heap.FunFrames X.base X.stack:=by
 rcases I.ok.stk with e|⟨e,hf⟩
 ·rw[e];exact I.funs
 ·rw[e]
  obtain⟨m,hn,_⟩:=I.loc;refine .cons (by rw[I.ok.kind];decide) hf hn ?_ I.funs;exact Heap.get?_none_of_le (Nat.le_trans I.ok.bsz I.ok.above)
theorem aC.stkSub(I:aC X ae σ H s):∀b∈gH X.stack,b∈X.env.locals::X.fs:=fun b hb=>by
 rcases I.ok.stk with e|⟨e,hf⟩
 ·rw[e]at hb;exact List.mem_cons_of_mem _ hb
 ·rw[e]at hb
  unfold gH at hb;rw[List.filterMap_cons,hf]at hb;exact hb
theorem aC.stkFree(I:aC X ae σ H s):∀b∈gH X.stack,H b=none:=fun b hb=>by
 rcases List.mem_cons.mp (I.stkSub b hb)with e|hb
 ·rw[e];exact I.free
 ·obtain⟨_,o,ho,_⟩:=I.ok.funs.mem hb
  exact I.base.free b o ho (I.ok.frf b hb) fun z=>I.ok.exfs b z hb
theorem aC.step{g':Array GenState}{t':Nat}{d':Drawn}{ch:List Addr}(I:aC X ae σ H s)
 (hch:∀b∈ch,(b∈X.ex\/ X.s₀.heap.objs.size<=b)/\b≠X.env.locals/\(∀x c,X.env.cells.lookup x=some c->c≠b)/\∀p∈X.pn++ ae,p.1≠b)
 (keep:∀b o,b≠X.env.locals->b∉X.fs->b∉ch->s.heap.get? b=some o->H b=none->h'.get? b=some o)
 (slot:∀b o,b≠X.env.locals->b∈X.fs->b∉ch->s.heap.get? b=some o->H b=none->∃sl,h'.get? b=some {o with slots:=sl})(free:∀b o,b∉ch->s.heap.get? b=some o->H b=none->H' b=none)
 (there:∀b o,b∉ch->s.heap.get? b=some o->∃o',h'.get? b=some o')
 (tups:∀b xs,H b=some (.tup xs)->H' b=some (.tup xs))(frzs:∀b o u,H b=some (.frz o u)->H' b=some (.frz o u))(tbls:∀b ps,H b=some (.tbl ps)->∃more,H' b=some (.tbl (ps++ more)))
 (ns:∀m,s.heap.Ns X.env.locals m->h'.Ns X.env.locals m)(hok:bX X.prog X.w H' h')(hg:AllBare g'):
 aC X ae σ H' {s with heap:=h',gens:=g',drawn:=d',toks:=t'}:=by
 have neL:∀b o,X.s₀.heap.get? b=some o->b≠X.env.locals:=fun b o e=>Nat.ne_of_lt (Nat.lt_of_lt_of_le (Heap.lt_size e) I.ok.above)
 have neC:∀b o,X.s₀.heap.get? b=some o->b∉X.ex->b∉ch:=fun b o e hx hb=>by
  rcases(hch b hb).1 with z|z
  ·exact hx z
  ·exact absurd (Nat.lt_of_lt_of_le (Heap.lt_size e) z) (Nat.lt_irrefl _)
 have bE:∀x c,X.env.cells.lookup x=some c->∀v,s.heap.IsCell c v->h'.IsCell c v:=fun x c e v ⟨o,ho,hd⟩=>by
  have nch:c∉ch:=fun z=>(hch c z).2.2.1 x c e rfl
  by_cases hc:c∈X.fs
  ·obtain⟨sl,q⟩:=slot c o (I.cne x c e) hc nch ho (I.freeC x c e)
   exact⟨_,q,hd⟩
  ·exact⟨o,keep c o (I.cne x c e) hc nch ho (I.freeC x c e),hd⟩
 refine⟨I.ok,I.os,hg,⟨fun b o e n hb hx=> ?_,fun b o e n hb hx=> ?_,fun b o e n hx=> ?_,fun b o e hx=> ?_,fun b xs e=>tups b xs (I.base.tups b xs e),fun b o xs e=>frzs b o xs (I.base.frzs b o xs e),fun b ps e=> ?_⟩,?_,fun x c e=> ?_,?_,fun x c e=> ?_,fun p hp=> ?_,hok,I.len⟩
 ·exact keep b o (neL b o e) hb (neC b o e hx) (I.base.keep b o e n hb hx) (I.base.free b o e n hx)
 ·obtain⟨sl,e1⟩:=I.base.slot b o e n hb hx
  obtain⟨sl',e2⟩:=slot b _ (neL b o e) hb (neC b o e hx) e1 (I.base.free b o e n hx);exact⟨sl',e2⟩
 ·obtain⟨o',e1⟩:=I.base.there b o e hx
  exact free b o' (neC b o e hx) e1 (I.base.free b o e n hx)
 ·obtain⟨o',e1⟩:=I.base.there b o e hx
  exact there b o' (neC b o e hx) e1
 ·obtain⟨m1,e1⟩:=I.base.tbls b ps e
  obtain⟨m2,e2⟩:=tbls b _ e1;exact⟨m1++ m2,by rw[e2,Array.append_assoc]⟩
 ·obtain⟨m,hn,hl⟩:=I.loc
  refine⟨m,ns m hn,fun i x v e1 e2 e3=> ?_⟩;obtain⟨u,r,l⟩:=hl i x v e1 e2 e3;refine⟨u,r,?_⟩
  rcases l with l|⟨k,c,e,z⟩
  ·exact .inl l
  ·exact .inr ⟨k,c,e,bE x c e _ z⟩
 ·obtain⟨v,z⟩:=I.cell x c e
  exact⟨v,bE x c e v z⟩
 ·obtain⟨m,⟨o,_,_,ho,_⟩,_⟩:=I.loc
  exact free _ o (fun z=>(hch _ z).2.1 rfl) ho I.free
 ·obtain⟨v,o,ho,hd⟩:=I.cell x c e
  exact free c o (fun z=>(hch c z).2.2.1 x c e rfl) ho (I.freeC x c e)
 ·obtain⟨e,n,ne,nf,d⟩:=I.pin p hp
  have nch:p.1∉ch:=fun z=>(hch p.1 z).2.2.2 p hp rfl
  exact⟨keep p.1 p.2 ne nf nch e n,free p.1 p.2 nch e n,ne,nf,d⟩
theorem aC.un{t':Nat}(I:aC X ae σ H s)(u:Un X.fs [] H H' s.heap h')(hok:bX X.prog X.w H' h'):aC X ae σ H' {s with heap:=h',toks:=t'}:=by
 obtain⟨m,⟨o,es,ep,ho,r⟩,_⟩:=id I.loc;obtain⟨sl,hL⟩:=u.any ho I.free (by simp)
 exact I.step (g':=s.gens) (d':=s.drawn) (ch:=[]) (fun _ z=>nomatch z) (fun b o _ hb _ e n=>u.keep b o e n hb (by simp)) (fun b o _ hb _ e n=>u.slot b o e n hb (by simp)) (fun b o _ e n=>u.free b o e n (by simp)) (fun b o _ e=>u.there b o e (by simp)) u.tups u.frzs u.tbls (fun m' hm=>by
  obtain⟨o',es',ep',ho',r'⟩:=hm;rw[ho]at ho';cases ho'
  exact⟨_,es',ep',hL,r'⟩) hok I.bare
theorem aC.call{g':Array GenState}{t':Nat}{d':Drawn}{ch:List Addr}(I:aC X ae σ H s)(u:Un (gH X.stack) ch H H' s.heap h')(hok:bX X.prog X.w H' h')(hg:AllBare g')
 (hch:∀b∈ch,(b∈X.ex\/ X.s₀.heap.objs.size<=b)/\b≠X.env.locals/\(∀x c,X.env.cells.lookup x=some c->c≠b)/\∀p∈X.pn++ ae,p.1≠b):
 aC X ae σ H' {s with heap:=h',gens:=g',drawn:=d',toks:=t'}:=by
 obtain⟨m,⟨o,es,ep,ho,r⟩,_⟩:=id I.loc;obtain⟨sl,hL⟩:=u.any ho I.free fun z=>(hch _ z).2.1 rfl
 exact I.step (ch:=ch) hch (fun b o hL hb hc e n=>u.keep b o e n (fun z=>(List.mem_cons.mp (I.stkSub b z)).elim hL hb) hc) (fun b o _ _ hc e n=>u.any e n hc) (fun b o hc e n=>u.free b o e n hc) (fun b o hc e=>u.there b o e hc) u.tups u.frzs u.tbls (fun m' hm=>by
  obtain⟨o',es',ep',ho',r'⟩:=hm;rw[ho]at ho';cases ho'
  exact⟨_,es',ep',hL,r'⟩) hok hg
theorem aC.turned{t':Nat}{it:Addr}(I:aC X ae σ H s)(k:∀b o,b≠it->s.heap.get? b=some o->h'.get? b=some o)(hn:H it=none)(hL:it≠X.env.locals)
 (h1:it∈X.ex\/ X.s₀.heap.objs.size<=it)(h2:∀x c,X.env.cells.lookup x=some c->c≠it)(h3:∀p∈X.pn++ ae,p.1≠it):aC X ae σ H {s with heap:=h',toks:=t'}:=by
 have nit:∀b u,H b=some u->b≠it:=fun b u e z=>by rw[z,hn]at e;cases e
 refine I.step (g':=s.gens) (d':=s.drawn) (ch:=[it]) (fun b hb=> ?_) (fun b o _ _ hc e _=>k b o (fun z=>hc (by simp[z])) e) (fun b o _ _ hc e _=>⟨o.slots,k b o (fun z=>hc (by simp[z])) e⟩) (fun _ _ _ _ n=>n)
  (fun b o hc e=>⟨o,k b o (fun z=>hc (by simp[z])) e⟩) (fun _ _ e=>e) (fun _ _ _ e=>e) (fun b ps e=>⟨#[],by rw[e];simp⟩) (fun m hm=> ?_) (fun b u e=> ?_) I.bare
 ·have e:b=it:=by simpa using hb
  subst e;exact⟨h1,hL,h2,h3⟩
 ·obtain⟨o,es,ep,ho,r⟩:=hm
  exact⟨o,es,ep,k _ o (Ne.symm hL) ho,r⟩
 ·refine(I.hok b u e).stay (fun c v hc q=>k c v ?_ q) (fun _ q=>q) fun _ _ q=>q
  rcases hc with z|z
  ·rw[z];exact nit b u e
  ·exact nit c _ z
theorem aC.tok(I:aC X ae σ H s)(t:Nat):aC X ae σ H {s with toks:=t}:=I.un (h':=s.heap) (t':=t) Un.refl I.hok
theorem aC.kept{t':Nat}(I:aC X ae σ H s)(k:∀b u,s.heap.get? b=some u->h'.get? b=some u):aC X ae σ H {s with heap:=h',toks:=t'}:=I.un (Un.kept k) (I.hok.kept k)
theorem aC.laid{t':Nat}(I:aC X ae σ H s)(k:∀b u,s.heap.get? b=some u->h'.get? b=some u)(hp:s.heap.objs.size<=a)(new:cU X.prog X.w (upd H a o) h' a o):
 aC X ae σ (upd H a o) {s with heap:=h',toks:=t'}:=I.un (Un.laid k hp (I.hok.fresh hp)) (I.hok.laid k hp new)
theorem aC.write{x e:Addr}{t':Nat}(I:aC X ae σ H s)(mu:sK (H x))(he:e=x\/ H e=some (.own x))(k:∀b u,b≠e->s.heap.get? b=some u->h'.get? b=some u)(heo:∃u,h'.get? e=some u)
 (new:cU X.prog X.w (upd H x o) h' x o):aC X ae σ (upd H x o) {s with heap:=h',toks:=t'}:=I.un (Un.write mu he k heo) (I.hok.write mu he k heo new)
theorem aC.pins_of{pins':List (Addr×Obj)}(I:aC X ae σ H s)(h:∀p∈pins',s.heap.get? p.1=some p.2/\H p.1=none/\p.1≠X.env.locals/\p.1∉X.fs/\∀v,p.2.data≠ .cell v):aC X pins' σ H s:=
 ⟨I.ok,I.os,I.bare,I.base,I.loc,I.cell,I.free,I.freeC,fun p hp=>(List.mem_append.mp hp).elim (fun z=>I.pin p (List.mem_append_left _ z)) (h p),I.hok,I.len⟩
theorem a2R(hN:N.Nodup)(a:N[i]?=some x)(b:N[j]?=some x):i=j:=by
 obtain⟨h1,e1⟩:=List.getElem?_eq_some_iff.mp a;obtain⟨h2,e2⟩:=List.getElem?_eq_some_iff.mp b;exact(List.getElem_inj hN).mp (e1.trans e2.symm)
theorem a2r{M:Model}{v:V}{Q:Unit->Shared->Prop}(I:aC X ae σ H s)(hN:X.N.Nodup)(hi:X.N[i]?=some x)(hx:tN X.env.scope x)(r:aZ v u)
 (h:∀s',aC X ae (σ.set i (some v)) H s'->(∃a,Heap.SameBut a s.heap s'.heap/\(a=X.env.locals\/ X.env.cells.lookup x=some a))->Q () s')(hf:X.fn x=true\/ X.env.scope.names.lookup x=some .local:=by first|exact .inl rfl|exact .inr rfl|assumption):wpAny M A (storeName X.env x u) Q E s:=by
 obtain⟨m,hn,hl⟩:=id I.loc
 have hcls:(X.env.scope.kind== .class||(X.env.scope.kind== .module&&X.env.locals !=X.env.globals))=false:=by rw[I.ok.kind];rfl
 have hiσ:i<σ.length:=by rw[I.len];exact(List.getElem?_eq_some_iff.mp hi).1
 have cne:=I.cne;have tracked:∀{a:Addr} {h':Heap},(∃o,s.heap.get? a=some o/\H a=none)->Heap.SameBut a s.heap h'->bX X.prog X.w H h':=fun{a h'} ha hs b ob e=>by
  obtain⟨_,_,hfree⟩:=ha;refine(I.hok b ob e).stay (fun c w' hc q=>(hs.2 c ?_).trans q) (fun _ q=>q) fun _ _ q=>q
  rintro rfl
  rcases hc with rfl|hc
  ·rw[hfree]at e;cases e
  ·rw[hfree]at hc;cases hc
 rcases hx with hk|hk
 ·refine wpAny_storeName_local hk hn (fun h' hn' hs=> ?_) hcls
  obtain⟨oL,_,_,hoL,_⟩:=id hn;refine h _ ⟨I.ok,I.os,I.bare,⟨fun b o e n hb hx=> ?_,fun b o e n hb hx=> ?_,I.base.free,fun b o e hx=> ?_,I.base.tups,I.base.frzs,I.base.tbls⟩,⟨_,hn',fun j y v' e1 e2 e3=> ?_⟩,fun y c e=> ?_,I.free,I.freeC,fun p hp=> ?_,tracked ⟨oL,hoL,I.free⟩ hs,by simpa using I.len⟩ ⟨_,hs,.inl rfl⟩
  ·exact(hs.2 b (Nat.ne_of_lt (Nat.lt_of_lt_of_le (Heap.lt_size e) I.ok.above))).trans (I.base.keep b o e n hb hx)
  ·obtain⟨sl,e1⟩:=I.base.slot b o e n hb hx
   exact⟨sl,(hs.2 b (Nat.ne_of_lt (Nat.lt_of_lt_of_le (Heap.lt_size e) I.ok.above))).trans e1⟩
  ·obtain⟨o',e1⟩:=I.base.there b o e hx
   exact⟨o',(hs.2 b (Nat.ne_of_lt (Nat.lt_of_lt_of_le (Heap.lt_size e) I.ok.above))).trans e1⟩
  ·by_cases hj:j=i
   ·subst hj
    rw[hi]at e1;cases e1;rw[List.getElem?_set_self hiσ]at e2;cases e2;exact⟨u,r,.inl ⟨hk,by simp⟩⟩
   ·rw[List.getElem?_set_ne (Ne.symm hj)]at e2
    obtain⟨u',r',q⟩:=hl j y v' e1 e2 e3;refine⟨u',r',?_⟩
    rcases q with⟨k,e⟩|⟨k,c,e,z⟩
    ·refine .inl ⟨k,?_⟩
     have:y≠x:=fun e=>hj (a2R hN e1 (e▸hi))
     simp[this,e]
    ·exact .inr ⟨k,c,e,z.sameBut hs (cne y c e)⟩
  ·obtain⟨w',z⟩:=I.cell y c e
   exact⟨w',z.sameBut hs (cne y c e)⟩
  ·obtain⟨e,n,ne,nf,d⟩:=I.pin p hp
   exact⟨(hs.2 p.1 ne).trans e,n,ne,nf,d⟩
 ·have hfn:X.fn x=true:=by
   rcases hf with z|z
   ·exact z
   ·rw[z]at hk;cases hk
  obtain⟨c,hc⟩:=I.ok.has x (.inl hk);obtain⟨w',z⟩:=I.cell x c hc;refine wpAny_storeName_cell I.ok.kind hk hc z (fun h' hc' hs=> ?_);obtain⟨oc,hoc,hocd⟩:=id z;refine h {s with heap:=h'} ⟨I.ok,I.os,I.bare,⟨fun b o e n hb hx=> ?_,fun b o e n hb hx=> ?_,I.base.free,fun b o e hx=> ?_,I.base.tups,I.base.frzs,I.base.tbls⟩,⟨m,hn.sameBut hs (Ne.symm (cne x c hc)),fun j y v' e1 e2 e3=> ?_⟩,fun y c' e=> ?_,I.free,I.freeC,fun p hp=> ?_,tracked ⟨oc,hoc,I.freeC x c hc⟩ hs,by simpa using I.len⟩ ⟨c,hs,.inr hc⟩
  ·exact(hs.2 b (Nat.ne_of_lt (Nat.lt_of_lt_of_le (Heap.lt_size e) (I.ok.cab x c hfn hc)))).trans (I.base.keep b o e n hb hx)
  ·obtain⟨sl,e1⟩:=I.base.slot b o e n hb hx
   exact⟨sl,(hs.2 b (Nat.ne_of_lt (Nat.lt_of_lt_of_le (Heap.lt_size e) (I.ok.cab x c hfn hc)))).trans e1⟩
  ·obtain⟨o',e1⟩:=I.base.there b o e hx
   exact⟨o',(hs.2 b (Nat.ne_of_lt (Nat.lt_of_lt_of_le (Heap.lt_size e) (I.ok.cab x c hfn hc)))).trans e1⟩
  ·by_cases hj:j=i
   ·subst hj
    rw[hi]at e1;cases e1;rw[List.getElem?_set_self hiσ]at e2;cases e2;exact⟨u,r,.inr ⟨.inl hk,c,hc,hc'⟩⟩
   ·rw[List.getElem?_set_ne (Ne.symm hj)]at e2
    obtain⟨u',r',q⟩:=hl j y v' e1 e2 e3;refine⟨u',r',?_⟩
    rcases q with q|⟨k,c',e,z'⟩
    ·exact .inl q
    ·refine .inr ⟨k,c',e,z'.sameBut hs ?_⟩
     rintro rfl;exact hj (a2R hN e1 (I.ok.inj _ _ _ e hc▸hi))
  ·by_cases hcc:c'=c
   ·subst hcc;exact⟨_,hc'⟩
   ·obtain⟨w2,z2⟩:=I.cell y c' e
    exact⟨w2,z2.sameBut hs hcc⟩
  ·obtain⟨e,n,ne,nf,d⟩:=I.pin p hp
   refine⟨(hs.2 p.1 ?_).trans e,n,ne,nf,d⟩;intro q;rw[q,hoc]at e;have q':oc=p.2:=Option.some.inj e;exact d w' (by rw[<- q'];exact hocd)
theorem a2d{M:Model}{v:V}{Q:Unit->Shared->Prop}(I:aC X ae σ H s)(hN:X.N.Nodup)(hi:X.N[i]?=some x)(hx:tN X.env.scope x)(r:aZ v u)
 (h:∀s',aC X ae (σ.set i (some v)) H s'->Q () s')(hf:X.fn x=true\/ X.env.scope.names.lookup x=some .local:=by first|exact .inl rfl|exact .inr rfl|assumption):wpAny M A (storeName X.env x u) Q E s:=
 a2r I hN hi hx r (fun s' I' _=>h s' I') hf
theorem aC.call'{ch:List Addr}(I:aC X ae σ H s)(ho:s'.os=s.os)(u:Un (gH X.stack) ch H H' s.heap s'.heap)(hok:bX X.prog X.w H' s'.heap)(hg:AllBare s'.gens)
 (hch:∀b∈ch,(b∈X.ex\/ X.s₀.heap.objs.size<=b)/\b≠X.env.locals/\(∀x c,X.env.cells.lookup x=some c->c≠b)/\∀p∈X.pn++ ae,p.1≠b):aC X ae σ H' s':=by
 obtain⟨h',g',d',t',o'⟩:=s';have e:o'=s.os:=ho;subst e;exact I.call (g':=g') (t':=t') (d':=d') u hok hg hch
end
abbrev XK:=Value->Option Addr->Hp->Prop
abbrev St:=List (Option V)
abbrev VK:=V->Hp->Prop
abbrev TE:=St->Hp->VK->Prop
abbrev TT:=St->Hp->(Bool->Hp->Prop)->Prop
abbrev TA:=St->Hp->(List V->Hp->Prop)->Prop
structure kB where
 nx:St->Hp->Prop
 rt:VK
 bk:St->Hp->Prop:=fun _ _=>False
 ct:St->Hp->Prop:=fun _ _=>False
abbrev TS:=kB->St->Hp->Prop
variable{ta tb te tl:TE}{σ:St}
def EP(X:Cx)(ae:List (Addr×Obj))(σ:St)(Q:VK)(u:Value)(s':Shared):Prop:=∃v H',aC X ae σ H' s'/\aZ v u/\Q v H'
def TP(X:Cx)(ae:List (Addr×Obj))(σ:St)(Q:Bool->Hp->Prop)(b:Bool)(s':Shared):Prop:=∃H',aC X ae σ H' s'/\Q b H'
def AP(X:Cx)(ae:List (Addr×Obj))(σ:St)(Q:List V->Hp->Prop)(us:List Value)(s':Shared):Prop:=∃vs H',aC X ae σ H' s'/\aW vs us/\Q vs H'
def SP(X:Cx)(ae:List (Addr×Obj))(D:kB)(f:Flow)(s':Shared):Prop:=
 match f with
 | .next=>∃σ' H',aC X ae σ' H' s'/\D.nx σ' H'
 | .brk=>∃σ' H',aC X ae σ' H' s'/\D.bk σ' H'
 | .cont=>∃σ' H',aC X ae σ' H' s'/\D.ct σ' H'
 | .ret u=>∃v σ' H',aC X ae σ' H' s'/\aZ v u/\D.rt v H'
def PE(X:Cx)(e:Expr)(t:TE):Prop:=
 ∀(ae:List (Addr×Obj)) (s:Shared) (σ:St) (H:Hp) (Q:VK),aC X ae σ H s->t σ H Q->wpAny (model X.prog X.w) X.A (eval e X.env) (EP X ae σ Q) X.xe s
def PT(X:Cx)(e:Expr)(t:TT):Prop:=
 ∀(ae:List (Addr×Obj)) (s:Shared) (σ:St) (H:Hp) (Q:Bool->Hp->Prop),aC X ae σ H s->t σ H Q->wpAny (model X.prog X.w) X.A (isTrue e X.env (eval e X.env)) (TP X ae σ Q) X.xe s
def PW(X:Cx)(e:Expr)(t:TT):Prop:=
 ∀(whole:Sem Value) (ae:List (Addr×Obj)) (s:Shared) (σ:St) (H:Hp) (Q:Bool->Hp->Prop),aC X ae σ H s->t σ H Q->wpAny (model X.prog X.w) X.A (isTrue e X.env whole) (TP X ae σ Q) X.xe s
theorem PW.pt{t:TT}(h:PW X e t):PT X e t:=h _
def PA(X:Cx)(es:List Expr)(t:TA):Prop:=
 ∀(pos:Pos) (ae:List (Addr×Obj)) (s:Shared) (σ:St) (H:Hp) (Q:List V->Hp->Prop),aC X ae σ H s->t σ H Q->wpAny (model X.prog X.w) X.A (spliced (backTo pos (starEach es X.env))) (AP X ae σ Q) X.xe s
def PS(X:Cx)(st:Stmt)(t:TS):Prop:=
 ∀(ae:List (Addr×Obj)) (s:Shared) (σ:St) (H:Hp) (D:kB),aC X ae σ H s->t D σ H->wpAny (model X.prog X.w) X.A (exec st X.env) (SP X ae D) X.xe s
def eV(X:Cx)(st:List Stmt)(t:TS):Prop:=
 ∀(ae:List (Addr×Obj)) (s:Shared) (σ:St) (H:Hp) (D:kB),aC X ae σ H s->t D σ H->wpAny (model X.prog X.w) X.A (execs st X.env) (SP X ae D) X.xe s
theorem aT{α:Type}{t:Sem α}{Q Q':α->Shared->Prop}{M:Model}{s:Shared}(h:wpAny M A t Q E s)(hQ:∀a s,Q a s->Q' a s):wpAny M A t Q' E s:=wpAny_mono h hQ fun _ _ x=>x
section
theorem bin{a b:Expr}(ha:PE X a ta)(hb:PE X b tb){s:Shared}{R:V->V->Hp->Prop}(I:aC X ae σ H s)(h:ta σ H fun x H1=>tb σ H1 fun y H2=>R x y H2)
 {α:Type}{Q:α->Shared->Prop}{f:Value->Value->Sem α}
 (hf:∀v u s2 x y H2,aC X ae σ H2 s2->aZ x v->aZ y u->R x y H2->wpAny (model X.prog X.w) X.A (f v u) Q X.xe s2):
 wpAny (model X.prog X.w) X.A (eval a X.env) (fun v s₁=>wpAny (model X.prog X.w) X.A (eval b X.env) (fun u s₂=>wpAny (model X.prog X.w) X.A (f v u) Q X.xe s₂) X.xe s₁) X.xe s:=by
 refine aT (ha ae s σ H _ I h) ?_;rintro v s1 ⟨x,H1,I1,r1,q1⟩;refine ?_;refine aT (hb ae s1 σ H1 _ I1 q1) ?_;rintro u s2 ⟨y,H2,I2,r2,q2⟩;refine ?_;exact hf v u s2 x y H2 I2 r1 r2 q2
def uW(i:Nat):TE:=fun σ H Q=>∃v,σ[i]?=some (some v)/\Q v H
def tC(v:V):TE:=fun _ H Q=>Q v H
theorem a2q(hN:X.N[i]?=some x)(hv:xQ X.env.scope x)(hd:(x==("__debug__":Str))=false:=by decide)(hcd:(x==("__classdict__":Str))=false:=by decide):PE X (.Name x pos) (uW i):=by
 intro ae s σ H Q I h;obtain⟨v,e,h⟩:=h;obtain⟨m,hn,hl⟩:=I.loc;obtain⟨u,r,l⟩:=hl i x v hN e hv;have fin:EP X ae σ Q u s:=⟨v,H,I,r,h⟩
 rcases l with⟨hk,hm⟩|⟨hk,c,hc,hcell⟩
 ·exact wpAny_Name (wpAny_loadName_local I.ok.kind hk hn hm fin) hd
 ·rcases hk with hk|hk
  ·exact wpAny_Name (wpAny_loadName_cell I.ok.kind hk hc hcell fin) hd
  ·exact wpAny_Name (wpAny_loadName_free I.ok.kind hk hc hcell fin hcd) hd
theorem bB{i j pos}:PE X (.Constant (.int i) j pos) (tC (.int i)):=fun _ _ _ H _ I h=>wpAny_Constant_int ⟨.int i,H,I.tok _,⟨_,rfl⟩,h⟩
theorem oE{b j pos}:PE X (.Constant (.bool b) j pos) (tC (.bl b)):=fun _ _ _ H _ I h=>Constant_bool ⟨.bl b,H,I,rfl,h⟩
theorem gT{j pos}:PE X (.Constant .none j pos) (tC .non):=fun _ _ _ H _ I h=>Constant_none ⟨.non,H,I,rfl,h⟩
theorem bT{x j pos}:PE X (.Constant (.str x) j pos) (tC (.str x)):=fun _ _ _ H _ I h=>Calls.Constant_str ⟨.str x,H,I.tok _,⟨_,rfl⟩,h⟩
def Gl(X:Cx)(x:Str):Prop:=X.env.kindOf x=some .globalImplicit
theorem wB{s:Shared}(I:aC X ae σ H s)(hg:Gl X x)(hm:X.mg x=some u)(h:Q u s)
 (hd:(x==("__debug__":Str))=false:=by decide):wpAny (model X.prog X.w) X.A (eval (.Name x pos) X.env) Q E s:=
 Calls.Name_function_global I.ok.kind hg (Calls.loadGlobal_global (by rw[I.ok.glob];exact I.mod.glob.keeps I.bk) hm h) hd
theorem xB{s:Shared}(I:aC X ae σ H s)(hg:Gl X x)(hm:X.mg x=none)(hv:bootBuiltins x=some u)(h:Q u s)
 (hn:x≠ "__name__":=by decide)(hd:(x==("__debug__":Str))=false:=by decide):wpAny (model X.prog X.w) X.A (eval (.Name x pos) X.env) Q E s:=by
 obtain⟨mb,h1,h2⟩:=I.mod.blt;exact Calls.Name_function_global I.ok.kind hg (Calls.loadGlobal_builtin (by rw[I.ok.glob];exact I.mod.glob.keeps I.bk) hm (by rw[I.ok.blt];exact h1.keeps I.bk) ((h2 x hn).trans hv) h) hd
theorem a0x{v:V}(hg:Gl X x)(hm:X.mg x=some u)(r:aZ v u)(hd:(x==("__debug__":Str))=false:=by decide):PE X (.Name x pos) (tC v):=
 fun _ _ _ H _ I h=>wB I hg hm ⟨v,H,I,r,h⟩ hd
theorem a89{v:V}(hg:Gl X x)(hm:X.mg x=none)(hv:bootBuiltins x=some u)(r:aZ v u)(hn:x≠ "__name__":=by decide)(hd:(x==("__debug__":Str))=false:=by decide):PE X (.Name x pos) (tC v):=
 fun _ _ _ H _ I h=>xB I hg hm hv ⟨v,H,I,r,h⟩ hn hd
variable{a b:Expr}
def PC(X:Cx)(op:CmpOp)(a b:Expr)(t:TE):Prop:=
 ∀(ae:List (Addr×Obj)) (s:Shared) (σ:St) (H:Hp) (Q:VK),aC X ae σ H s->t σ H Q->
  wpAny (model X.prog X.w) X.A (eval a X.env) (fun v s₁=>wpAny (model X.prog X.w) X.A (eval b X.env) (fun u s₂=>wpAny (model X.prog X.w) X.A (compareOp op v u) (EP X ae σ Q) X.xe s₂) X.xe s₁) X.xe s
theorem a2L(b:Expr){op:CmpOp}(h:op≠ .In)(h2:op≠ .NotIn):behindInMarks op b=false:=by
 have e1:(op==CmpOp.In)=false:=by cases op<;>first|rfl|exact absurd rfl h
 have e2:(op==CmpOp.NotIn)=false:=by cases op<;>first|rfl|exact absurd rfl h2
 cases b<;>simp[behindInMarks,e1,e2]
def tB(t:TE):TT:=fun σ H Q=>t σ H fun x H1=>∃c,x= .bl c/\Q c H1
theorem yI{op:CmpOp}{t:TE}(h:PC X op a b t)(h1:behindInMarks op b=false:=by first|exact a2L _ (by decide) (by decide)|rfl):PE X (.Compare a [op] [b] pos) t:=fun ae s σ H Q I hw=>wpAny_Compare1 (h ae s σ H Q I hw) h1
theorem iY{op:CmpOp}{t:TE}(h:PC X op a b t)(h1:behindInMarks op b=false:=by first|exact a2L _ (by decide) (by decide)|rfl):PT X (.Compare a [op] [b] pos) (tB t):=by
 intro ae s σ H Q I hw;refine wpAny_isTrue_Compare1 (aT (h ae s σ H _ I hw) fun v s1 h1=>aT h1 fun u s2 h2=>aT h2 ?_) h1;rintro c s3 ⟨x,H1,I1,r1,q1⟩;refine ?_;obtain⟨d,rfl,q⟩:=q1;cases r1;exact wpAny_truthy_bool ⟨H1,I1,q⟩
theorem dH{t:TE}(h:PE X e t)(he:∀whole,isTrue e X.env whole=(do let v<- whole;standAt e.pos;holding [v] (truthy v)):=by intro _;rfl):PT X e (tB t):=by
 intro ae s σ H Q I hw;refine isTrue_plain (aT (h ae s σ H _ I hw) ?_) (he _);rintro v s1 ⟨x,H1,I1,r1,q1⟩;refine ?_;obtain⟨d,rfl,q⟩:=q1;cases r1;exact wpAny_truthy_bool ⟨H1,I1,q⟩
variable{tA tB':TT}{cH:List Expr}
def tAnd(t u:TT):TT:=fun σ H Q=>t σ H fun c H1=>if c=true then u σ H1 Q else Q false H1
def tOr(t u:TT):TT:=fun σ H Q=>t σ H fun c H1=>if c=true then Q true H1 else u σ H1 Q
def tNot(t:TT):TT:=fun σ H Q=>t σ H fun c H1=>Q (!c) H1
theorem oH(ha:PT X a tA):PW X (.BoolOp .And [a] pos) tA:=by
 intro wh ae s σ H Q I h;refine isTrue_and (aT (ha ae s σ H Q I h) fun c s1 e=> ?_)
 cases c with
 |true=>exact isTrue_and_nil e
 |false=>exact e
theorem kE(ha:PT X a tA):PW X (.BoolOp .Or [a] pos) tA:=by
 intro wh ae s σ H Q I h;refine isTrue_or (aT (ha ae s σ H Q I h) fun c s1 e=> ?_)
 cases c with
 |false=>exact isTrue_or_nil e
 |true=>exact e
theorem oP(ha:PT X a tA)(hb:PW X (.BoolOp .And (b::cH) pos) tB'):PW X (.BoolOp .And (a::b::cH) pos) (tAnd tA tB'):=by
 intro wh ae s σ H Q I h;refine isTrue_and (aT (ha ae s σ H _ I h) ?_);rintro c s1 ⟨H1,I1,q1⟩;refine ?_
 cases c with
 |true=>exact hb wh ae s1 σ H1 Q I1 q1
 |false=>exact⟨H1,I1,q1⟩
theorem iN(ha:PT X a tA)(hb:PW X (.BoolOp .Or (b::cH) pos) tB'):PW X (.BoolOp .Or (a::b::cH) pos) (tOr tA tB'):=by
 intro wh ae s σ H Q I h;refine isTrue_or (aT (ha ae s σ H _ I h) ?_);rintro c s1 ⟨H1,I1,q1⟩;refine ?_
 cases c with
 |true=>exact⟨H1,I1,q1⟩
 |false=>exact hb wh ae s1 σ H1 Q I1 q1
theorem fS(ha:PT X a tA):PT X (.UnaryOp .Not a pos) (tNot tA):=by
 intro ae s σ H Q I h;exact isTrue_not (ha ae s σ H (fun c H1=>Q (!c) H1) I h)
def a96(ta tb:TE):TE:=fun σ H Q=>ta σ H fun x H1=>∃c,x= .bl c/\if c=true then tb σ H1 Q else Q (.bl false) H1
def tOrV(ta tb:TE):TE:=fun σ H Q=>ta σ H fun x H1=>∃c,x= .bl c/\if c=true then Q (.bl true) H1 else tb σ H1 Q
def a6T(ta:TE):TE:=fun σ H Q=>ta σ H fun x H1=>∃c,x= .bl c/\Q (.bl (!c)) H1
theorem qL{op}{t:TE}(h:PE X a t):PE X (.BoolOp op [a] pos) t:=fun ae s σ H Q I hw=>BoolOp_one (h ae s σ H Q I hw)
theorem qC(ha:PE X a ta)(hb:PE X (.BoolOp .And (b::cH) pos) tb):PE X (.BoolOp .And (a::b::cH) pos) (a96 ta tb):=by
 intro ae s σ H Q I h;refine BoolOp_and (aT (ha ae s σ H _ I h) ?_);rintro v s1 ⟨x,H1,I1,r1,q1⟩;refine ?_;obtain⟨c,rfl,q1⟩:=q1;cases r1;refine wpAny_truthy_bool ?_
 cases c with
 |true=>exact hb ae s1 σ H1 Q I1 q1
 |false=>exact⟨.bl false,H1,I1,rfl,q1⟩
theorem a8j(ha:PE X a ta)(hb:PE X (.BoolOp .Or (b::cH) pos) tb):PE X (.BoolOp .Or (a::b::cH) pos) (tOrV ta tb):=by
 intro ae s σ H Q I h;refine BoolOp_or (aT (ha ae s σ H _ I h) ?_);rintro v s1 ⟨x,H1,I1,r1,q1⟩;refine ?_;obtain⟨c,rfl,q1⟩:=q1;cases r1;refine wpAny_truthy_bool ?_
 cases c with
 |false=>exact hb ae s1 σ H1 Q I1 q1
 |true=>exact⟨.bl true,H1,I1,rfl,q1⟩
theorem a5C(ha:PE X a ta):PE X (.UnaryOp .Not a pos) (a6T ta):=by
 intro ae s σ H Q I h;refine UnaryOp_ (aT (ha ae s σ H _ I h) ?_);rintro v s1 ⟨x,H1,I1,r1,q1⟩;refine ?_;obtain⟨c,rfl,q1⟩:=q1;cases r1;exact not_of (wpAny_truthy_bool ⟨.bl (!c),H1,I1,rfl,q1⟩)
end
def aM(K:Fg)(H:Hp)(a:Addr)(xs:List V):Prop:=
 Rd H a (.lst xs)\/
  ∃(o:Obj) (its:Array Value) (n:Nat),K.lookup a=some o/\o.cls= .type "list" /\o.dict=none/\o.data= .seq its n/\its.size<=sizeLine/\aW xs its.toList
def bR(K:Fg)(H:Hp)(a:Addr)(xs:List V):Prop:=
 Rd H a (.tup xs)\/
  ∃(o:Obj) (its:Array Value) (n:Nat),K.lookup a=some o/\o.cls= .type "tuple" /\o.data= .seq its n/\its.size<=sizeLine/\aW xs its.toList
noncomputable def absV:Value->Option V
 | .none=>some .non
 | .bool b=>some (.bl b)
 | .int i _=>some (.int i)
 | .str x _=>some (.str x)
 | .bytes b _=>some (.byt b)
 | .float b _=>some (.flt b)
 | .ref a=>some (.ref a)
 | .type n=>some (.ty n)
 |_=>none
theorem aZ.abs{x:V}(r:aZ x u):absV u=some x:=by
 cases x with
 |non=>cases r;rfl
 |bl _=>cases r;rfl
 |int _=>obtain⟨t,rfl⟩:=r;rfl
 |str _=>obtain⟨t,rfl⟩:=r;rfl
 |byt _=>obtain⟨t,rfl⟩:=r;rfl
 |flt _=>obtain⟨t,rfl⟩:=r;rfl
 |ref _=>cases r;rfl
 |ty _=>cases r;rfl
theorem aZ.inj{x:V}(r:aZ x u)(q:aZ y u):x=y:=Option.some.inj (r.abs.symm.trans q.abs)
theorem aW.inj:∀{xs ys:List V} {us:List Value},aW xs us->aW ys us->xs=ys
 |_,_,_,.nil,.nil=>rfl
 |_,_,_,.cons r t,.cons r' t'=>by rw[r.inj r',aW.inj t t']
section
variable{s:Shared}
theorem aM.of(h:H a=some (.lst xs)):aM K H a xs:=.inl (.inl h)
theorem bR.of(h:H a=some (.tup xs)):bR K H a xs:=.inl (.inl h)
theorem aC.list(I:aC X ae σ H s)(h:aM X.K H a xs):∃its:List Value,aW xs its/\PlainL s.heap a its.toArray/\xs.length<=sizeLine:=by
 rcases h with h|⟨o,its,n,hk,hc,hd,hs,hz,r⟩
 ·obtain⟨z,its,n,r,e⟩:=h.ok I.hok
  exact⟨its,r,⟨_,n,e,rfl,rfl,rfl⟩,z⟩
 ·refine⟨its.toList,r,⟨o,n,I.kIn a o hk,hc,hd,by simpa using hs⟩,?_⟩
  have e:=r.length;simp only[Array.length_toList]at e;omega
theorem aC.tuple(I:aC X ae σ H s)(h:bR X.K H a xs):∃its:List Value,aW xs its/\IsTup s.heap a its.toArray/\xs.length<=sizeLine:=by
 rcases h with h|⟨o,its,n,hk,hc,hs,hz,r⟩
 ·obtain⟨z,its,r,p⟩:=h.ok I.hok
  exact⟨its,r,p,z⟩
 ·refine⟨its.toList,r,⟨o,I.kIn a o hk,hc,n,by simpa using hs⟩,?_⟩
  have e:=r.length;simp only[Array.length_toList]at e;omega
theorem aC.list_inj(I:aC X ae σ H s)(h:aM X.K H a xs)(h':aM X.K H a ys):xs=ys:=by
 obtain⟨its,r,⟨o,n,e,_,_,d⟩,_⟩:=I.list h;obtain⟨its',r',⟨o',n',e',_,_,d'⟩,_⟩:=I.list h';rw[e]at e';cases e';rw[d]at d'
 injection d' with d1 _
 have:its=its':=by simpa using congrArg Array.toList d1
 subst this;exact r.inj r'
end
abbrev Cx.wish(X:Cx)(E:Value->Shared->Prop):Cx:={X with xe:=E}
abbrev Cx.nox(X:Cx):Cx:=X.wish fun _ _=>False
theorem Cx.Ok.wish(ok:X.Ok)(E:Value->Shared->Prop):(X.wish E).Ok:=
 ⟨ok.mod,ok.kind,ok.glob,ok.blt,ok.above,ok.inj,ok.has,ok.cab,ok.hd,ok.frames,ok.stk,ok.exf,ok.bs,ok.bsz,ok.noex,ok.exfs,ok.funs,ok.frf⟩
theorem Cx.Ok.unwish(ok:(X.wish E).Ok):X.Ok:=
 ⟨ok.mod,ok.kind,ok.glob,ok.blt,ok.above,ok.inj,ok.has,ok.cab,ok.hd,ok.frames,ok.stk,ok.exf,ok.bs,ok.bsz,ok.noex,ok.exfs,ok.funs,ok.frf⟩
section
variable{s:Shared}
theorem aC.wish(I:aC X ae σ H s)(E:Value->Shared->Prop):aC (X.wish E) ae σ H s:=⟨I.ok.wish E,I.os,I.bare,I.base,I.loc,I.cell,I.free,I.freeC,I.pin,I.hok,I.len⟩
theorem aC.unwish(I:aC (X.wish E) ae σ H s):aC X ae σ H s:=⟨I.ok.unwish,I.os,I.bare,I.base,I.loc,I.cell,I.free,I.freeC,I.pin,I.hok,I.len⟩
theorem SP.unwish{D:kB}{f:Flow}(h:SP (X.wish E) ae D f s'):SP X ae D f s':=by
 cases f with
 |next=>obtain⟨σ',H',I,q⟩:=h;exact⟨σ',H',I.unwish,q⟩
 |brk=>obtain⟨σ',H',I,q⟩:=h;exact⟨σ',H',I.unwish,q⟩
 |cont=>obtain⟨σ',H',I,q⟩:=h;exact⟨σ',H',I.unwish,q⟩
 |ret u=>obtain⟨v,σ',H',I,r,q⟩:=h;exact⟨v,σ',H',I.unwish,r,q⟩
theorem eV.nox{st:List Stmt}{t:TS}(h:eV X.nox st t):eV X st t:=fun ae s σ H D I hw=>
 wpAny_mono (h ae s σ H D (I.wish _) hw) (fun _ _ q=>q.unwish) fun _ _ z=>False.elim z
end
section
variable{st:Stmt}{cH:List Stmt}{t u:TS}
def a7S:TS:=fun D σ H=>D.nx σ H
def tSeq(t u:TS):TS:=fun D σ H=>t {D with nx:=u D} σ H
theorem bL:eV X [] a7S:=fun _ _ σ H _ I h=>wpAny_execs_nil ⟨σ,H,I,h⟩
theorem aJ(h1:PS X st t)(h2:eV X cH u):eV X (st::cH) (tSeq t u):=by
 intro ae s σ H D I h;refine wpAny_execs_cons (aT (h1 ae s σ H {D with nx:=u D} I h) fun f s1 q=> ?_)
 cases f with
 |next=>
  obtain⟨σ',H',I',q⟩:=q;exact h2 ae s1 σ' H' D I' q
 |ret v=>exact q
 |brk=>exact q
 |cont=>exact q
theorem aK(h1:PS X st t):eV X [st] t:=by
 intro ae s σ H D I h;refine wpAny_execs_cons (aT (h1 ae s σ H D I h) fun f s1 q=> ?_)
 cases f with
 |next=>exact wpAny_execs_nil q
 |ret v=>exact q
 |brk=>exact q
 |cont=>exact q
theorem aC.quiet{s:Shared}(I:aC X ae σ H s):interactive X.env=false:=by simp[interactive,I.ok.kind]
def a8l(te:TE):TS:=fun D σ H=>te σ H fun _ H1=>D.nx σ H1
theorem bW(he:PE X e te)(hs:swapsWith e none pos.line X.env=pure false:=by rfl):PS X (.Expr e pos) (a8l te):=by
 intro ae s σ H D I h;refine wpAny_Expr_any (aT (he ae s σ H _ I h) ?_) I.quiet hs;rintro v s1 ⟨x,H1,I1,r1,q1⟩;exact⟨σ,H1,I1,q1⟩
def tRet(te:TE):TS:=fun D σ H=>te σ H D.rt
theorem bH(he:PE X e te):PS X (.Return (some e) pos) (tRet te):=by
 intro ae s σ H D I h;refine wpAny_Return_some (aT (he ae s σ H _ I h) ?_);rintro v s1 ⟨x,H1,I1,r1,q1⟩;exact⟨x,σ,H1,I1,r1,q1⟩
def tIfS(c:TT)(t u:TS):TS:=fun D σ H=>c σ H fun b H1=>if b=true then t D σ H1 else u D σ H1
theorem bI{c:Expr}{a b:List Stmt}{tc:TT}(hc:PT X c tc)(ha:eV X a t)(hb:eV X b u):PS X (.If c a b pos) (tIfS tc t u):=by
 intro ae s σ H D I h;refine wpAny_If (aT (hc ae s σ H _ I h) ?_);rintro d s1 ⟨H1,I1,q1⟩;refine ?_
 cases d with
 |true=>exact ha ae s1 σ H1 D I1 q1
 |false=>exact hb ae s1 σ H1 D I1 q1
end
abbrev TG:=V->St->Hp->(St->Hp->Prop)->Prop
abbrev oA:=List V->St->Hp->(St->Hp->Prop)->Prop
variable{g:TG}
def PG(X:Cx)(target:Expr)(t:TG):Prop:=
 ∀(ae:List (Addr×Obj)) (s:Shared) (σ:St) (H:Hp) (v:V) (u:Value) (Q:St->Hp->Prop),aC X ae σ H s->aZ v u->t v σ H Q->
  wpAny (model X.prog X.w) X.A (assign target X.env u) (fun _ s'=>∃σ' H',aC X ae σ' H' s'/\Q σ' H') X.xe s
def uV(X:Cx)(ts:List Expr)(t:oA):Prop:=
 ∀(ae:List (Addr×Obj)) (s:Shared) (σ:St) (H:Hp) (vs:List V) (us:List Value) (Q:St->Hp->Prop),aC X ae σ H s->aW vs us->t vs σ H Q->
  wpAny (model X.prog X.w) X.A (assignInOrder ((assignEach ts X.env).map (·.2)) us) (fun _ s'=>∃σ' H',aC X ae σ' H' s'/\Q σ' H') X.xe s
abbrev TSet:=V->V->V->Hp->(Hp->Prop)->Prop
def PSet(X:Cx)(t:TSet):Prop:=
 ∀(ae:List (Addr×Obj)) (s:Shared) (σ:St) (H:Hp) (o i v:V) (ov iv u:Value) (Q:Hp->Prop),aC X ae σ H s->aZ o ov->aZ i iv->aZ v u->t o i v H Q->
  wpAny (model X.prog X.w) X.A (setItem ov iv u) (fun _ s'=>∃H',aC X ae σ H' s'/\Q H') X.xe s
section
noncomputable def qW(i:Nat):TG:=fun v σ H Q=>Q (σ.set i (some v)) H
theorem iG(hN:X.N.Nodup)(hi:X.N[i]?=some x)(hx:tN X.env.scope x)(hf:X.fn x=true\/ X.env.scope.names.lookup x=some .local:=by first|exact .inl rfl|exact .inr rfl|assumption):PG X (.Name x pos) (qW i):=by
 intro ae s σ H v u Q I r h;exact wpAny_assign_Name (a2d I hN hi hx r (fun s' I'=>⟨_,H,I',h⟩) hf)
noncomputable def gNil:oA:=fun vs σ H Q=>vs= [] /\Q σ H
noncomputable def a5w (t:TG) (u:oA):oA:=fun vs σ H Q=>∃v r,vs=v::r/\t v σ H fun σ' H'=>u r σ' H' Q
theorem zQ:uV X [] gNil:=by
 intro ae s σ H vs us Q I r h;obtain⟨e,h⟩:=h;subst e;cases r;exact assignInOrder_nil ⟨σ,H,I,h⟩
theorem nV{t:TG}{u:oA}(h1:PG X e t)(h2:uV X es u)
 (hs:(assignEach (e::es) X.env).map (·.2)=assign e X.env::(assignEach es X.env).map (·.2):=by rfl):uV X (e::es) (a5w t u):=by
 intro ae s σ H vs us Q I r h;obtain⟨v,vr,e1,h⟩:=h;subst e1
 cases r with
 |cons r rr=>
  rw[hs];refine assignInOrder_cons (aT (h1 ae s σ H _ _ _ I r h) ?_);rintro _ s1 ⟨σ1,H1,I1,q1⟩;refine ?_;exact h2 ae s1 σ1 H1 _ _ Q I1 rr q1
noncomputable def gTup (K:Fg) (n:Nat) (t:oA):TG:=fun v σ H Q=>∃a xs,v= .ref a/\bR K H a xs/\xs.length=n/\t xs σ H Q
theorem yG{k:Nat}{t:oA}(hc:X.calm=true)(h:uV X es t)
 (hn:(assignEach es X.env).length=n:=by rfl)(hst:(assignEach es X.env).findIdx? (·.1)=none:=by rfl):PG X (.Tuple es k pos) (gTup X.K n t):=by
 intro ae s σ H v u Q I r hw;obtain⟨a,xs,e1,hq,hl,hw⟩:=hw;subst e1;cases r;obtain⟨its,rv,ht,hz⟩:=I.tuple hq;refine assign_Tuple_tuple (I.ok.hd hc) ht (by simp[hn,<- hl,rv.length]) hst fun h' hx=> ?_
 have I1:aC X ae σ H {s with heap:=h'}:=I.kept (t':=s.toks) fun b o e=>hx b o (Nat.ne_of_lt (Heap.lt_size e)) e
 exact h ae _ σ H xs _ Q I1 (by simpa using rv) hw
noncomputable def gSub (to ti:TE) (t:TSet):TG:=fun v σ H Q=>to σ H fun o H1=>ti σ H1 fun i H2=>t o i v H2 fun H3=>Q σ H3
theorem a1k{o i:Expr}{to ti:TE}{t:TSet}(ho:PE X o to)(hi:PE X i ti)(hs:PSet X t)
 (ha:∀v,assign (.Subscript o i pos) X.env v=(do
  let ov<- holding [v] (eval o X.env)
  let iv<- holding [v,ov] (eval i X.env)
  standAt pos
  holding [v,ov,iv] (setItem ov iv v)
  release [v,ov,iv] []):=by intro _;rfl):PG X (.Subscript o i pos) (gSub to ti t):=by
 intro ae s σ H v u Q I r h;rw[ha];refine wpAny_bind (wpAny_holding (aT (ho ae s σ H _ I h) ?_));rintro ov s1 ⟨x,H1,I1,r1,q1⟩;refine ?_;refine wpAny_bind (wpAny_holding (aT (hi ae s1 σ H1 _ I1 q1) ?_));rintro iv s2 ⟨y,H2,I2,r2,q2⟩;refine ?_;refine wpAny_bind (wpAny_standAt (wpAny_bind (wpAny_holding (aT (hs ae s2 σ H2 x y v ov iv u _ I2 r1 r2 r q2) ?_))));rintro _ s3 ⟨H3,I3,q3⟩;refine ?_;exact wpAny_release ⟨σ,H3,I3,q3⟩
def xT(te:TE)(g:TG):TS:=fun D σ H=>te σ H fun x H1=>g x σ H1 D.nx
theorem a0i(he:PE X e te)(hg:PG X tg g)(hs:swapsWithSole [tg] e pos.line X.env=pure false:=by rfl)(hw:swappedStores [tg] e X.env=pure none:=by rfl)
 (h1:(assignEach [tg] X.env).map (·.2)= [assign tg X.env]:=by rfl):PS X (.Assign [tg] e pos) (xT te g):=by
 intro ae s σ H D I h;refine wpAny_Assign_stores (aT (he ae s σ H _ I h) ?_) hs hw;rintro v s1 ⟨x,H1,I1,r1,q1⟩;refine ?_;rw[h1];exact aT (hg ae s1 σ H1 x v _ I1 r1 q1) fun _ s2 q=>q
theorem cA(hN:X.N.Nodup)(hi:X.N[i]?=some x)(hx:tN X.env.scope x)(he:PE X e te)(hs:swapsWith e (some (.Name x pos')) pos.line X.env=pure false:=by rfl)(hf:X.fn x=true\/ X.env.scope.names.lookup x=some .local:=by first|exact .inl rfl|exact .inr rfl|assumption):
 PS X (.Assign [.Name x pos'] e pos) (xT te (qW i)):=by
 intro ae s σ H D I h;refine wpAny_Assign_Name (aT (he ae s σ H _ I h) ?_) hs;rintro v s1 ⟨y,H1,I1,r1,q1⟩;refine ?_;exact a2d I1 hN hi hx r1 (fun s2 I2=>⟨_,H1,I2,q1⟩) hf
def a9x(c:TT)(tb:TS):TS:=fun D σ H=>∃W:Nat->St->Hp->Prop,(∃m,W m σ H)/\∀m σ H,W m σ H->
 c σ H fun b H1=>if b=true then∃N:St->Hp->Prop,(∀σ' H',N σ' H'->∃m',m'<m/\W m' σ' H')/\tb {D with nx:=N,ct:=N,bk:=D.nx} σ H1 else D.nx σ H1
theorem a1R{c:Expr}{body:List Stmt}{tc:TT}{tb:TS}(hp:PassesOwn (model X.prog X.w) X.A X.env X.xe)(hc:PT X c tc)(hb:eV X body tb):PS X (.While c body [] pos) (a9x tc tb):=by
 intro ae s σ H D I h;obtain⟨W,⟨m0,w0⟩,turn⟩:=h;refine wpAny_While (codeAny_whileLoop (fun n s'=>∃σ' H',aC X ae σ' H' s'/\W n σ' H') ?_ m0 ⟨σ,H,I,w0⟩);rintro n s1 ⟨σ1,H1,I1,w1⟩;refine wpAny_passesOwn hp (aT (hc ae s1 σ1 H1 _ I1 (turn n σ1 H1 w1)) ?_);rintro b s2 ⟨H2,I2,q2⟩;refine ?_
 cases b with
 |true=>
  obtain⟨N,hN,q2⟩:=q2;rw[if_pos rfl];refine wpAny_passesOwn hp (aT (hb ae s2 σ1 H2 _ I2 q2) fun f s3 q3=> ?_)
  cases f with
  |next=>
   obtain⟨σ3,H3,I3,n3⟩:=q3;obtain⟨m',hm,w3⟩:=hN σ3 H3 n3;exact⟨m',hm,σ3,H3,I3,w3⟩
  |cont=>
   obtain⟨σ3,H3,I3,n3⟩:=q3;obtain⟨m',hm,w3⟩:=hN σ3 H3 n3;exact⟨m',hm,σ3,H3,I3,w3⟩
  |brk=>exact q3
  |ret v=>exact q3
 |false=>
  rw[if_neg Bool.false_ne_true];exact wpAny_execs_nil ⟨σ1,H2,I2,q2⟩
end
structure It where
 go:Nat->Hp->Prop
 yld:Nat->Hp->V->Hp->Prop
 stop:Nat->Hp->Prop
def kF(X:Cx)(ae:List (Addr×Obj))(H:Hp)(b:Addr):Prop:=
 H b=none/\b≠X.env.locals/\b∉X.fs/\(b∈X.ex\/ X.s₀.heap.objs.size<=b)/\(∀x c,X.env.cells.lookup x=some c->c≠b)/\∀p∈X.pn++ ae,p.1≠b
theorem aC.fpOk{s:Shared}(I:aC X ae σ H s)(hb:s.heap.objs.size<=b)(hn:H' b=none):kF X ae H' b:=by
 refine⟨hn,Nat.ne_of_gt (Nat.lt_of_lt_of_le I.lt hb),I.nofs hb,.inr (Nat.le_trans I.sz hb),fun x c e z=> ?_,fun p hp z=> ?_⟩
 ·obtain⟨v,q⟩:=I.cell x c e
  exact absurd (Nat.lt_of_lt_of_le q.lt (by rw[z];exact hb)) (Nat.lt_irrefl _)
 ·exact absurd (Nat.lt_of_lt_of_le (Heap.lt_size (I.pin p hp).1) (by rw[z];exact hb)) (Nat.lt_irrefl _)
structure qI(P:Program)(w:World)(K:Fg)(tg:Expr)(J:It)(fp:List Addr)(it:Addr)(tn:Nat->Heap->Prop):Prop where
 mem:it∈fp
 obj:∀i h,tn i h->∀b∈fp,∃o,h.get? b=some o/\∀v,o.data≠ .cell v
 keep:∀i h h',tn i h->(∀b∈fp,∀o,h.get? b=some o->h'.get? b=some o)->tn i h'
 item:∀(X:Cx),X.prog=P->X.w=w->X.K=K->X.calm=true->∀(i:Nat) (ae:List (Addr×Obj)) (s:Shared) (σ:St) (H:Hp) (E:Value->Shared->Prop),aC X ae σ H s->(∀b∈fp,kF X ae H b)->tn i s.heap->J.go i H->
  wpAny (model P w) X.A (pyNext (.ref it)) (fun r s1=>∃u,r=some u/\
   wpAny (model P w) X.A (letOwnedTupleGo tg (.ref it) u) (fun _ s2=>∃x H',aC X ae σ H' s2/\aZ x u/\J.yld i H x H'/\tn (i+ 1) s2.heap/\∀b∈fp,H' b=none) E s1) E s
 done:∀(X:Cx),X.prog=P->X.w=w->X.K=K->X.calm=true->∀(i:Nat) (ae:List (Addr×Obj)) (s:Shared) (σ:St) (H:Hp) (E:Value->Shared->Prop),aC X ae σ H s->(∀b∈fp,kF X ae H b)->tn i s.heap->J.stop i H->
  wpAny (model P w) X.A (pyNext (.ref it)) (fun r s1=>r=none/\aC X ae σ H s1) E s
 self:∀(A:Around) (i:Nat) (s:Shared) (Q:Value->Shared->Prop) (E:Value->Shared->Prop),tn i s.heap->Q (.ref it) s->wpAny (model P w) A (pyIter (.ref it)) Q E s
abbrev TI:=St->Hp->(It->Hp->Prop)->Prop
def PIE(X:Cx)(ae:List (Addr×Obj))(σ:St)(tg:Expr)(R:It->Hp->Prop)(itv:Value)(s2:Shared):Prop:=
 ∃(it:Addr) (fp:List Addr) (tn:Nat->Heap->Prop) (J:It) (H':Hp),itv= .ref it/\aC X ae σ H' s2/\qI X.prog X.w X.K tg J fp it tn/\tn 0 s2.heap/\(∀b∈fp,kF X ae H' b)/\R J H'
def PI(X:Cx)(tg iter:Expr)(wi:TI):Prop:=
 ∀(ae:List (Addr×Obj)) (s:Shared) (σ:St) (H:Hp) (R:It->Hp->Prop),aC X ae σ H s->wi σ H R->
  wpAny (model X.prog X.w) X.A (eval iter X.env) (fun v s1=>wpAny (model X.prog X.w) X.A (pyIter v) (PIE X ae σ tg R) X.xe s1) X.xe s
theorem xF{M:Model}{s:Shared}{it:Addr}{o:Obj}{n:String}{vs:Array Value}{Q:Unit->Shared->Prop}(ho:s.heap.get? it=some o)(hc:o.cls= .type n)(hd:o.data= .fields vs)
 (hn:["enumerate","zip","dict_itemiterator","dict_reverseitemiterator","odict_iterator","itertools.zip_longest","itertools.pairwise"].contains n=false)(hQ:Q () s):wpAny M A (letOwnedTupleGo tg (.ref it) u) Q E s:=by
 unfold letOwnedTupleGo;cases tg<;>first
  |exact wpAny_pure hQ
  |(cases u<;>first
   |exact wpAny_pure hQ
   | (refine wpAny_bind (wpAny_load ho ?_)
      rw[hc,hd];show wpAny M A (if(["enumerate","zip","dict_itemiterator","dict_reverseitemiterator","odict_iterator","itertools.zip_longest","itertools.pairwise"].contains n&&vs[0]?==some (rawInt _))=true then _ else _) Q E s;rw[if_neg (by intro h;rw[hn,Bool.false_and]at h;cases h)]
      exact wpAny_pure hQ))
noncomputable def rD (K:Fg) (a:Addr):It:=
 ⟨fun i H=>∃xs x,aM K H a xs/\xs[i]?=some x,fun i H x H'=>H'=H/\∀xs,aM K H a xs->xs[i]?=some x,fun i H=>∃xs,aM K H a xs/\xs.length<=i⟩
noncomputable def oW (lo:Int) (n:Nat):It:=⟨fun i _=>i<n,fun i H x H'=>H'=H/\x= .int (lo+ i),fun i _=>n<=i⟩
theorem a5E(a it:Addr):qI P w K tg (rD K a) [it] it (fun i h=>h.IsListIter it a i) where
 mem:=by simp
 obj:=fun i h st b hb=>by
  have e:b=it:=by simpa using hb
  subst e;obtain⟨o,e,c,d⟩:=st;exact⟨o,e,fun v z=>by rw[d]at z;cases z⟩
 keep:=fun i h h' st k=>st.at fun o e=>k it (by simp) o e
 item:=by
  intro X hP hw hK hc i ae s σ H E I hf st hg;subst hP hw hK;obtain⟨xs,x,hq,hx⟩:=hg;obtain⟨its,rv,p,hz⟩:=I.list hq;obtain⟨u,hu,ru⟩:=rv.get hx;obtain⟨f0,f1,f2,f3,f4,f5⟩:=hf it (by simp);refine wpAny_pyNext_list_item st p.isList (x:=u) (by simpa using hu) fun h' st' sb=> ?_
  have I1:aC X ae σ H {s with heap:=h'}:=I.turned (t':=s.toks) (fun b o hb e=>(sb.2 b hb).trans e) f0 f1 f3 f4 f5;obtain⟨o,e,c,d⟩:=id st';exact⟨u,rfl,xF (s:={s with heap:=h'}) e c d (by decide) ⟨x,H,I1,ru,⟨rfl,fun ys hy=>by rw[I.list_inj hy hq];exact hx⟩,st',fun b hb=>(hf b hb).1⟩⟩
 done:=by
  intro X hP hw hK hc i ae s σ H E I hf st hg;subst hP hw hK;obtain⟨xs,hq,hx⟩:=hg;obtain⟨its,rv,p,hz⟩:=I.list hq;obtain⟨f0,f1,f2,f3,f4,f5⟩:=hf it (by simp);have hl:=rv.length;exact wpAny_pyNext_list_end (I.ok.hd hc) st p.isList (by simp;omega) fun h' eb=>⟨rfl,I.turned (t':=s.toks) (fun b o hb e=>eb b o hb e) f0 f1 f3 f4 f5⟩
 self:=fun _ _ _ _ _ st h=>wpAny_pyIter_listiter st h
theorem a6l(it:Addr)(lo:Int)(n:Nat):qI P w K tg (oW lo n) [it] it (fun i h=>IsRangeIter h it (lo+ (i:Nat)* 1) ((n:Int)- (i:Nat)) 1) where
 mem:=by simp
 obj:=fun i h st b hb=>by
  have e:b=it:=by simpa using hb
  subst e
  exact⟨_,st,fun v z=>by
   have z':Data.fields _=Data.cell v:=z
   cases z'⟩
 keep:=fun i h h' st k=>k it (by simp) _ st
 item:=by
  intro X hP hw hK hc i ae s σ H E I hf st hg;subst hP hw hK;obtain⟨f0,f1,f2,f3,f4,f5⟩:=hf it (by simp);have W:=Walks.range (prog:=X.prog) (w:=X.w) (I.ok.hd hc) it lo 1 n;refine W.item i s _ _ hg st fun v h' tk hv st' kk=> ?_
  obtain⟨t,rfl⟩:=hv;have I1:aC X ae σ H {s with heap:=h',toks:=tk}:=I.turned (fun b o hb e=>kk b o (by simpa using hb) e) f0 f1 f3 f4 f5;refine⟨_,rfl,xF (s:={s with heap:=h',toks:=tk}) (n:= "range_iterator") st' rfl rfl (by decide) ⟨.int (lo+ i),H,I1,⟨t,?_⟩,⟨rfl,rfl⟩,st',fun b hb=>(hf b hb).1⟩⟩;rw[Int.mul_one]
 done:=by
  intro X hP hw hK hc i ae s σ H E I hf st hg;subst hP hw hK;obtain⟨f0,f1,f2,f3,f4,f5⟩:=hf it (by simp);exact wpAny_pyNext_range_end (I.ok.hd hc) st (by have:n<=i:=hg;omega) fun h' eb=>⟨rfl,I.turned (t':=s.toks) (fun b o hb e=>eb b o hb e) f0 f1 f3 f4 f5⟩
 self:=fun _ _ _ _ _ st h=>wpAny_pyIter_rangeiter st h
section
def a58(K:Fg)(tl:TE):TI:=fun σ H R=>tl σ H fun x H1=>∃a,x= .ref a/\(∃xs,aM K H1 a xs)/\R (rD K a) H1
theorem mJ{l:Expr}(hl:PE X l tl):PI X tg l (a58 X.K tl):=by
 intro ae s σ H R I h;refine aT (hl ae s σ H _ I h) ?_;rintro v s1 ⟨x,H1,I1,r1,q1⟩;refine ?_;obtain⟨a,e,⟨xs,hq⟩,q⟩:=q1;subst e;cases r1;obtain⟨its,rv,p,hz⟩:=I1.list hq;refine wpAny_pyIter_list p.isList ?_;refine⟨s1.heap.objs.size,[s1.heap.objs.size],_,_,H1,rfl,I1.kept (t':=s1.toks) fun b o e=>Heap.get?_push_of_some _ e,a5E a _,⟨_,Heap.get?_push_size _ rfl,rfl,rfl⟩,fun b hb=> ?_,q⟩
 have e:b=s1.heap.objs.size:=by simpa using hb
 subst e;exact I1.fpOk (Nat.le_refl _) (I1.hok.fresh (Nat.le_refl _))
theorem a7T{s:Shared}{R:It->Hp->Prop}{lo hi:Int}{t u v:Tok}{tk:Nat}(I:aC X ae σ H s)(h1: -(2^ 62)<=lo)(h2:lo<2^ 62)(h3: -(2^ 62)<=hi)(h4:hi<2^ 62)
 (q:R (oW lo (hi- lo).toNat) H):wpAny (model X.prog X.w) X.A (pyIter (.ref s.heap.objs.size)) (PIE X ae σ tg R) E {s with heap:=s.heap.push {cls:=.type "range",data:=.fields #[.int lo t,.int hi u,.int 1 v]},toks:=tk}:=by
 refine wpAny_pyIter_range (IsRange.new ..) (small_one h1 h2 h3 h4) ?_;have I1:aC X ae σ H {s with heap:=s.heap.push {cls:=.type "range",data:=.fields #[.int lo t,.int hi u,.int 1 v]},toks:=tk}:=I.kept fun b o e=>Heap.get?_push_of_some _ e
 refine⟨(s.heap.push {cls:=.type "range",data:=.fields #[.int lo t,.int hi u,.int 1 v]}).objs.size,[(s.heap.push {cls:=.type "range",data:=.fields #[.int lo t,.int hi u,.int 1 v]}).objs.size],_,_,H,rfl,
  I1.kept (t':=tk) fun b o e=>Heap.get?_push_of_some _ e,a6l _ lo (hi- lo).toNat,?_,fun b hb=> ?_,q⟩
 ·have e1:lo+ ((0:Nat):Int)* 1=lo:=by simp
  have e2:(((hi- lo).toNat:Nat):Int)- ((0:Nat):Int)=Builtin.Range.rangeSize lo hi 1:=by rw[rangeSize_one];split<;>omega
  show IsRangeIter _ _ (lo+ ((0:Nat):Int)* 1) ((((hi- lo).toNat:Nat):Int)- ((0:Nat):Int)) 1;rw[e1,e2];exact Heap.get?_push_size _ rfl
 ·have e:b=(s.heap.push {cls:=.type "range",data:=.fields #[.int lo t,.int hi u,.int 1 v]}).objs.size:=by simpa using hb
  subst e;exact I1.fpOk (Nat.le_refl _) (I1.hok.fresh (Nat.le_refl _))
def a6O(ta:TA):TI:=fun σ H R=>ta σ H fun vs H1=>∃j:Int,vs= [.int j] /\ -(2^ 62)<=j/\j<2^ 62/\R (oW 0 j.toNat) H1
theorem a3Q{a:Expr}{ta:TA}{p:Pos}(hg:Gl X "range")(hm:X.mg "range"=none)(ha:PA X [a] ta)(hs:starEach [a] X.env= [(false,eval a X.env)]:=by rfl):PI X tg (.Call (.Name "range" p) [a] [] pos) (a6O ta):=by
 intro ae s σ H R I h;refine Call_ (xB I hg hm boot_range (PyProof.Rows.callWith_type1 (aT (ha pos ae s σ H _ I h) ?_) hs rfl));rintro us s1 ⟨vs,H1,I1,r1,q1⟩;refine ?_;obtain⟨j,e,q1,q2,q⟩:=q1;subst e
 cases r1 with
 |cons r rr=>
  cases rr;obtain⟨t,rfl⟩:=r;exact call_range_1 (a7T I1 (by omega) (by omega) q1 q2 (by simpa using q))
def tFor(wi:TI)(g:TG)(tb:TS):TS:=fun D σ H=>wi σ H fun J H1=>∃W:Nat->Nat->St->Hp->Prop,(∃m,W 0 m σ H1)/\∀i m σ H,W i m σ H->
 (J.stop i H/\D.nx σ H)\/ (J.go i H/\∃N:St->Hp->Prop,(∀σ' H',N σ' H'->∃m',m'<m/\W (i+ 1) m' σ' H')/\∀x H',J.yld i H x H'->g x σ H' fun σ2 H2=>tb {D with nx:=N,ct:=N,bk:=D.nx} σ2 H2)
noncomputable def tT (fp:List Addr) (h:Heap):List (Addr×Obj):=fp.filterMap fun b=>(h.get? b).map fun o=>(b,o)
theorem wY{o:Obj}(hb:b∈fp)(e:h.get? b=some o):(b,o)∈tT fp h:=List.mem_filterMap.mpr ⟨b,hb,by rw[e];rfl⟩
theorem a69{p:Addr×Obj}(hp:p∈tT fp h):p.1∈fp/\h.get? p.1=some p.2:=by
 obtain⟨b,hb,e⟩:=List.mem_filterMap.mp hp
 cases q:h.get? b with
 |none=>rw[q]at e;cases e
 |some o=>
  rw[q]at e;have e':(b,o)=p:=Option.some.inj e;subst e';exact⟨hb,q⟩
theorem aC.pinned{s:Shared}(I:aC X ae σ H s)(hf:∀b∈fp,kF X ae H b)(ho:∀b∈fp,∃o,s.heap.get? b=some o/\∀v,o.data≠ .cell v):aC X (ae++ tT fp s.heap) σ H s:=
 I.pins_of fun p hp=>(List.mem_append.mp hp).elim (fun z=>I.pin p (List.mem_append_right _ z)) fun z=>by
  obtain⟨hb,e⟩:=a69 z;obtain⟨f0,f1,f2,_⟩:=hf p.1 hb;obtain⟨o,e',d⟩:=ho p.1 hb;rw[e]at e';cases e';exact⟨e,f0,f1,f2,d⟩
theorem aC.unpinned{pl:List (Addr×Obj)}{s:Shared}(I:aC X (ae++ pl) σ H s):aC X ae σ H s:=I.pins_of fun p hp=>I.pin p (List.mem_append_right _ (List.mem_append_left _ hp))
theorem nM{body:List Stmt}{wi:TI}{tb:TS}(hp:PassesOwn (model X.prog X.w) X.A X.env X.xe)(hc:X.calm=true)(hi:PI X tg iter wi)(hg:PG X tg g)(hb:eV X body tb)
 (hs:∀x,foldedSetIterable iter X.env x=pure x:=by intro _;rfl):PS X (.For tg iter body [] pos) (tFor wi g tb):=by
 intro ae s σ H D I h;refine wpAny_For (aT (hi ae s σ H _ I h) fun v s1 h1=>aT h1 fun itv s2 h2=> ?_) hs;obtain⟨it,fp,tn,J,H2,e,I2,T,st2,f2,W,⟨m0,w0⟩,turn⟩:=h2;subst e;have stat:∀{H':Hp},(∀b∈fp,H' b=none)->∀b∈fp,kF X ae H' b:=fun hn b hb=>⟨hn b hb,(f2 b hb).2⟩
 refine codeAny_forLoop_any (fun n s'=>∃i σ' H',aC X ae σ' H' s'/\tn i s'.heap/\(∀b∈fp,H' b=none)/\W i n σ' H') ?_ m0 ⟨0,σ,H2,I2,st2,fun b hb=>(f2 b hb).1,w0⟩;rintro n s3 ⟨i,σ3,H3,I3,st3,fr3,w3⟩
 rcases turn i n σ3 H3 w3 with⟨stop,qn⟩|⟨go,N,hN,step⟩
 ·refine wpAny_passesOwn hp (aT (T.done X rfl rfl rfl hc i ae s3 σ3 H3 X.xe I3 (stat fr3) st3 stop) ?_)
  rintro r s4 ⟨hr,I4⟩;refine ?_;subst hr;exact wpAny_execs_nil ⟨σ3,H3,I4,qn⟩
 ·refine wpAny_passesOwn hp (aT (T.item X rfl rfl rfl hc i ae s3 σ3 H3 X.xe I3 (stat fr3) st3 go) ?_)
  rintro r s4 ⟨u,hr,h4⟩;refine ?_;subst hr;refine wpAny_passesOwn hp (aT h4 ?_);rintro _ s5 ⟨x,H5,I5,r5,y5,st5,fr5⟩;refine ?_;have I5':=I5.pinned (stat fr5) (T.obj _ _ st5);refine wpAny_passesOwn hp (aT (hg _ s5 σ3 H5 x u _ I5' r5 (step x H5 y5)) ?_);rintro _ s6 ⟨σ6,H6,I6,q6⟩;refine ?_;refine wpAny_passesOwn hp (aT (hb _ s6 σ6 H6 _ I6 q6) fun f s7 q7=> ?_);have again:∀{σ7:St} {H7:Hp},aC X (ae++ tT fp s5.heap) σ7 H7 s7->N σ7 H7->∃m,m<n/\∃i σ' H',aC X ae σ' H' s7/\tn i s7.heap/\(∀b∈fp,H' b=none)/\W i m σ' H':=fun{σ7 H7} I7 n7=>by
   obtain⟨m',hm,w7⟩:=hN σ7 H7 n7;refine⟨m',hm,i+ 1,σ7,H7,I7.unpinned,T.keep _ _ _ st5 fun b hb o e=>(I7.pin (b,o) (List.mem_append_right _ (List.mem_append_right _ (wY hb e)))).1,fun b hb=> ?_,w7⟩;obtain⟨o,e,d⟩:=T.obj _ _ st5 b hb;exact(I7.pin (b,o) (List.mem_append_right _ (List.mem_append_right _ (wY hb e)))).2.1
  cases f with
  |next=>obtain⟨σ7,H7,I7,n7⟩:=q7;exact again I7 n7
  |cont=>obtain⟨σ7,H7,I7,n7⟩:=q7;exact again I7 n7
  |brk=>obtain⟨σ7,H7,I7,q7⟩:=q7;exact⟨σ7,H7,I7.unpinned,q7⟩
  |ret v=>obtain⟨x7,σ7,H7,I7,r7,q7⟩:=q7;exact⟨x7,σ7,H7,I7.unpinned,r7,q7⟩
end
theorem pF{tb:TS}{D:kB}(Pv:Nat->St->Hp->Prop)(h0:Pv 0 σ H)(hl:∀i σ H,i<=xs.length->Pv i σ H->aM K H a xs)
 (hs:∀i x σ H,xs[i]?=some x->Pv i σ H->g x σ H fun σ2 H2=>tb {D with nx:=Pv (i+ 1),ct:=Pv (i+ 1),bk:=D.nx} σ2 H2)(hd:∀σ H,Pv xs.length σ H->D.nx σ H):
 ∃W:Nat->Nat->St->Hp->Prop,(∃m,W 0 m σ H)/\∀i m σ H,W i m σ H->
  ((rD K a).stop i H/\D.nx σ H)\/ ((rD K a).go i H/\∃N:St->Hp->Prop,(∀σ' H',N σ' H'->∃m',m'<m/\W (i+ 1) m' σ' H')/\∀x H',(rD K a).yld i H x H'->g x σ H' fun σ2 H2=>tb {D with nx:=N,ct:=N,bk:=D.nx} σ2 H2):=by
 refine⟨fun i m σ H=>m=xs.length- i/\i<=xs.length/\Pv i σ H,⟨xs.length,by simp,Nat.zero_le _,h0⟩,?_⟩;rintro i m σ H ⟨rfl,hi,p⟩;have q:=hl i σ H hi p;by_cases hlt:i<xs.length
 ·refine .inr ⟨⟨xs,xs[i],q,by simp[hlt]⟩,Pv (i+ 1),fun σ' H' p'=>⟨xs.length- (i+ 1),by omega,rfl,hlt,p'⟩,fun x H' y=> ?_⟩
  obtain⟨e,y⟩:=y;subst e;exact hs i x σ _ (y xs q) p
 ·have e:i=xs.length:=by omega
  subst e;exact .inl ⟨⟨xs,q,Nat.le_refl _⟩,hd σ H p⟩
theorem a5f{lo:Int}{tb:TS}{D:kB}(Pv:Nat->St->Hp->Prop)(h0:Pv 0 σ H)
 (hs:∀i σ H,i<n->Pv i σ H->g (.int (lo+ i)) σ H fun σ2 H2=>tb {D with nx:=Pv (i+ 1),ct:=Pv (i+ 1),bk:=D.nx} σ2 H2)(hd:∀σ H,Pv n σ H->D.nx σ H):
 ∃W:Nat->Nat->St->Hp->Prop,(∃m,W 0 m σ H)/\∀i m σ H,W i m σ H->
  ((oW lo n).stop i H/\D.nx σ H)\/ ((oW lo n).go i H/\∃N:St->Hp->Prop,(∀σ' H',N σ' H'->∃m',m'<m/\W (i+ 1) m' σ' H')/\∀x H',(oW lo n).yld i H x H'->g x σ H' fun σ2 H2=>tb {D with nx:=N,ct:=N,bk:=D.nx} σ2 H2):=by
 refine⟨fun i m σ H=>m=n- i/\i<=n/\Pv i σ H,⟨n,by simp,Nat.zero_le _,h0⟩,?_⟩;rintro i m σ H ⟨rfl,hi,p⟩;by_cases hlt:i<n
 ·refine .inr ⟨hlt,Pv (i+ 1),fun σ' H' p'=>⟨n- (i+ 1),by omega,rfl,hlt,p'⟩,fun x H' y=> ?_⟩
  obtain⟨e,y⟩:=y;subst e y;exact hs i σ _ hlt p
 ·have e:i=n:=by omega
  subst e;exact .inl ⟨Nat.le_refl _,hd σ H p⟩
abbrev R2:=V->V->Hp->VK->Prop
variable{r:R2}
def dG(X:Cx)(f:Value->Value->Sem Value)(r:R2):Prop:=
 ∀(ae:List (Addr×Obj)) (s:Shared) (σ:St) (H:Hp) (x y:V) (v u:Value) (Q:VK),aC X ae σ H s->aZ x v->aZ y u->r x y H Q->
  wpAny (model X.prog X.w) X.A (f v u) (EP X ae σ Q) X.xe s
def UnR(X:Cx)(f:Value->Sem Value)(r:V->Hp->VK->Prop):Prop:=
 ∀(ae:List (Addr×Obj)) (s:Shared) (σ:St) (H:Hp) (x:V) (v:Value) (Q:VK),aC X ae σ H s->aZ x v->r x H Q->
  wpAny (model X.prog X.w) X.A (f v) (EP X ae σ Q) X.xe s
def jM(X:Cx)(f:Value)(r:List V->Hp->VK->Prop):Prop:=
 ∀(ae:List (Addr×Obj)) (s:Shared) (σ:St) (H:Hp) (xs:List V) (us:List Value) (Q:VK),aC X ae σ H s->aW xs us->r xs H Q->
  wpAny (model X.prog X.w) X.A (call f us) (EP X ae σ Q) X.xe s
def TruR(X:Cx)(r:V->Hp->(Bool->Hp->Prop)->Prop):Prop:=
 ∀(ae:List (Addr×Obj)) (s:Shared) (σ:St) (H:Hp) (x:V) (v:Value) (Q:Bool->Hp->Prop),aC X ae σ H s->aZ x v->r x H Q->
  wpAny (model X.prog X.w) X.A (truthy v) (TP X ae σ Q) X.xe s
def rG(r:R2)(ta tb:TE):TE:=fun σ H Q=>ta σ H fun x H1=>tb σ H1 fun y H2=>r x y H2 Q
def tUn(r:V->Hp->VK->Prop)(ta:TE):TE:=fun σ H Q=>ta σ H fun x H1=>r x H1 Q
noncomputable def rI (C:Int->Int->Prop) (g:Int->Int->V):R2:=fun x y H Q=>∃i j,x= .int i/\y= .int j/\C i j/\Q (g i j) H
noncomputable def mP (g:Int->Int->V):R2:=fun x y H Q=>∃i j,x= .int i/\y= .int j/\Q (g i j) H
def rU(g:Int->V):V->Hp->VK->Prop:=fun x H Q=>∃i,x= .int i/\Q (g i) H
section
variable{a b c:Expr}{tc:TE}
theorem binT(ha:PE X a ta)(hb:PE X b tb){s:Shared}{R:V->V->Hp->Prop}(I:aC X ae σ H s)
 (h:ta σ H fun x H1=>tb σ H1 fun y H2=>R x y H2){f:Value->Value->Sem Value}
 (hf:∀v u s2 x y H2,aC X ae σ H2 s2->aZ x v->aZ y u->R x y H2->wpAny (model X.prog X.w) X.A (f v u) Q X.xe s2):
 wpAny (model X.prog X.w) X.A (eval a X.env) (fun v s₁=>wpAny (model X.prog X.w) X.A (eval b X.env) (fun u s₂=>wpAny (model X.prog X.w) X.A (f v u) Q X.xe s₂) X.xe s₁) X.xe s:=by
 refine aT (ha ae s σ H _ I h) ?_;rintro v s1 ⟨x,H1,I1,r1,q1⟩;refine ?_;refine aT (hb ae s1 σ H1 _ I1 q1) ?_;rintro u s2 ⟨y,H2,I2,r2,q2⟩;refine ?_;exact hf v u s2 x y H2 I2 r1 r2 q2
theorem bZ{op:Operator}(ho:dG X (binaryOp op) r)(ha:PE X a ta)(hb:PE X b tb):PE X (.BinOp a op b pos) (rG r ta tb):=by
 intro ae s σ H Q I h;exact wpAny_BinOp (binT ha hb I h fun v u s2 x y H2 I2 rx ry q=>ho ae s2 σ H2 x y v u Q I2 rx ry q)
theorem a8N{op:UnaryOp}{r:V->Hp->VK->Prop}(ho:UnR X (unaryOp op) r)(ha:PE X a ta):PE X (.UnaryOp op a pos) (tUn r ta):=by
 intro ae s σ H Q I h;refine UnaryOp_ (aT (ha ae s σ H _ I h) ?_);rintro v s1 ⟨x,H1,I1,r1,q1⟩;exact ho ae s1 σ H1 x v Q I1 r1 q1
theorem yB{f:Value->Value->Sem Value}{C:Int->Int->Prop}{g:Int->Int->Int}
 (rule:∀(i j:Int) (t u:Tok) (s:Shared) (Q:Value->Shared->Prop) (E:Value->Shared->Prop),C i j->Q (.int (g i j) s.toks) {s with toks:=s.toks+ 1} ->wpAny (model X.prog X.w) X.A (f (.int i t) (.int j u)) Q E s):
 dG X f (rI C fun i j=> .int (g i j)):=by
 intro ae s σ H x y v u Q I rx ry h;obtain⟨i,j,rfl,rfl,hc,q⟩:=h;obtain⟨t,rfl⟩:=rx;obtain⟨t',rfl⟩:=ry;exact rule i j t t' s _ _ hc ⟨.int (g i j),H,I.tok _,⟨_,rfl⟩,q⟩
theorem opI0{f:Value->Value->Sem Value}{g:Int->Int->Int}
 (rule:∀(i j:Int) (t u:Tok) (s:Shared) (Q:Value->Shared->Prop) (E:Value->Shared->Prop),Q (.int (g i j) s.toks) {s with toks:=s.toks+ 1} ->wpAny (model X.prog X.w) X.A (f (.int i t) (.int j u)) Q E s):
 dG X f (mP fun i j=> .int (g i j)):=by
 intro ae s σ H x y v u Q I rx ry h;obtain⟨i,j,rfl,rfl,q⟩:=h;obtain⟨t,rfl⟩:=rx;obtain⟨t',rfl⟩:=ry;exact rule i j t t' s _ _ ⟨.int (g i j),H,I.tok _,⟨_,rfl⟩,q⟩
theorem vW{f:Value->Value->Sem Value}{g:Int->Int->Bool}
 (rule:∀(i j:Int) (t u:Tok) (s:Shared) (Q:Value->Shared->Prop) (E:Value->Shared->Prop),Q (.bool (g i j)) s->wpAny (model X.prog X.w) X.A (f (.int i t) (.int j u)) Q E s):
 dG X f (mP fun i j=> .bl (g i j)):=by
 intro ae s σ H x y v u Q I rx ry h;obtain⟨i,j,rfl,rfl,q⟩:=h;obtain⟨t,rfl⟩:=rx;obtain⟨t',rfl⟩:=ry;exact rule i j t t' s _ _ ⟨.bl (g i j),H,I,rfl,q⟩
def CDiv(i j:Int):Prop:=0<j/\j<1073741824
def CPow(i j:Int):Prop:=0<=j/\j<=1000000/\i.natAbs<2^ 64
def yZ(i j:Int):Prop:=(-(2^ 64)<i/\i<2^ 64)\/ (-(2^ 64)<j/\j<2^ 64)
theorem yZ.ok{i j:Int}(h:yZ i j):IntMulOk i j:=by
 rcases h with⟨h1,h2⟩|⟨h1,h2⟩
 ·exact .of_left (intBits_le_64 h1 h2)
 ·exact .of_right (intBits_le_64 h1 h2)
theorem kW:dG X (binaryOp .Add) (mP fun i j=> .int (i+ j)):=opI0 fun _ _ _ _ _ _ _ q=>add_int q
theorem tI:dG X (binaryOp .Sub) (mP fun i j=> .int (i- j)):=opI0 fun _ _ _ _ _ _ _ q=>sub_int q
theorem oT:dG X (binaryOp .Mult) (rI yZ fun i j=> .int (i* j)):=yB fun _ _ _ _ _ _ _ hc q=>mul_int q hc.ok
theorem a2O:dG X (binaryOp .FloorDiv) (rI CDiv fun i j=> .int (i/ j)):=yB fun i j _ _ _ _ _ hc q=>by
 have h1:(0:Int)<j:=hc.1;have h2:j<1073741824:=hc.2;exact floordiv_int (by omega) (by rw[Int.fdiv_eq_ediv_of_nonneg i (by omega)];exact q) (.inl (PyProof.noPylong_small (by omega)))
theorem fR:dG X (binaryOp .Mod) (rI (fun _ j=>0<j) fun i j=> .int (i% j)):=yB fun i j _ _ _ _ _ hc q=>by
 have h1:(0:Int)<j:=hc;exact mod_int' (by omega) (by rw[Int.fmod_eq_emod_of_nonneg i (by omega)];exact q)
theorem rT:dG X (binaryOp .Pow) (rI CPow fun i j=> .int (i^ j.toNat)):=yB fun _ _ _ _ _ _ _ hc q=>pow_int_small hc.1 hc.2.1 hc.2.2 q
theorem unI{f:Value->Sem Value}{g:Int->Int}
 (rule:∀(i:Int) (t:Tok) (s:Shared) (Q:Value->Shared->Prop) (E:Value->Shared->Prop),Q (.int (g i) s.toks) {s with toks:=s.toks+ 1} ->wpAny (model X.prog X.w) X.A (f (.int i t)) Q E s):
 UnR X f (rU fun i=> .int (g i)):=by
 intro ae s σ H x v Q I rx h;obtain⟨i,rfl,q⟩:=h;obtain⟨t,rfl⟩:=rx;exact rule i t s _ _ ⟨.int (g i),H,I.tok _,⟨_,rfl⟩,q⟩
theorem a5c:UnR X (unaryOp .USub) (rU fun i=> .int (-i)):=unI fun _ _ _ _ _ q=>neg_int q
end
noncomputable def scal:V->V->Bool
 | .non,.non=>true| .non,.int _=>true| .int _,.non=>true| .non,.bl _=>true| .bl _,.non=>true| .non,.str _=>true| .str _,.non=>true
 | .int _,.int _=>true| .bl _,.bl _=>true| .str _,.str _=>true| .byt _,.byt _=>true
 | .int _,.str _=>true| .str _,.int _=>true| .bl _,.str _=>true| .str _,.bl _=>true
 |_,_=>false
noncomputable def rEq:R2:=fun x y H Q=>scal x y=true/\Q (.bl (decide (x=y))) H
noncomputable def rNe:R2:=fun x y H Q=>scal x y=true/\Q (.bl (!decide (x=y))) H
theorem a3J{i j:Int}:decide (V.int i=V.int j)=(i==j):=by
 rw[Bool.eq_iff_iff];simp
theorem a3x{i j:Bool}:decide (V.bl i=V.bl j)=(i==j):=by
 rw[Bool.eq_iff_iff];simp
theorem a3T{i j:Str}:decide (V.str i=V.str j)=(i==j):=by
 rw[Bool.eq_iff_iff];simp
theorem a1m{i j:Array UInt8}:decide (V.byt i=V.byt j)=(i.toList==j.toList):=by
 rw[Bool.eq_iff_iff];cases i;cases j;simp
section
variable{a b c:Expr}{tc:TE}
theorem cZ{s:Shared}{Q:VK}{k k':Bool}(I:aC X ae σ H s)(q:Q (.bl k) H)(e:k=k'):EP X ae σ Q (.bool k') s:=by
 subst e;exact⟨.bl k,H,I,rfl,q⟩
theorem lC:dG X (compareOp .Eq) rEq:=by
 intro ae s σ H x y v u Q I rx ry h;obtain⟨hs,q⟩:=h
 cases x with
 |non=>
  cases rx
  cases y with
  |non=>cases ry;exact PySem.EqNone.eq_none_none (cZ I q (by simp))
  |bl j=>cases ry;exact PySem.EqNone.eq_none_bool (cZ I q (by simp))
  |int j=>obtain⟨t',rfl⟩:=ry;exact PySem.EqNone.eq_none_int (cZ I q (by simp))
  |str j=>obtain⟨t',rfl⟩:=ry;exact PySem.EqNone.eq_none_str (cZ I q (by simp))
  |_=>exact absurd (show false=true from hs) Bool.false_ne_true
 |bl i=>
  cases rx
  cases y with
  |non=>cases ry;exact PySem.EqNone.eq_bool_none (cZ I q (by simp))
  |bl j=>cases ry;exact eq_bool (cZ I q a3x)
  |str j=>obtain⟨t',rfl⟩:=ry;exact PySem.EqMixed.eq_bool_str (cZ I q (by simp))
  |_=>exact absurd (show false=true from hs) Bool.false_ne_true
 |int i=>
  obtain⟨t,rfl⟩:=rx
  cases y with
  |non=>cases ry;exact PySem.EqNone.eq_int_none (cZ I q (by simp))
  |int j=>obtain⟨t',rfl⟩:=ry;exact eq_int (cZ I q a3J)
  |str j=>obtain⟨t',rfl⟩:=ry;exact PySem.EqMixed.eq_int_str (cZ I q (by simp))
  |_=>exact absurd (show false=true from hs) Bool.false_ne_true
 |str i=>
  obtain⟨t,rfl⟩:=rx
  cases y with
  |non=>cases ry;exact PySem.EqNone.eq_str_none (cZ I q (by simp))
  |bl j=>cases ry;exact PySem.EqMixed.eq_str_bool (cZ I q (by simp))
  |int j=>obtain⟨t',rfl⟩:=ry;exact PySem.EqMixed.eq_str_int (cZ I q (by simp))
  |str j=>obtain⟨t',rfl⟩:=ry;exact eq_str (cZ I q a3T)
  |_=>exact absurd (show false=true from hs) Bool.false_ne_true
 |byt i=>
  obtain⟨t,rfl⟩:=rx
  cases y with
  |byt j=>obtain⟨t',rfl⟩:=ry;exact W.eq_bytes (cZ I q a1m)
  |_=>exact absurd (show false=true from hs) Bool.false_ne_true
 |_=>cases y<;>exact absurd (show false=true from hs) Bool.false_ne_true
theorem a4B:dG X (compareOp .NotEq) rNe:=by
 intro ae s σ H x y v u Q I rx ry h;obtain⟨hs,q⟩:=h
 cases x with
 |non=>
  cases rx
  cases y with
  |non=>cases ry;exact PySem.EqNone.ne_none_none (cZ I q (by simp))
  |bl j=>cases ry;exact PySem.EqNone.ne_none_bool (cZ I q (by simp))
  |int j=>obtain⟨t',rfl⟩:=ry;exact PySem.EqNone.ne_none_int (cZ I q (by simp))
  |str j=>obtain⟨t',rfl⟩:=ry;exact PySem.EqNone.ne_none_str (cZ I q (by simp))
  |_=>exact absurd (show false=true from hs) Bool.false_ne_true
 |bl i=>
  cases rx
  cases y with
  |non=>cases ry;exact PySem.EqNone.ne_bool_none (cZ I q (by simp))
  |bl j=>cases ry;exact ne_bool (cZ I q (congrArg not a3x))
  |str j=>obtain⟨t',rfl⟩:=ry;exact PySem.EqMixed.ne_bool_str (cZ I q (by simp))
  |_=>exact absurd (show false=true from hs) Bool.false_ne_true
 |int i=>
  obtain⟨t,rfl⟩:=rx
  cases y with
  |non=>cases ry;exact PySem.EqNone.ne_int_none (cZ I q (by simp))
  |int j=>obtain⟨t',rfl⟩:=ry;exact ne_int (cZ I q (congrArg not a3J))
  |str j=>obtain⟨t',rfl⟩:=ry;exact PySem.EqMixed.ne_int_str (cZ I q (by simp))
  |_=>exact absurd (show false=true from hs) Bool.false_ne_true
 |str i=>
  obtain⟨t,rfl⟩:=rx
  cases y with
  |non=>cases ry;exact PySem.EqNone.ne_str_none (cZ I q (by simp))
  |bl j=>cases ry;exact PySem.EqMixed.ne_str_bool (cZ I q (by simp))
  |int j=>obtain⟨t',rfl⟩:=ry;exact PySem.EqMixed.ne_str_int (cZ I q (by simp))
  |str j=>obtain⟨t',rfl⟩:=ry;exact ne_str (cZ I q (congrArg not a3T))
  |_=>exact absurd (show false=true from hs) Bool.false_ne_true
 |byt i=>
  obtain⟨t,rfl⟩:=rx
  cases y with
  |byt j=>obtain⟨t',rfl⟩:=ry;exact W.ne_bytes (cZ I q (congrArg not a1m))
  |_=>exact absurd (show false=true from hs) Bool.false_ne_true
 |_=>cases y<;>exact absurd (show false=true from hs) Bool.false_ne_true
theorem zG:dG X (compareOp .Lt) (mP fun i j=> .bl (decide (i<j))):=vW fun _ _ _ _ _ _ _ q=>lt_int q
theorem rR:dG X (compareOp .LtE) (mP fun i j=> .bl (decide (i<=j))):=vW fun _ _ _ _ _ _ _ q=>le_int q
theorem a1g:dG X (compareOp .Gt) (mP fun i j=> .bl (decide (j<i))):=vW fun _ _ _ _ _ _ _ q=>gt_int q
theorem a0K:dG X (compareOp .GtE) (mP fun i j=> .bl (decide (j<=i))):=vW fun _ _ _ _ _ _ _ q=>ge_int q
theorem a6b:dG X (compareOp .In) (fun x y H Q=>∃i j,x= .str i/\y= .str j/\Q (.bl (!(Builtin.Str.occurrences j i 0 j.length 1).isEmpty)) H):=by
 intro ae s σ H x y v u Q I rx ry h;obtain⟨i,j,rfl,rfl,q⟩:=h;obtain⟨t,rfl⟩:=rx;obtain⟨t',rfl⟩:=ry;exact in_str (cZ I q rfl)
theorem pL:dG X (compareOp .Is) (fun x y H Q=>y= .non/\Q (.bl (decide (x= .non))) H):=by
 intro ae s σ H x y v u Q I rx ry h;obtain⟨rfl,q⟩:=h;cases ry;refine is_none_gen (cZ I q ?_);cases x<;>first
  |(cases rx;rfl)
  |(obtain⟨t,rfl⟩:=rx;rfl)
theorem a8K:dG X (compareOp .IsNot) (fun x y H Q=>y= .non/\Q (.bl (!decide (x= .non))) H):=by
 intro ae s σ H x y v u Q I rx ry h;obtain⟨rfl,q⟩:=h;cases ry;refine isnot_none_gen (cZ I q ?_);cases x<;>first
  |(cases rx;rfl)
  |(obtain⟨t,rfl⟩:=rx;rfl)
theorem dA(b:Expr){op:CmpOp}(h:op≠ .In:=by decide)(h2:op≠ .NotIn:=by decide):behindInMarks op b=false:=by
 have e1:(op==CmpOp.In)=false:=by cases op<;>first|rfl|exact absurd rfl h
 have e2:(op==CmpOp.NotIn)=false:=by cases op<;>first|rfl|exact absurd rfl h2
 cases b<;>simp[behindInMarks,e1,e2]
theorem wH{op:CmpOp}(ho:dG X (compareOp op) r)(ha:PE X a ta)(hb:PE X b tb)(hm:behindInMarks op b=false):PE X (.Compare a [op] [b] pos) (rG r ta tb):=by
 intro ae s σ H Q I h;exact wpAny_Compare1 (binT ha hb I h fun v u s2 x y H2 I2 rx ry q=>ho ae s2 σ H2 x y v u Q I2 rx ry q) hm
def a04(t:TE):TT:=fun σ H Q=>t σ H fun x H'=>∃k,x= .bl k/\Q k H'
theorem cR{op:CmpOp}(ho:dG X (compareOp op) r)(ha:PE X a ta)(hb:PE X b tb)(hm:behindInMarks op b=false):PT X (.Compare a [op] [b] pos) (a04 (rG r ta tb)):=by
 intro ae s σ H Q I h
 refine wpAny_isTrue_Compare1 (aT (ha ae s σ H _ I h) fun v s1 ⟨x,H1,I1,r1,q1⟩=>aT (hb ae s1 σ H1 _ I1 q1) fun u s2 ⟨y,H2,I2,r2,q2⟩=>
  aT (ho ae s2 σ H2 x y v u _ I2 r1 r2 q2) fun c s3 ⟨z,H3,I3,r3,k,e,q3⟩=> ?_) hm
 subst e;cases r3;exact wpAny_truthy_bool ⟨H3,I3,q3⟩
def a6r(r r':R2)(ta tb tc:TE):TE:=fun σ H Q=>ta σ H fun x H1=>tb σ H1 fun y H2=>r x y H2 fun z H3=>∃k,z= .bl k/\
 (if k=true then tc σ H3 fun w' H4=>r' y w' H4 Q else Q (.bl false) H3)
theorem a0Z{op op':CmpOp}{r':R2}(ho:dG X (compareOp op) r)(ho':dG X (compareOp op') r')(ha:PE X a ta)(hb:PE X b tb)(hc:PE X c tc)
 (hm:lastMarks [op,op'] [b,c]=false:=by with_unfolding_all rfl):PT X (.Compare a [op,op'] [b,c] pos) (a04 (a6r r r' ta tb tc)):=by
 intro ae s σ H Q I h
 refine isTrue_chain (aT (ha ae s σ H _ I h) fun v s1 ⟨x,H1,I1,r1,q1⟩=>test_link (aT (hb ae s1 σ H1 _ I1 q1) fun u s2 ⟨y,H2,I2,r2,q2⟩=>
  aT (ho ae s2 σ H2 x y v u _ I2 r1 r2 q2) fun d s3 ⟨z,H3,I3,r3,k,e,q3⟩=> ?_)) hm
 subst e;cases r3;refine wpAny_truthy_bool ?_
 cases k with
 |false=>
  obtain⟨k',e',q'⟩:=q3;cases e';exact ite_ff ⟨H3,I3,q'⟩
 |true=>
  refine ite_tt (test_last (aT (hc ae s3 σ H3 _ I3 q3) ?_));rintro w' s4 ⟨z',H4,I4,r4,q4⟩;refine aT (ho' ae s4 σ H4 y z' u w' _ I4 r2 r4 q4) ?_;rintro d' s5 ⟨z2,H5,I5,r5,k2,e2,q5⟩;refine ?_;subst e2;cases r5;exact wpAny_truthy_bool ⟨H5,I5,q5⟩
def TruV(K:Fg)(x:V)(H:Hp)(k:Bool):Prop:=
 match x with
 | .non=>k=false
 | .bl b=>k=b
 | .int i=>k=(i !=0)
 | .str y=>y.length<=sizeLine/\k=((y.length:Int) !=0)
 | .byt y=>y.size<=sizeLine/\k=((y.size:Int) !=0)
 | .ref p=>(∃xs,aM K H p xs/\k= !xs.isEmpty)\/ (∃xs,bR K H p xs/\k= !xs.isEmpty)\/ ∃kvs,H p=some (.dK kvs)/\k= !kvs.isEmpty
 |_=>False
theorem a5i{κ:Type}{kvs:List (κ×V)}{vs:List (κ×Value)}(r:KV kvs vs):(!vs.isEmpty)= !kvs.isEmpty:=by
 cases r<;>rfl
theorem a4s(r:aW xs its):(!its.toArray.isEmpty)= !xs.isEmpty:=by
 cases r<;>simp
theorem pH:(sizeLine:Nat)<2^ 63:=by rw[sizeLine_eq];decide
theorem a9n:TruR X (fun x H Q=>∃k,TruV X.K x H k/\Q k H):=by
 intro ae s σ H x v Q I rx h;obtain⟨k,e,q⟩:=h;have hl:=pH;have hs:sizeLine=16777216:=sizeLine_eq
 cases x with
 |non=>
  cases rx;have e':k=false:=e;subst e';exact truthy_none ⟨H,I,q⟩
 |bl b=>
  cases rx;have e':k=b:=e;subst e';exact wpAny_truthy_bool ⟨H,I,q⟩
 |int i=>
  obtain⟨t,rfl⟩:=rx;have e':k=(i !=0):=e;subst e';exact PySem.P.truthy_int ⟨H,I,q⟩
 |str y=>
  obtain⟨t,rfl⟩:=rx;obtain⟨hy,e'⟩:y.length<=sizeLine/\k=((y.length:Int) !=0):=e;subst e';exact PySem.P.truthy_str (by omega) ⟨H,I.tok _,q⟩
 |byt y=>
  obtain⟨t,rfl⟩:=rx;obtain⟨hy,e'⟩:y.size<=sizeLine/\k=((y.size:Int) !=0):=e;subst e';exact W.truthy_bytes (by omega) ⟨H,I.tok _,q⟩
 |ref p=>
  cases rx;have e':(∃xs,aM X.K H p xs/\k= !xs.isEmpty)\/ (∃xs,bR X.K H p xs/\k= !xs.isEmpty)\/ ∃kvs,H p=some (.dK kvs)/\k= !kvs.isEmpty:=e
  rcases e' with⟨xs,hx,e'⟩|⟨xs,hx,e'⟩|⟨kvs,hx,e'⟩
  ·subst e'
   obtain⟨its,r,pl,hz⟩:=I.list hx;have hlen:=r.length;exact wpAny_truthy_list pl.isList (by simp only[List.size_toArray];omega) ⟨H,I.tok _,by rw[a4s r];exact q⟩
  ·subst e'
   obtain⟨its,r,pl,hz⟩:=I.tuple hx;have hlen:=r.length;exact truthy_tuple pl (by simp only[List.size_toArray];omega) ⟨H,I.tok _,by rw[a4s r];exact q⟩
  ·subst e'
   obtain⟨hz,hS,vs,r,m⟩:kvs.length<=sizeLine/\(p==sysModules)=false/\∃vs,KV kvs vs/\s.heap.DictOf (fH X.prog X.w) p vs:=I.hok p _ hx;have hlen:kvs.length=vs.length:=Paired.length r;exact wpAny_truthy_dict hS m (by omega) ⟨H,I.tok _,by rw[a5i r];exact q⟩
 |_=>exact(show False from e).elim
theorem a4V(ha:PE X a ta)(he:∀whole,isTrue a X.env whole=(do let v<- whole;standAt a.pos;holding [v] (truthy v))):
 PT X a (fun σ H Q=>ta σ H fun x H'=>∃k,TruV X.K x H' k/\Q k H'):=by
 intro ae s σ H Q I h;refine isTrue_plain (aT (ha ae s σ H _ I h) ?_) (he _);rintro v s1 ⟨x,H1,I1,r1,q1⟩;exact a9n ae s1 σ H1 x v Q I1 r1 q1
theorem pR{x:V}(r:aW [x] us):∃u,us= [u] /\aZ x u:=by
 cases r with
 |cons r1 r2=>cases r2;exact⟨_,rfl,r1⟩
theorem b0f:jM X (.builtin "abs") (fun xs H Q=>∃i,xs= [.int i] /\Q (.int (if i<0 then-i else i)) H):=by
 intro ae s σ H xs us Q I r h;obtain⟨i,rfl,q⟩:=h;obtain⟨u,rfl,t,rfl⟩:=pR r;exact call_abs_int fun u tk=>⟨.int (if i<0 then-i else i),H,I.tok _,⟨_,rfl⟩,q⟩
def LenV(K:Fg)(x:V)(H:Hp)(n:Nat):Prop:=
 match x with
 | .str y=>y.length<=sizeLine/\n=y.length
 | .byt y=>y.size<=sizeLine/\n=y.size
 | .ref p=>(∃xs,aM K H p xs/\n=xs.length)\/ ∃xs,bR K H p xs/\n=xs.length
 |_=>False
theorem jX:jM X (.builtin "len") (fun xs H Q=>∃x n,xs= [x] /\LenV X.K x H n/\Q (.int n) H):=by
 intro ae s σ H xs us Q I r h;obtain⟨x,n,rfl,e,q⟩:=h;obtain⟨u,rfl,rx⟩:=pR r;have hl:=pH;have hs:sizeLine=16777216:=sizeLine_eq
 cases x with
 |str y=>
  obtain⟨t,rfl⟩:=rx;obtain⟨hy,e'⟩:y.length<=sizeLine/\n=y.length:=e;subst e';exact len_str (by omega) ⟨.int _,H,I.tok _,⟨_,rfl⟩,q⟩
 |byt y=>
  obtain⟨t,rfl⟩:=rx;obtain⟨hy,e'⟩:y.size<=sizeLine/\n=y.size:=e;subst e';exact W.len_bytes (by omega) ⟨.int _,H,I.tok _,⟨_,rfl⟩,q⟩
 |ref p=>
  cases rx;have e':(∃xs,aM X.K H p xs/\n=xs.length)\/ ∃xs,bR X.K H p xs/\n=xs.length:=e
  rcases e' with⟨xs,hx,e'⟩|⟨xs,hx,e'⟩
  ·subst e'
   obtain⟨its,r',pl,hz⟩:=I.list hx;have hlen:=r'.length;exact Calls.call_len_list pl.isList (by simp only[List.size_toArray];omega) ⟨.int xs.length,H,I.tok _,⟨_,by simp only[List.size_toArray];rw[hlen]⟩,q⟩
  ·subst e'
   obtain⟨its,r',pl,hz⟩:=I.tuple hx;have hlen:=r'.length;exact len_tuple pl (by simp only[List.size_toArray];omega) ⟨.int xs.length,H,I.tok _,⟨_,by simp only[List.size_toArray];rw[hlen]⟩,q⟩
 |_=>exact(show False from e).elim
end
structure oJ(h:Heap)(x dx C:Addr)(mA:Str->Option Value):Prop where
 obj:h.get? x=some (W.instObj C dx)
 ns:h.Ns1 dx mA
 ne:dx≠x
theorem a5Q{mA:Str->Option Value}(n:h.Ns1 dx mA):∃od,h.get? dx=some od/\∀name,W.lookIn name od=some (mA name):=by
 obtain⟨o,es,ep,ho,hd,hk,_,hm⟩:=n;refine⟨o,ho,fun name=> ?_⟩;have e:=hm name;unfold nsFind findBy at e;rw[<- Array.find?_toList]at e;unfold W.lookIn;rw[hd];dsimp only;split
 ·rename_i y q
  rw[q]at e;exact congrArg some e
 ·rename_i q
  rw[q]at e
  have a:es.toList.any (·.refKey)=false:=by
   rw[List.any_eq_false];intro y hy;obtain⟨z,t,hkey⟩:=hk y (Array.mem_toList_iff.mp hy);simp[DictEntry.refKey,hkey]
  have a':¬es.toList.any (·.refKey)=true:=by rw[a];exact Bool.false_ne_true
  rw[if_neg a'];exact congrArg some e
theorem oJ.look{x:Addr}{mA:Str->Option Value}(I:oJ h x dx C mA):∃od,W.InstAt h x (W.instObj C dx) C (some od)/\∀name,W.lookIn name od=some (mA name):=
 let ⟨od,ho,hl⟩:=a5Q I.ns
 ⟨od,⟨I.obj,rfl,rfl,ho⟩,hl⟩
section
variable{s:Shared}{x:Addr}{mA:Str->Option Value}{name:Str}{v:Value}
theorem a9C{expr:Bool}(X:K.In s.heap)(I:oJ s.heap x dx C mA)(hg:W.plainGet K C name=true)(hh:W.hasDictIn K C=true)
 (ha:W.findIn K (.ref C) name=some none)(hv:mA name=some v)(hv':W.handedIn v=true)(h:Q v {s with toks:=s.toks+ 1}):
 wpAny (model prog w) A (getAttr (.ref x) name expr) Q E s:=by
 obtain⟨od,J,hl⟩:=I.look;exact W.get_value X J (W.plainGet_of hg).1 (W.findObj_own hh ha rfl (by rw[hl,hv])) hv' h
theorem a6H{pl:Sem Bool}{Q:Value×List Value->Shared->Prop}(X:K.In s.heap)(I:oJ s.heap x dx C mA)(hg:W.plainGet K C name=true)
 (hf:W.findIn K (.ref C) name=some (some (.ref f)))(ht:W.isFn K (.ref f)=true)(hv:mA name=none)(h:Q (.ref f,[.ref x]) s):
 wpAny (model prog w) A (getMethod (.ref x) name pl) Q E s:=by
 obtain⟨od,J,hl⟩:=I.look;exact W.method_fn X J (W.plainGet_of hg).1 (W.plainGet_of hg).2 hf (beq_iff_eq.mp ht) (by show(W.lookIn name od).map (·.isSome)=some false;rw[hl,hv];rfl) h
theorem a50{ns:List Str}{Q:Unit->Shared->Prop}(X:K.In s.heap)(I:oJ s.heap x dx C mA)
 (hs:W.findIn K (.ref C) "__setattr__"=some (some (.builtin "object.__setattr__")))(hp:W.plainOver K C=true)(ht:W.takerIn K C name=some none)(hh:W.hasDictIn K C=true)
 (hw:PySem.Within mA ns)(hsz:ns.length<=sizeLine)
 (h:∀h',oJ h' x dx C (fun y=>if y=name then some v else mA y)->Heap.SameBut dx s.heap h'->Q () {s with heap:=h',toks:=s.toks+ 2}):
 wpAny (model prog w) A (setAttr (.ref x) name v) Q E s:=by
 obtain⟨od,J,hl⟩:=I.look;refine W.set_plain X J hs (W.osa_open (s:={s with toks:=s.toks+ 1}) (r:=none) X J hp ht fun b=> ?_);obtain⟨cd,hc,hd'⟩:=W.any_some hh;have hx:s.heap.get? x=some ⟨.ref C,some dx,.plain,#[]⟩:=I.obj;refine wpAny_bind (wpAny_pure (wpAny_bind (wpAny_bind (wpAny_loadPart hx (wpAny_bind (W.Looks.here (s:={s with toks:=s.toks+ 1}) (W.looks_clsIn X hc) ?_))))));rw[hd'];refine wpAny_pure (a:=some dx) (wpAny_bind (wpAny_pure (wpAny_bind ?_)));refine wpAny_nsSet1 (s:={s with toks:=s.toks+ 1}) I.ns fun h' hn2 hs2=> ?_
 obtain⟨oD,esD,epD,hoD,hdD,hcD⟩:=hn2.count (PySem.Within.cons name v hw);refine wpAny_bind (wpAny_lookBehind hoD (by rw[hdD];exact pastItsLine_dict (Nat.le_trans hcD (by rw[List.length_cons];omega))) ?_);exact wpAny_pure (h _ ⟨(hs2.2 _ (Ne.symm I.ne)).trans I.obj,hn2,I.ne⟩ hs2)
theorem a6a{R:Result->Shared->Prop}{vs:List Value}{kw:List (Str×Value)}(X:K.In s.heap)(hm:W.makesIn K C=true)
 (hi:W.findIn K (.ref C) "__init__"=some (some (.ref f)))(hf:W.typeIn K (.ref f)=some (.type "function"))
 (h:codeAny (model prog w) (A.under (.builtin "type.__call__" ⟨.ref C::vs,kw⟩)) (.call (.ref f) ⟨.ref (s.heap.objs.size+ 1)::vs,kw⟩) (W.InitBack (s.heap.objs.size+ 1) R)
  {s with heap:=(s.heap.push W.emptyDict).push (W.instObj C s.heap.objs.size)}):
 codeAny (model prog w) A (.call (.ref C) ⟨vs,kw⟩) R s:=by
 obtain⟨hh,g,d,t,os⟩:=s;exact W.make_core (W.makes_of X hm) (W.looks_findIn X hi) (fun self=>W.bind_fn X self hf) (.inl rfl) h
end
noncomputable def aN (f:Str) (v:V):List (Str×V)->List (Str×V)
 | []=> [(f,v)]
 |(g,x)::r=>if g=f then(g,v)::r else(g,x)::aN f v r
theorem a4b(f g:Str)(v:V):∀fs:List (Str×V),(aN f v fs).lookup g=if g=f then some v else fs.lookup g
 | []=>by
  show List.lookup g [(f,v)]=_;by_cases h:g=f
  ·have hb:(g==f)=true:=beq_iff_eq.mpr h
   simp only[List.lookup,hb,if_pos h]
  ·have hb:(g==f)=false:=beq_eq_false_iff_ne.mpr h
   simp only[List.lookup,hb,if_neg h]
 |(k,x)::r=>by
  have ih:=a4b f g v r;rw[show aN f v ((k,x)::r)=(if k=f then(k,v)::r else(k,x)::aN f v r) from rfl];by_cases hk:k=f
  ·rw[if_pos hk]
   by_cases h:g=k
   ·have hb:(g==k)=true:=beq_iff_eq.mpr h
    simp only[List.lookup,hb,if_pos (h.trans hk)]
   ·have hb:(g==k)=false:=beq_eq_false_iff_ne.mpr h
    simp only[List.lookup,hb,if_neg (fun e:g=f=>h (e.trans hk.symm))]
  ·rw[if_neg hk]
   by_cases h:g=k
   ·have hb:(g==k)=true:=beq_iff_eq.mpr h
    simp only[List.lookup,hb,if_neg (fun e:g=f=>hk (h.symm.trans e))]
   ·have hb:(g==k)=false:=beq_eq_false_iff_ne.mpr h
    simp only[List.lookup,hb];exact ih
theorem a0k(f:Str)(v:V):∀fs:List (Str×V),f∈(aN f v fs).map (·.1)/\∀g,g∈fs.map (·.1)->g∈(aN f v fs).map (·.1)
 | []=>⟨by simp[aN],fun g h=>by simp at h⟩
 |(k,x)::r=>by
  obtain⟨i1,i2⟩:=a0k f v r;rw[show aN f v ((k,x)::r)=(if k=f then(k,v)::r else(k,x)::aN f v r) from rfl];by_cases hk:k=f
  ·rw[if_pos hk]
   subst hk;exact⟨by simp,fun g h=>by simpa using h⟩
  ·rw[if_neg hk]
   refine⟨?_,fun g h=> ?_⟩
   ·rw[List.map_cons]
    exact List.mem_cons_of_mem _ i1
   ·rw[List.map_cons]at h|-
    rcases List.mem_cons.mp h with e|e
    ·exact List.mem_cons.mpr (.inl e)
    ·exact List.mem_cons_of_mem _ (i2 g e)
theorem a27(f:Str)(v:V):∀fs:List (Str×V),(aN f v fs).length<=fs.length+ 1
 | []=>by simp[aN]
 |(k,x)::r=>by
  have ih:=a27 f v r;rw[show aN f v ((k,x)::r)=(if k=f then(k,v)::r else(k,x)::aN f v r) from rfl];by_cases hk:k=f
  ·rw[if_pos hk,List.length_cons,List.length_cons];omega
  ·rw[if_neg hk,List.length_cons,List.length_cons];omega
theorem gG.some_of{v:V}{o:Option Value}(r:gG (some v) o):∃u,o=some u/\aZ v u:=by
 cases o with
 |none=>exact(show False from r).elim
 |some u=>exact⟨u,rfl,r⟩
theorem gG.none_of{o:Option Value}(r:gG none o):o=none:=by
 cases o with
 |none=>rfl
 |some u=>exact(show False from r).elim
theorem a8w{v:V}(r:aZ v u):W.handedIn u=true:=by
 cases v with
 |non=>cases (show u=Value.none from r);rfl
 |bl b=>cases (show u=Value.bool b from r);rfl
 |int i=>obtain⟨t,e⟩:=(show∃t,u=Value.int i t from r);cases e;rfl
 |str x=>obtain⟨t,e⟩:=(show∃t,u=Value.str x t from r);cases e;rfl
 |byt b=>obtain⟨t,e⟩:=(show∃t,u=Value.bytes b t from r);cases e;rfl
 |flt b=>obtain⟨t,e⟩:=(show∃t,u=Value.float b t from r);cases e;rfl
 |ref a=>cases (show u=Value.ref a from r);rfl
 |ty n=>cases (show u=Value.type n from r);rfl
section
variable{fs fs':List (Str×V)}
theorem uK(hok:bX P w H h)(e:H a=some (.ins C dx fs)):∃mA,oJ h a dx C mA/\(∀f,gG (fs.lookup f) (mA f))/\PySem.Within mA (fs.map (·.1))/\fs.length<=1000/\H dx=some (.own a):=by
 obtain⟨d,z,ne,ob,mA,n,r,q⟩:=(show cU P w H h a (.ins C dx fs) from hok a _ e);exact⟨mA,⟨ob,n,ne⟩,r,q,z,d⟩
end
structure cG(K:Fg)(C:Addr):Prop where
 pg:W.plainGet K C Str.empty=true
 hd:W.hasDictIn K C=true
 po:W.plainOver K C=true
 sa:W.findIn K (.ref C) "__setattr__"=some (some (.builtin "object.__setattr__"))
theorem cG.get(c:cG K C)(f:Str):W.plainGet K C f=true:=c.pg
def cE(K:Fg)(C:Addr)(f:Str):Prop:=W.findIn K (.ref C) f=some none
theorem cE.taker{f:Str}(n:cE K C f):W.takerIn K C f=some none:=by
 unfold W.takerIn;rw[show W.findIn K (.ref C) f=some none from n];rfl
structure Con(K:Fg)(C:Addr)(f:Str)(v:V)(u:Value):Prop where
 at_:W.findIn K (.ref C) f=some (some u)
 rel:aZ v u
 get:W.specialIn K u "__get__"=some none
 cp:W.copiedNames.contains f=false
structure rS(K:Fg)(C:Addr)(m:Str)(f:Addr):Prop where
 at_:W.findIn K (.ref C) m=some (some (.ref f))
 fn:W.isFn K (.ref f)=true
 kp:W.keepIn K (.ref f)=true
section
variable{s:Shared}{fs:List (Str×V)}{f:Str}{v:V}
theorem a3m{b:Bool}(I:aC X ae σ H s)(e:H a=some (.ins C dx fs))(c:cG X.K C)(n:cE X.K C f)(l:fs.lookup f=some v)
 (h:∀u s',aC X ae σ H s'->aZ v u->Q u s'):wpAny (model X.prog X.w) A (getAttr (.ref a) f b) Q E s:=by
 obtain⟨mA,O,r,_,_,_⟩:=uK I.hok e;obtain⟨u,hu,ru⟩:=gG.some_of (v:=v) (o:=mA f) (by rw[<- l];exact r f);exact a9C I.kIn O (c.get f) c.hd n hu (a8w ru) (h u _ (I.tok _) ru)
theorem rV{g:Addr}{pl:Sem Bool}{Q:Value×List Value->Shared->Prop}(I:aC X ae σ H s)(e:H a=some (.ins C dx fs))(c:cG X.K C)(k:rS X.K C m g)(l:fs.lookup m=none)
 (h:Q (.ref g,[.ref a]) s):wpAny (model X.prog X.w) A (getMethod (.ref a) m pl) Q E s:=by
 obtain⟨mA,O,r,_,_,_⟩:=uK I.hok e;have hn:mA m=none:=gG.none_of (by rw[<- l];exact r m);exact a6H I.kIn O (c.get m) k.at_ k.fn hn h
theorem a90{Q:Unit->Shared->Prop}(I:aC X ae σ H s)(e:H a=some (.ins C dx fs))(c:cG X.K C)(n:cE X.K C f)(hl:fs.length<1000)(ry:aZ y u)
 (h:∀s',aC X ae σ (upd H a (.ins C dx (aN f y fs))) s'->Q () s'):wpAny (model X.prog X.w) A (setAttr (.ref a) f u) Q E s:=by
 obtain⟨mA,O,r,wi,_,ho⟩:=uK I.hok e
 have hz:(fs.map (·.1)).length<=sizeLine:=by rw[List.length_map,sizeLine_eq];omega
 refine a50 I.kIn O c.sa c.po n.taker c.hd wi hz fun h' O' sb=>h _ ?_
 have hd:∃o,h'.get? dx=some o:=let ⟨o,_,_,e',_⟩:=O'.ns;⟨o,e'⟩;refine I.write (x:=a) (e:=dx) (by rw[e];exact True.intro) (.inr ho) (fun b q hb z=>(sb.2 b hb).trans z) hd ?_;refine⟨by rw[aH O.ne];exact ho,?_,O.ne,O'.obj,_,O'.ns,fun g=> ?_,fun g hg=> ?_⟩
 ·have:=a27 f y fs;omega
 ·show gG ((aN f y fs).lookup g) (if g=f then some u else mA g)
  rw[a4b];by_cases q:g=f
  ·rw[if_pos q,if_pos q];exact ry
  ·rw[if_neg q,if_neg q];exact r g
 ·by_cases q:g=f
  ·rw[q];exact(a0k f y fs).1
  ·refine(a0k f y fs).2 g (wi g fun z=>hg ?_)
   show(if g=f then some u else mA g)=none;rw[if_neg q];exact z
theorem aC.made(I:aC X ae σ H s):aC X ae σ (upd (upd H s.heap.objs.size (.own (s.heap.objs.size+ 1))) (s.heap.objs.size+ 1) (.ins C s.heap.objs.size []))
 {s with heap:=(s.heap.push W.emptyDict).push (W.instObj C s.heap.objs.size)}:=by
 have e1:(s.heap.push W.emptyDict).get? s.heap.objs.size=some W.emptyDict:=Heap.get?_push_size s.heap rfl
 have e2:((s.heap.push W.emptyDict).push (W.instObj C s.heap.objs.size)).get? (s.heap.objs.size+ 1)=some (W.instObj C s.heap.objs.size):=by
  have:=Heap.get?_push_size (s.heap.push W.emptyDict) (o:=W.instObj C s.heap.objs.size) rfl
  rwa [Heap.size_push]at this
 have e3:(s.heap.push W.emptyDict).Ns s.heap.objs.size (fun _=>none):=⟨W.emptyDict,#[],_,e1,rfl,(fun e he=>absurd he (by simp)),fun _=>rfl⟩;have I1:=I.laid (a:=s.heap.objs.size) (o:=.own (s.heap.objs.size+ 1)) (h':=s.heap.push W.emptyDict) (t':=s.toks) (fun b u q=>Heap.get?_push_of_some _ q) (Nat.le_refl _) ⟨_,e1⟩;refine I1.laid (a:=s.heap.objs.size+ 1) (o:=.ins C s.heap.objs.size []) (t':=s.toks) (fun b u q=>Heap.get?_push_of_some _ q) (Nat.le_of_eq (Heap.size_push _ _)) ?_;have ne:s.heap.objs.size≠s.heap.objs.size+ 1:=Nat.ne_of_lt (Nat.lt_succ_self _);refine⟨by rw[aH ne,aI],Nat.zero_le _,ne,e2,fun _=>none,(Heap.Ns1.of_empty e3).at fun o q=>Heap.get?_push_of_some _ q,fun _=>True.intro,fun y hy=>absurd rfl hy⟩
theorem a9X{env:Env}{f:Str}{s:Shared}(hb:attributeBase e f env (eval e env)=eval e env)
 (h:wpAny (model prog w) A (eval e env) (fun o s₁=>wpAny (model prog w) A (getAttr o f true) Q E s₁) E s):wpAny (model prog w) A (eval (.Attribute e f pos) env) Q E s:=
 Attribute_any_ h (by rw[arm_eval_Attribute,hb])
end
def tFld(K:Fg)(ta:TE)(f:Str):TE:=fun σ H Q=>ta σ H fun x H1=>∃a C dx fs v,x= .ref a/\H1 a=some (.ins C dx fs)/\cG K C/\cE K C f/\fs.lookup f=some v/\Q v H1
def sFld(K:Fg)(ta tv:TE)(f:Str):TS:=fun D σ H=>tv σ H fun y H1=>ta σ H1 fun x H2=>∃a C dx fs,x= .ref a/\H2 a=some (.ins C dx fs)/\cG K C/\cE K C f/\fs.length<1000/\
 D.nx σ (upd H2 a (.ins C dx (aN f y fs)))
section
variable{o value:Expr}{f:Str}{tpos:Pos}{tv:TE}
theorem aV(he:PE X e ta)(hb:attributeBase e f X.env (eval e X.env)=eval e X.env):PE X (.Attribute e f pos) (tFld X.K ta f):=by
 intro ae s σ H Q I h;refine a9X hb (aT (he ae s σ H _ I h) ?_);rintro u s1 ⟨x,H1,I1,rx,a,C,dx,fs,v,ex,ea,c,n,l,q⟩;refine ?_;subst ex;obtain rfl:u=Value.ref a:=rx;exact a3m I1 ea c n l fun u' s2 I2 ru=>⟨v,H1,I2,ru,q⟩
theorem cV(ha:PE X o ta)(hv:PE X value tv)(hs:swapsWith value (some (.Attribute o f pos')) pos.line X.env=pure false):PS X (.Assign [.Attribute o f pos'] value pos) (sFld X.K ta tv f):=by
 intro ae s σ H D I h;refine plainObj_wpAny_Assign_Attribute (aT (hv ae s σ H _ I h) ?_) hs;rintro u s1 ⟨y,H1,I1,ry,q⟩;refine aT (ha ae s1 σ H1 _ I1 q) ?_;rintro ov s2 ⟨x,H2,I2,rx,a,C,dx,fs,ex,ea,c,n,l,q2⟩;refine ?_;subst ex;obtain rfl:ov=Value.ref a:=rx;exact a90 I2 ea c n l ry fun s3 I3=>⟨σ,_,I3,q2⟩
theorem methcall_of{pl:Sem Bool}{args:List Expr}{s:Shared}(he:PE X e te)(I:aC X ae σ H s)
 (h:te σ H fun x H1=>∃a C dx fs g,x= .ref a/\H1 a=some (.ins C dx fs)/\cG X.K C/\rS X.K C m g/\fs.lookup m=none/\
  ∀s1,aC X ae σ H1 s1->wpAny (model X.prog X.w) X.A (callWith pos (.ref g) [.ref a] (backTo pos (starEach args X.env)) (backToKw pos (keywordEach [] X.env))) Q X.xe s1)
 (ht:eval (.Call (.Attribute e m apos) args [] pos) X.env=(do
  let ov<- eval e X.env
  standAt apos.atName
  let (f,first)<- holding [ov] (getMethod ov m pl)
  callWith pos f first (backTo pos (starEach args X.env)) (backToKw pos (keywordEach [] X.env)))):
 wpAny (model X.prog X.w) X.A (eval (.Call (.Attribute e m apos) args [] pos) X.env) Q X.xe s:=by
 refine W.methodCall_KW (pl:=pl) (aT (he ae s σ H _ I h) ?_) ht;rintro u s1 ⟨x,H1,I1,rx,a,C,dx,fs,g,ex,ea,c,k,l,q⟩;refine ?_;subst ex;obtain rfl:u=Value.ref a:=rx;exact rV I1 ea c k l (q s1 I1)
end
section
variable{s:Shared}{c:Value}{b:Bool}
inductive gZ(K:Fg)(H:Hp):V->Value->Prop where
 |non:gZ K H .non (.type "NoneType")
 |bl (x:Bool):gZ K H (.bl x) (.type "bool")
 |int (i:Int):gZ K H (.int i) (.type "int")
 |str (x:Str):gZ K H (.str x) (.type "str")
 |flt (x:UInt64):gZ K H (.flt x) (.type "float")
 |lst {a:Addr} {xs:List V} (e:H a=some (.lst xs)):gZ K H (.ref a) (.type "list")
 |frz {a:Addr} {o:Obj} {xs:List V} (e:H a=some (.frz o (.lst xs))):gZ K H (.ref a) (.type "list")
 |tup {a:Addr} {xs:List V} (e:H a=some (.tup xs)):gZ K H (.ref a) (.type "tuple")
 |dK {a:Addr} {kvs:List (aB×V)} (e:H a=some (.dK kvs)):gZ K H (.ref a) (.type "dict")
 |dT {a:Addr} {kvs:List (List aB×V)} (e:H a=some (.dT kvs)):gZ K H (.ref a) (.type "dict")
 |ins {a C dx:Addr} {fs:List (Str×V)} (e:H a=some (.ins C dx fs)) (cl:cG K C) (ha:W.findIn K (.ref C) "__class__"=some (some (.builtin "object.__class__")))
  (hn:W.specialIn K (.builtin "object.__class__") "__get__"=some (some (.builtin "getset_descriptor.__get__"))) (htk:W.takesIn K (.builtin "object.__class__")=some true)
  (hm:W.mroIn K C (.type "object")=some true):gZ K H (.ref a) (.ref C)
theorem a94{x:V}{t:Value}(I:aC X ae σ H s)(rx:aZ x u)(ty:gZ X.K H x t)(e:W.kitOne X.K t c=some b)(h:∀tk,Q (.bool b) {s with toks:=tk}):
 wpAny (model X.prog X.w) A (call (.builtin "isinstance") [u,c]) Q E s:=by
 cases ty with
 |non=>cases (show u=Value.none from rx);exact W.kia_one W.kitx_none I.kIn True.intro e (fun z=>nomatch z) h
 |bl y=>cases (show u=Value.bool y from rx);exact W.kia_one W.kitx_bool I.kIn True.intro e (fun z=>nomatch z) h
 |int i=>obtain⟨t,q⟩:=(show∃t,u=Value.int i t from rx);cases q;exact W.kia_one W.kitx_int I.kIn True.intro e (fun z=>nomatch z) h
 |str y=>obtain⟨t,q⟩:=(show∃t,u=Value.str y t from rx);cases q;exact W.kia_one W.kitx_str I.kIn True.intro e (fun z=>nomatch z) h
 |flt y=>obtain⟨t,q⟩:=(show∃t,u=Value.float y t from rx);cases q;exact W.kia_one W.kitx_float I.kIn True.intro e (fun z=>nomatch z) h
 | @lst a xs ea=>
  cases (show u=Value.ref a from rx);obtain⟨_,_,n,_,h1⟩:=(show cU X.prog X.w H s.heap a (.lst xs) from I.hok a _ ea);exact W.kia_one W.kitx_list I.kIn ⟨_,h1,rfl⟩ e (fun z=>nomatch z) h
 | @frz a ob xs ea=>
  cases (show u=Value.ref a from rx);obtain⟨_,_,_,n,_,h1⟩:=(show cU X.prog X.w H s.heap a (.frz ob (.lst xs)) from I.hok a _ ea);exact W.kia_one W.kitx_list I.kIn ⟨_,h1,rfl⟩ e (fun z=>nomatch z) h
 | @tup a xs ea=>
  cases (show u=Value.ref a from rx);obtain⟨_,_,_,p⟩:=(show cU X.prog X.w H s.heap a (.tup xs) from I.hok a _ ea);obtain⟨o,h1,h2,_⟩:=p;exact W.kia_one W.kitx_tuple I.kIn ⟨o,h1,h2⟩ e (fun z=>nomatch z) h
 | @dK a kvs ea=>
  cases (show u=Value.ref a from rx);obtain⟨_,_,vs,_,p⟩:=(show cU X.prog X.w H s.heap a (.dK kvs) from I.hok a _ ea);obtain⟨o,es,ep,h1,h2,_⟩:=p;exact W.kia_one W.kitx_dict I.kIn ⟨o,h1,h2.1⟩ e (fun z=>nomatch z) h
 | @dT a kvs ea=>
  cases (show u=Value.ref a from rx);obtain⟨_,_,xs,_,o,es,ep,h1,h2,_⟩:=(show cU X.prog X.w H s.heap a (.dT kvs) from I.hok a _ ea);exact W.kia_one W.kitx_dict I.kIn ⟨o,h1,h2.1⟩ e (fun z=>nomatch z) h
 | @ins a C dx fs ea cl ha hn htk hm=>
  cases (show u=Value.ref a from rx);obtain⟨mA,O,_⟩:=uK I.hok ea;obtain⟨od,J,_⟩:=O.look;exact W.kia_one (W.kitx_own (cl.get _) cl.hd ha hn htk hm) I.kIn J e (fun z=>nomatch z) h
end
structure bV(k:Nat)(A:Around):Prop where
 hd:A.handled=none
 dp:A.depth+ 3* k+ 5<recursionLimit
 un:A.units+ 16* k+ 200<cLine
theorem bV.mono{k:Nat}(r:bV k A)(h:j<=k):bV j A:=⟨r.hd,by have:=r.dp;omega,by have:=r.un;omega⟩
theorem bV.mn{k:Nat}(r:bV k A)(h:j<=k:=by decide):bV j A:=r.mono h
theorem bV.deeper{k:Nat}(r:bV (k+ 1) A)(env:Env):bV k (A.deeper env):=
 ⟨r.hd,by have:=r.dp;show A.depth+ 1+ 3* k+ 5<_;omega,by have:=r.un;show A.units+ 3+ 16* k+ 200<_;omega⟩
theorem a5q{kw:List (Str×Value)}:(A.under (.builtin "type.__call__" ⟨.ref C::us,kw⟩)).depth=A.depth+ 1:=by
 first|rfl|simp[Around.under,Code.weight,Code.isCreation,Code.isGuard,Code.isCaller,Code.frames,Code.isFrame,guardIds]
theorem b0b{kw:List (Str×Value)}:(A.under (.builtin "type.__call__" ⟨.ref C::us,kw⟩)).units=A.units+ 1:=by
 first|rfl|simp[Around.under,Code.cUnits,Code.frames,Code.isFrame]
theorem bV.make{k:Nat}(r:bV (k+ 1) A)(C:Addr)(us:List Value)(kw:List (Str×Value)):bV k (A.under (.builtin "type.__call__" ⟨.ref C::us,kw⟩)):=
 ⟨r.hd,by have:=r.dp;rw[a5q];omega,by have:=r.un;rw[b0b];omega⟩
theorem bV.depth{k:Nat}(r:bV k A):A.depth<recursionLimit:=by have:=r.dp;omega
theorem bV.units{k:Nat}(r:bV k A):A.units+ 64<cLine:=by have:=r.un;omega
def jU:TA:=fun _ H Q=>Q [] H
def lQ(ta:TE)(tr:TA):TA:=fun σ H Q=>ta σ H fun x H1=>tr σ H1 fun xs H2=>Q (x::xs) H2
section
variable{t:TA}
theorem aG:PA X [] jU:=fun _ _ _ _ H Q I h=>Calls.spliced_nil ⟨[],H,I,.nil,h⟩
theorem aA(ha:PE X e te)(hr:PA X es t)(hs:starEach (e::es) X.env=(false,eval e X.env)::starEach es X.env:=by rfl):PA X (e::es) (lQ te t):=by
 intro pos ae s σ H Q I h;rw[hs];show wpAny _ _ (spliced ((false,eval e X.env)::backTo pos (starEach es X.env))) _ _ s;refine Calls.spliced_cons (aT (ha ae s σ H _ I h) ?_);rintro u s1 ⟨x,H1,I1,r1,q1⟩;refine ?_;refine aT (hr pos ae s1 σ H1 _ I1 q1) ?_;rintro us s2 ⟨xs,H2,I2,r2,q2⟩;exact⟨x::xs,H2,I2,.cons r1 r2,q2⟩
def tTup(t:TA):TE:=fun σ H Q=>t σ H fun xs H1=>xs.length<=sizeLine/\∀p,H1 p=none->Q (.ref p) (upd H1 p (.tup xs))
def tLst(t:TA):TE:=fun σ H Q=>t σ H fun xs H1=>xs.length<=sizeLine/\∀p,H1 p=none->Q (.ref p) (upd H1 p (.lst xs))
theorem fF{x1}(h:PA X es t):PE X (.Tuple es x1 pos) (tTup t):=by
 intro ae s σ H Q I hq;refine wpAny_Tuple_spliced (aT (h pos ae s σ H _ I hq) ?_);rintro us s1 ⟨xs,H1,I1,r,z,q⟩;refine⟨by rw[<- r.length];exact z,?_⟩;have hf:H1 s1.heap.objs.size=none:=I1.hok.fresh (Nat.le_refl _);refine⟨.ref s1.heap.objs.size,upd H1 s1.heap.objs.size (.tup xs),I1.laid (t':=s1.toks) (fun b u e=>Heap.get?_push_of_some _ e) (Nat.le_refl _) ?_,rfl,q _ hf⟩;exact⟨z,us,r,⟨_,Heap.get?_push_size _ rfl,rfl,_,rfl⟩⟩
theorem fC(h:PA X es t):PE X (.List es pos) (tLst t):=by
 intro ae s σ H Q I hq;refine wpAny_List_spliced (aT (h pos ae s σ H _ I hq) ?_);rintro us s1 ⟨xs,H1,I1,r,z,q⟩;refine⟨by rw[<- r.length];exact z,?_⟩;have hf:H1 s1.heap.objs.size=none:=I1.hok.fresh (Nat.le_refl _);refine⟨.ref s1.heap.objs.size,upd H1 s1.heap.objs.size (.lst xs),I1.laid (t':=s1.toks) (fun b u e=>Heap.get?_push_of_some _ e) (Nat.le_refl _) ?_,rfl,q _ hf⟩;exact⟨z,us,0,r,Heap.get?_push_size _ rfl⟩
end
abbrev Sp:=List V->Hp->VK->XK->Prop
abbrev fG:=List Env->Hp->Shared->XK->Value->Shared->Prop
structure lG(P:Program)(w:World)(K:Fg)(mg:Str->Option Value)(af:Heap)(A:Around)(ag:List Env)(s:Shared)(H:Hp):Prop where
 frames:A.frames=some ag
 mod:Mod K mg af
 bs:∀b o,af.get? b=some o->s.heap.get? b=some o/\H b=none
 bsz:af.objs.size<=s.heap.objs.size
 funs:s.heap.FunFrames af ag
 frf:∀b∈gH ag,H b=none
 hok:bX P w H s.heap
 bare:AllBare s.gens
variable{CX:fG}{sp:Sp}{RG:Addr->Sp->Prop}
def CE(ag:List Env)(P:Program)(w:World)(H:Hp)(s:Shared)(Q:VK)(u:Value)(s':Shared):Prop:=
 ∃v H',s'.os=s.os/\AllBare s'.gens/\Un (gH ag) [] H H' s.heap s'.heap/\bX P w H' s'.heap/\aZ v u/\Q v H'
def CR(CX:fG)(ag:List Env)(P:Program)(w:World)(H:Hp)(s:Shared)(Q:VK)(E:XK)(r:Result)(s':Shared):Prop:=
 match r with
 | .ok (.ret u)=>CE ag P w H s Q u s'
 | .ok _=>False
 | .error e=>CX ag H s E e s'
structure fT(P:Program)(w:World)(K:Fg)(mg:Str->Option Value)(af:Heap)(CX:fG)(k:Nat)(f:Addr)(fd:FuncData)(ps:List Str)(sp:Sp):Prop where
 len:∀vs H Q E,sp vs H Q E->vs.length=ps.length
 run:∀(A:Around) (ag:List Env) (s:Shared) (H:Hp) (args:Args) (us:List Value) (vs:List V) (Q:VK) (E:XK),bV k A->lG P w K mg af A ag s H->BindsTo s fd args (ps.zip us)->aW vs us->sp vs H Q E->
  codeAny (model P w) A (.call (.ref f) args) (CR CX ag P w H s Q E) s
theorem fT.mono{k:Nat}{fd:FuncData}(F:fT P w K mg af CX j f fd ps sp)(h:j<=k):
 fT P w K mg af CX k f fd ps sp:=⟨F.len,fun A ag s H args us vs Q E hr=>F.run A ag s H args us vs Q E (hr.mono h)⟩
theorem lG.make{ag:List Env}{s:Shared}(e:lG P w K mg af A ag s H)(C:Addr)(us:List Value)(kw:List (Str×Value)):
 lG P w K mg af (A.under (.builtin "type.__call__" ⟨.ref C::us,kw⟩)) ag s H:=⟨by first|exact e.frames|(simpa [Around.under,Code.envs,Code.isFrame,pushEnvs] using e.frames),e.mod,e.bs,e.bsz,e.funs,e.frf,e.hok,e.bare⟩
section
variable{s:Shared}
theorem aC.env0(I:aC X ae σ H s):lG X.prog X.w X.K X.mg X.base X.A X.stack s H:=
 ⟨I.ok.frames,I.ok.mod,I.bs,Nat.le_trans I.ok.bsz I.sz,I.stack,I.stkFree,I.hok,I.bare⟩
theorem aC.after{Q:VK}(I:aC X ae σ H s)(h:CE X.stack X.prog X.w H s Q u s'):EP X ae σ Q u s':=by
 obtain⟨v,H',os,bare,un,hok,r,q⟩:=h;obtain⟨hh,g,d,t,os'⟩:=s';obtain rfl:os'=s.os:=os;exact⟨v,H',I.call (h':=hh) (g':=g) (d':=d) (t':=t) (ch:=[]) un hok bare (fun b z=>absurd z (by simp)),r,q⟩
end
def uG(sp:Sp)(dvs:List V)(E:XK)(t:TA):TE:=fun σ H Q=>t σ H fun vs H1=>sp (vs++ dvs) H1 Q E
def xV(C:Addr)(m:Str)(sp:Sp)(dvs:List V)(E:XK)(ta:TE)(t:TA):TE:=fun σ H Q=>ta σ H fun x H1=>∃a dx fs,x= .ref a/\H1 a=some (.ins C dx fs)/\fs.lookup m=none/\
 t σ H1 fun vs H2=>sp (x::(vs++ dvs)) H2 Q E
def wG(C:Addr)(sp:Sp)(dvs:List V)(E:XK)(t:TA):TE:=fun σ H Q=>t σ H fun vs H1=>∀x dx,H1 x=none->H1 dx=none->dx≠x->
 sp (.ref x::(vs++ dvs)) (upd (upd H1 dx (.own x)) x (.ins C dx [])) (fun v H2=>v= .non/\Q (.ref x) H2) E
def iW(K:Fg)(fd:FuncData)(ps:List Str)(ds:List Value):Prop:=
 ∀(s:Shared) (us:List Value),K.In s.heap->(us++ ds).length=ps.length->BindsTo s fd ⟨us,[]⟩ (ps.zip (us++ ds))
theorem iW.all{fd:FuncData}(h:∀us:List Value,us.length=ps.length->bindArgs fd ⟨us,[]⟩=pure (ps.zip us)):iW K fd ps []:=fun s us _ hl=>by
 rw[List.append_nil]at hl|-
 exact .of_eq (h us hl)
def iH(CX:fG)(X:Cx)(E:XK):Prop:=∀(ae:List (Addr×Obj)) (σ:St) (H:Hp) (s:Shared) (e:Value) (s':Shared),aC X ae σ H s->CX X.stack H s E e s'->X.xe e s'
section
variable{k:Nat}{fd:FuncData}{dvs:List V}{ds:List Value}{E:XK}{p:Pos}{o:Expr}{t:TA}
theorem sI{s:Shared}{Q:VK}(F:fT X.prog X.w X.K X.mg X.base CX k f fd ps sp)(hr:bV k X.A)(hb:iW X.K fd ps ds)(hd:aW dvs ds)(hx:iH CX X E)
 (I:aC X ae σ H s)(r:aW vs us)(h:sp (vs++ dvs) H Q E):wpAny (model X.prog X.w) X.A (call (.ref f) us) (EP X ae σ Q) X.xe s:=by
 have r2:aW (vs++ dvs) (us++ ds):=r.append hd
 have hl:(us++ ds).length=ps.length:=by rw[<- r2.length];exact F.len _ _ _ _ h
 refine wpAny_call (codeAny_mono (F.run X.A X.stack s H ⟨us,[]⟩ (us++ ds) (vs++ dvs) Q E hr I.env0 (hb s us I.kIn hl) r2 h) fun r s' hq=> ?_)
 cases r with
 |error e=>exact hx ae σ H s e s' I hq
 |ok fl=>
  cases fl with
  |ret u=>exact I.after hq
  |next=>exact False.elim hq
  |brk=>exact False.elim hq
  |cont=>exact False.elim hq
theorem a8D(F:fT X.prog X.w X.K X.mg X.base CX k f fd ps sp)(hr:bV k X.A)(hg:Gl X x)(hm:X.mg x=some (.ref f))(hk:W.keepIn X.K (.ref f)=true)(hb:iW X.K fd ps ds)(hd:aW dvs ds)(hx:iH CX X E)
 (ha:PA X (e::es) t)(hdb:(x==("__debug__":Str))=false:=by decide)(he:starEach (e::es) X.env=(false,eval e X.env)::starEach es X.env:=by rfl)(hpl:(backTo pos (starEach es X.env)).any (·.1)=false:=by rfl):
 PE X (.Call (.Name x p) (e::es) [] pos) (uG sp dvs E t):=by
 intro ae s σ H Q I h;refine wpAny_Call_Name_kw (wB I hg hm ?_ hdb);refine W.callWith_K (h₀:=X.base) I.ok.mod.kin hk (aT (ha pos ae s σ H _ I h) ?_) he hpl;rintro us s1 ⟨vs,H1,I1,r,q⟩;refine⟨I1.kIn,?_⟩;exact sI F hr hb hd hx I1 r q
theorem a6i{pl:Sem Bool}(he:PE X o ta)(c:cG X.K C)(hm:rS X.K C m f)(F:fT X.prog X.w X.K X.mg X.base CX k f fd ps sp)(hr:bV k X.A)(hb:iW X.K fd ps ds)(hd:aW dvs ds)(hx:iH CX X E)(ha:PA X (e::es) t)
 (hst:starEach (e::es) X.env=(false,eval e X.env)::starEach es X.env:=by rfl)(hpl:(backTo pos (starEach es X.env)).any (·.1)=false:=by rfl)
 (ht:eval (.Call (.Attribute o m apos) (e::es) [] pos) X.env=(do
  let ov<- eval o X.env
  standAt apos.atName
  let (f,first)<- holding [ov] (getMethod ov m pl)
  callWith pos f first (backTo pos (starEach (e::es) X.env)) (backToKw pos (keywordEach [] X.env))):=by rfl):
 PE X (.Call (.Attribute o m apos) (e::es) [] pos) (xV C m sp dvs E ta t):=by
 intro ae s σ H Q I h;refine W.methodCall_KW (pl:=pl) (aT (he ae s σ H _ I h) ?_) ht;rintro u s1 ⟨x,H1,I1,rx,a,dx,fs,ex,ea,l,q⟩;refine ?_;subst ex;obtain rfl:u=Value.ref a:=rx;refine rV I1 ea c hm l ?_;refine W.callWith_K (first:=[.ref a]) (h₀:=X.base) I.ok.mod.kin hm.kp (aT (ha pos ae s1 σ H1 _ I1 q) ?_) hst hpl;rintro us s2 ⟨vs,H2,I2,r,q2⟩;refine⟨I2.kIn,?_⟩;exact sI (us:=.ref a::us) (vs:=.ref a::vs) F hr hb hd hx I2 (.cons rfl r) q2
theorem a8M{pl:Sem Bool}(he:PE X o ta)(c:cG X.K C)(hm:rS X.K C m f)(F:fT X.prog X.w X.K X.mg X.base CX k f fd ps sp)(hr:bV k X.A)(hb:iW X.K fd ps ds)(hd:aW dvs ds)(hx:iH CX X E)
 (ht:eval (.Call (.Attribute o m apos) [] [] pos) X.env=(do
  let ov<- eval o X.env
  standAt apos.atName
  let (f,first)<- holding [ov] (getMethod ov m pl)
  callWith pos f first (backTo pos (starEach [] X.env)) (backToKw pos (keywordEach [] X.env))):=by rfl):
 PE X (.Call (.Attribute o m apos) [] [] pos) (xV C m sp dvs E ta jU):=by
 intro ae s σ H Q I h;refine W.methodCall_KW (pl:=pl) (aT (he ae s σ H _ I h) ?_) ht;rintro u s1 ⟨x,H1,I1,rx,a,dx,fs,ex,ea,l,q⟩;refine ?_;subst ex;obtain rfl:u=Value.ref a:=rx;refine rV I1 ea c hm l ?_;exact W.callWith_K0 (first:=[.ref a]) I1.kIn hm.kp (sI (us:=[.ref a]) (vs:=[.ref a]) F hr hb hd hx I1 (.cons rfl .nil) q)
structure Mk(K:Fg)(C f:Addr):Prop where
 makes:W.makesIn K C=true
 init:W.findIn K (.ref C) "__init__"=some (some (.ref f))
 fn:W.isFn K (.ref f)=true
 kp:W.keepIn K (.ref C)=true
theorem a3q{s:Shared}{Q:VK}(M:Mk X.K C f)(F:fT X.prog X.w X.K X.mg X.base CX k f fd ps sp)(hr:bV (k+ 1) X.A)(hb:iW X.K fd ps ds)(hd:aW dvs ds)
 (hx:iH CX X E)(I:aC X ae σ H s)(r:aW vs us)
 (h:∀x dx,H x=none->H dx=none->dx≠x->sp (.ref x::(vs++ dvs)) (upd (upd H dx (.own x)) x (.ins C dx [])) (fun v H2=>v= .non/\Q (.ref x) H2) E):
 wpAny (model X.prog X.w) X.A (call (.ref C) us) (EP X ae σ Q) X.xe s:=by
 have hq:=h (s.heap.objs.size+ 1) s.heap.objs.size (I.hok.fresh (Nat.le_succ _)) (I.hok.fresh (Nat.le_refl _)) (Nat.ne_of_lt (Nat.lt_succ_self _));have I2:=aC.made (C:=C) I;have r2:aW (V.ref (s.heap.objs.size+ 1)::(vs++ dvs)) (Value.ref (s.heap.objs.size+ 1)::(us++ ds)):=.cons rfl (r.append hd)
 have hl:(Value.ref (s.heap.objs.size+ 1)::us++ ds).length=ps.length:=by
  have e:=r2.length;rw[F.len _ _ _ _ hq]at e;exact e.symm
 refine wpAny_call (a6a (f:=f) I.kIn M.makes M.init (beq_iff_eq.mp M.fn) (codeAny_mono (F.run _ X.stack _ _ ⟨Value.ref (s.heap.objs.size+ 1)::us,[]⟩ (Value.ref (s.heap.objs.size+ 1)::(us++ ds)) _ _ E (hr.make C us [])
  (I2.env0.make C us []) (hb _ (Value.ref (s.heap.objs.size+ 1)::us) I2.kIn hl) r2 hq) fun r s' hq'=> ?_))
 cases r with
 |error e=>exact hx ae σ _ _ e s' I2 hq'
 |ok fl=>
  cases fl with
  |ret u=>
   obtain⟨v,H',I3,rv,ev,q3⟩:=I2.after hq';subst ev;exact⟨rv,⟨V.ref (s.heap.objs.size+ 1),H',I3,rfl,q3⟩⟩
  |next=>exact False.elim hq'
  |brk=>exact False.elim hq'
  |cont=>exact False.elim hq'
theorem a5W(M:Mk X.K C f)(F:fT X.prog X.w X.K X.mg X.base CX k f fd ps sp)(hr:bV (k+ 1) X.A)(hg:Gl X x)(hm:X.mg x=some (.ref C))(hb:iW X.K fd ps ds)(hd:aW dvs ds)(hx:iH CX X E)
 (ha:PA X (e::es) t)(hdb:(x==("__debug__":Str))=false:=by decide)(he:starEach (e::es) X.env=(false,eval e X.env)::starEach es X.env:=by rfl)(hpl:(backTo pos (starEach es X.env)).any (·.1)=false:=by rfl):
 PE X (.Call (.Name x p) (e::es) [] pos) (wG C sp dvs E t):=by
 intro ae s σ H Q I h;refine wpAny_Call_Name_kw (wB I hg hm ?_ hdb);refine W.callWith_K (h₀:=X.base) I.ok.mod.kin M.kp (aT (ha pos ae s σ H _ I h) ?_) he hpl;rintro us s1 ⟨vs,H1,I1,r,q⟩;refine⟨I1.kIn,?_⟩;exact a3q M F hr hb hd hx I1 r q
theorem a9p(M:Mk X.K C f)(F:fT X.prog X.w X.K X.mg X.base CX k f fd ps sp)(hr:bV (k+ 1) X.A)(hg:Gl X x)(hm:X.mg x=some (.ref C))(hb:iW X.K fd ps ds)(hd:aW dvs ds)(hx:iH CX X E)
 (hdb:(x==("__debug__":Str))=false:=by decide):PE X (.Call (.Name x p) [] [] pos) (wG C sp dvs E jU):=by
 intro ae s σ H Q I h;refine wpAny_Call_Name_kw (wB I hg hm ?_ hdb);exact W.callWith_K0 I.kIn M.kp (a3q (us:=[]) M F hr hb hd hx I .nil h)
end
section
variable{k:Nat}{fd:FuncData}{ks:List Str}{E:XK}{p kpos:Pos}{o:Expr}{kws:List Keyword}{t tk:TA}{nm:Option Str}
structure KBinds(K:Fg)(fd:FuncData)(ps ks:List Str)(g:List Value->List Value->List Value)(gV:List V->List V->List V):Prop where
 to:∀(s:Shared) (us ws:List Value),K.In s.heap->(g us ws).length=ps.length->BindsTo s fd ⟨us,ks.zip ws⟩ (ps.zip (g us ws))
 rel:∀{vs:List V} {us:List Value} {zs:List V} {ws:List Value},aW vs us->aW zs ws->aW (gV vs zs) (g us ws)
variable{g:List Value->List Value->List Value}{gV:List V->List V->List V}
end
structure aY(N P:List Str)(sc:Scope):Prop where
 kind:sc.kind= .function:=by rfl
 co:sc.isCoroutine=false:=by rfl
 gen:sc.isGenerator=false:=by rfl
 nd:N.Nodup:=by decide+kernel
 pre:N.take P.length=P:=by rfl
 par:∀x∈P,sc.names.lookup x=some .local\/ sc.names.lookup x=some .cell:=by decide+kernel
 nofree:∀y∈sc.names,y.2≠ .free:=by decide+kernel
theorem a4y{kindOf:Str->Option NameKind}{x:Str}:∀{binds:List (Str×Value)} {m:Str->Option Value},(∀v,(x,v)∉binds)->bindL kindOf binds m x=m x
 | [],_,_=>rfl
 |(n,v)::r,m,h=>by
  unfold bindL;rw[a4y fun w hw=>h w (List.mem_cons_of_mem _ hw)];split
  ·have:x≠n:=by rintro rfl;exact h v List.mem_cons_self
   simp[this]
  ·rfl
theorem a35{kindOf:Str->Option NameKind}{x:Str}:∀{binds:List (Str×Value)} {m:Str->Option Value},(∀v,(x,v)∉binds)->bindC kindOf binds m x=m x
 | [],_,_=>rfl
 |(n,v)::r,m,h=>by
  unfold bindC;rw[a35 fun w hw=>h w (List.mem_cons_of_mem _ hw)];split
  ·rfl
  ·have:x≠n:=by rintro rfl;exact h v List.mem_cons_self
   simp[this]
theorem a2B{kindOf:Str->Option NameKind}{x:Str}{v:Value}:∀{P:List Str} {vs:List Value} {i:Nat} {m:Str->Option Value},P.Nodup->P[i]?=some x->vs[i]?=some v->kindOf x=some .local->
 bindL kindOf (P.zip vs) m x=some v
 | [],_,_,_,_,h,_,_=>by simp at h
 |_::_,[],_,_,_,_,h,_=>by simp at h
 |p::P,w::vs,0,m,nd,h1,h2,hk=>by
  simp at h1 h2;subst h1;subst h2;show bindL kindOf ((p,w)::P.zip vs) m p=_;unfold bindL;rw[a4y fun v hv=>(List.nodup_cons.mp nd).1 (List.of_mem_zip hv).1,if_pos hk];simp
 |p::P,w::vs,i+ 1,m,nd,h1,h2,hk=>by
  show bindL kindOf ((p,w)::P.zip vs) m x=_;unfold bindL;exact a2B (i:=i) (List.nodup_cons.mp nd).2 (by simpa using h1) (by simpa using h2) hk
theorem a1L{kindOf:Str->Option NameKind}{x:Str}{v:Value}:∀{P:List Str} {vs:List Value} {i:Nat} {m:Str->Option Value},P.Nodup->P[i]?=some x->vs[i]?=some v->kindOf x≠some .local->
 bindC kindOf (P.zip vs) m x=some v
 | [],_,_,_,_,h,_,_=>by simp at h
 |_::_,[],_,_,_,_,h,_=>by simp at h
 |p::P,w::vs,0,m,nd,h1,h2,hk=>by
  simp at h1 h2;subst h1;subst h2;show bindC kindOf ((p,w)::P.zip vs) m p=_;unfold bindC;rw[a35 fun v hv=>(List.nodup_cons.mp nd).1 (List.of_mem_zip hv).1,if_neg hk];simp
 |p::P,w::vs,i+ 1,m,nd,h1,h2,hk=>by
  show bindC kindOf ((p,w)::P.zip vs) m x=_;unfold bindC;exact a1L (i:=i) (List.nodup_cons.mp nd).2 (by simpa using h1) (by simpa using h2) hk
noncomputable def iA (N:List Str) (vs:List V):St:=vs.map some++ List.replicate (N.length- vs.length) none
def dF(CX:fG)(P:Program)(w:World)(K:Fg)(mg:Str->Option Value)(af:Heap)(N:List Str)(qual:Str)(ai:Scope)(f:Addr)(cd:Value)(A:Around)(ag:List Env)(s:Shared)(H:Hp)(E:XK):Cx where
 prog:=P
 w:=w
 K:=K
 mg:=mg
 base:=af
 A:=A.deeper (envOfC qual ai s.heap.objs.size f cd)
 N:=N
 s₀:=s
 H₀:=H
 env:=envOfC qual ai s.heap.objs.size f cd
 outer:=ag
 stack:=envOfC qual ai s.heap.objs.size f cd::ag
 ex:=[]
 calm:=true
 fn:=fun _=>true
 pn:=[]
 xe:=fun e s'=>wpAny (model P w) (A.deeper (envOfC qual ai s.heap.objs.size f cd)) (leaving (envOfC qual ai s.heap.objs.size f cd) e) (fun _ s''=>CX ag H s E e s'') (fun e' s''=>CX ag H s E e' s'') s'
theorem a2M{sc:Scope}(h:sc.names.lookup x=some .cell):∃c,(cellsFrom n sc.names []).lookup x=some c:=by
 have q:=W.cellsFrom_some sc.names n [] (.inl h);exact Option.isSome_iff_exists.mp q
theorem a2a{cd:Value}{ag:List Env}{s s1:Shared}{E:XK}
 (S:aY N ps ai)(hd:A.handled=none)(e0:lG P w K mg af A ag s H)(hl:vs.length=ps.length)(r:aW vs us)
 (x:InCallC s s.heap.objs.size (bindL (envOfC qual ai s.heap.objs.size f cd).kindOf (ps.zip us) fun _=>none) (cellsFrom (s.heap.objs.size+ 1) ai.names []) (bindC (envOfC qual ai s.heap.objs.size f cd).kindOf (ps.zip us) fun _=>none) s1):
 aC (dF CX P w K mg af N qual ai f cd A ag s H E) [] (iA N vs) H s1:=by
 have hpl:ps.length<=N.length:=by have:=congrArg List.length S.pre;rw[List.length_take]at this;omega
 obtain⟨h1,tk,rfl,hk⟩:=x.done;have noA:∀b:Addr,b∉(dF CX P w K mg af N qual ai f cd A ag s H E).ex:=fun b z=>absurd (show b∈([]:List Addr) from z) (by simp)
 refine⟨⟨e0.mod,S.kind,rfl,rfl,Nat.le_refl _,fun y z c h1 h2=> ?_,fun y hy=> ?_,fun y c _ h=> ?_,fun _=>hd,Around.frames_deeper e0.frames,.inr ⟨rfl,rfl⟩,fun b z=>absurd z (noA b),e0.bs,e0.bsz,fun b _ _=>noA b,fun b z=>absurd z (noA b),e0.funs,e0.frf⟩,
  rfl,e0.bare,Un.kept hk,⟨_,x.toInCall.ns,fun i y v h1 h2 h3=> ?_⟩,fun y c h=>⟨_,x.cell y c h⟩,e0.hok.fresh (Nat.le_refl _),fun y c h=> ?_,fun p hp=>absurd (show p∈([]:List (Addr×Obj)) from hp) (by simp),e0.hok.kept hk,?_⟩
 ·exact name_of_addr x.apart (PySem.mem_of_lookup h1) (PySem.mem_of_lookup h2)
 ·have hy:ai.names.lookup y=some .cell\/ ai.names.lookup y=some .free:=hy
  rcases hy with hy|hy
  ·exact a2M hy
  ·exact absurd rfl (S.nofree _ (PySem.mem_of_lookup hy))
 ·exact Nat.le_of_lt (x.above y c (PySem.mem_of_lookup h))
 ·have hi:i<vs.length:=by
   unfold iA at h2;by_cases hi:i<vs.length
   ·exact hi
   ·rw[List.getElem?_append_right (by simpa using hi)]at h2
    rw[List.getElem?_replicate]at h2;split at h2<;>cases h2
  have ha:vs[i]?=some v:=by
   unfold iA at h2;rw[List.getElem?_append_left (by simpa using hi),List.getElem?_map]at h2
   cases e:vs[i]? with
   |none=>rw[e]at h2;cases h2
   |some a=>rw[e]at h2;cases h2;rfl
  obtain⟨u,hu,rv⟩:=r.get ha
  have hp:ps[i]?=some y:=by
   rw[<- S.pre,List.getElem?_take_of_lt (by omega)];exact h1
  have ndP:ps.Nodup:=by rw[<- S.pre];exact S.nd.sublist (List.take_sublist _ _)
  refine⟨u,rv,?_⟩
  rcases S.par y (List.mem_of_getElem? hp)with k|k
  ·exact .inl ⟨k,a2B ndP hp hu k⟩
  ·obtain⟨c,e⟩:=a2M (n:=s.heap.objs.size+ 1) k
   refine .inr ⟨.inl k,c,e,?_⟩;have q:=x.cell y c e;rw[a1L ndP hp hu (by show ai.names.lookup y≠_;rw[k];decide)]at q;exact q
 ·exact e0.hok.fresh (Nat.le_of_lt (x.above y c (PySem.mem_of_lookup h)))
 ·unfold iA
  show _=N.length;rw[List.length_append,List.length_map,List.length_replicate];omega
theorem a1B{k:Nat}{name:Str}{body:List Stmt}{dV kV:Value}
 {osl:Array (Option Value)}(lk:K.lookup f=some ⟨oc,od,.func (W.fnOf name qual params body ai dV kV doc pm an ah ct),osl⟩)(hcd:W.codeIn K ah qual=true)(S:aY N ps ai)
 (len:∀vs H Q E,sp vs H Q E->vs.length=ps.length)
 (hbody:∀(A:Around) (ag:List Env) (s:Shared) (H:Hp) (vs:List V) (Q:VK) (E:XK),bV k (A.deeper (envOfC qual ai s.heap.objs.size f ah))->sp vs H Q E->
  ∃t,eV (dF CX P w K mg af N qual ai f ah A ag s H E) body t/\t {nx:=fun _ H'=>Q .non H',rt:=Q} (iA N vs) H):
 fT P w K mg af CX (k+ 1) f (W.fnOf name qual params body ai dV kV doc pm an ah ct) ps sp:=by
 refine⟨len,fun A ag s H args us vs Q E hr e0 hb r hsp=> ?_⟩;have hl:=len _ _ _ _ hsp;have KX:K.In s.heap:=e0.mod.kin.keeps fun b o e=>(e0.bs b o e).1
 have lim:s.heap.NoLimit:=e0.mod.nolimit.keeps fun b o e=>(e0.bs b o e).1
 have hkind:∀y∈ps.zip us,ai.names.lookup y.1=some .local\/ (ai.names.lookup y.1=some .cell/\((cellsFrom (s.heap.objs.size+ 1) ai.names []).lookup y.1).isSome=true):=fun⟨n,v⟩ hy=>by
  rcases S.par n (List.of_mem_zip hy).1 with q|q
  ·exact .inl q
  ·exact .inr ⟨q,W.cellsFrom_some _ _ _ (.inl q)⟩
 refine codeAny_call_function hr.depth (KX _ _ lk) rfl S.co S.gen rfl (W.codeRec_of KX hcd) (hb _ _ _ _ ?_);refine wpAny_newFunctionEnv_cells S.kind hkind fun env he s1 x=> ?_
 subst he;refine⟨lim.keeps x.toInCall.keep,codeAny_func ?_⟩;obtain⟨t,ht,hq⟩:=hbody A ag s H vs Q E (hr.deeper _) hsp;have I:aC (dF CX P w K mg af N qual ai f ah A ag s H E) [] (iA N vs) H s1:=a2a S hr.hd e0 hl r x;refine wpAny_mono (ht [] s1 (iA N vs) H _ I hq) (fun fl s' hs=> ?_) fun e s' hs=>hs
 have fin:∀{σ':St} {H':Hp} {v:V} {u:Value},aC (dF CX P w K mg af N qual ai f ah A ag s H E) [] σ' H' s'->aZ v u->Q v H'->CE ag P w H s Q u s':=
  fun{σ' H' v u} J rv q=>⟨v,H',J.os,J.bare,J.base,J.hok,rv,q⟩
 cases fl with
 |ret u=>
  obtain⟨v,σ',H',J,rv,q⟩:=hs;exact fin J rv q
 |next=>
  obtain⟨σ',H',J,q⟩:=hs;exact fin (v:=V.non) (u:=Value.none) J rfl q
 |brk=>
  obtain⟨_,_,_,q⟩:=hs;exact False.elim q
 |cont=>
  obtain⟨_,_,_,q⟩:=hs;exact False.elim q
section
variable{p:Pos}{t:TA}{id T:String}{r:List V->Hp->VK->Prop}
def tCB(r:List V->Hp->VK->Prop)(t:TA):TE:=fun σ H Q=>t σ H fun vs H1=>r vs H1 Q
theorem dC(hc:jM X (.builtin id) r)(hg:Gl X x)(hm:X.mg x=none)(hv:bootBuiltins x=some (.builtin id))(ha:PA X (e::es) t)(hn:x≠ "__name__":=by decide)(hdb:(x==("__debug__":Str))=false:=by decide)
 (he:starEach (e::es) X.env=(false,eval e X.env)::starEach es X.env:=by rfl)(hpl:(backTo pos (starEach es X.env)).any (·.1)=false:=by rfl):PE X (.Call (.Name x p) (e::es) [] pos) (tCB r t):=by
 intro ae s σ H Q I h;refine wpAny_Call_Name_kw (xB I hg hm hv ?_ hn hdb);refine PyProof.Rows.callWith_builtin1 (aT (ha pos ae s σ H _ I h) ?_) he hpl;rintro us s1 ⟨vs,H1,I1,r1,q1⟩;exact hc ae s1 σ H1 vs us Q I1 r1 q1
theorem nT(hc:jM X (.type T) r)(hg:Gl X x)(hm:X.mg x=none)(hv:bootBuiltins x=some (.type T))(ha:PA X (e::es) t)(hn:x≠ "__name__":=by decide)(hdb:(x==("__debug__":Str))=false:=by decide)
 (he:starEach (e::es) X.env=(false,eval e X.env)::starEach es X.env:=by rfl)(hpl:(backTo pos (starEach es X.env)).any (·.1)=false:=by rfl):PE X (.Call (.Name x p) (e::es) [] pos) (tCB r t):=by
 intro ae s σ H Q I h;refine wpAny_Call_Name_kw (xB I hg hm hv ?_ hn hdb);refine PyProof.Rows.callWith_type1 (aT (ha pos ae s σ H _ I h) ?_) he hpl;rintro us s1 ⟨vs,H1,I1,r1,q1⟩;exact hc ae s1 σ H1 vs us Q I1 r1 q1
end
end L2
variable{xs vs ys cs zs cs' dv csh:List V}{H H' H1 H2 H0:Hp}{o:HO}{X:Cx}{ta tb te tl:TE}{σ:St}{y:V}{g:TG}{r:R2}{ns ns':List (Option V×List Int)}{CX:fG}{sp:Sp}{kvs:List (List aB×V)}{mk:List (aB×V)}{LL:Hp->Prop}{RG:Addr->Sp->Prop}{mem:Str->Str->List (aB×V)}
namespace HT
open PySem PyProof.Rows
section
variable{s:Shared}
noncomputable def sIx(n d:Nat):Option Int->Nat
 |none=>d
 |some v=>if v<0 then(v+ (n:Int)).toNat else min v.toNat n
end
end HT
namespace L2
open PySem PySem.Spec PyProof.Rows
abbrev TO:=St->Hp->(Option Int->Hp->Prop)->Prop
section
variable{lo hi:Option Expr}{tl th:TO}{p2:Pos}
def tL(X:Cx)(r:V->Option Int->Option Int->Hp->VK->Prop):Prop:=
 ∀(ae:List (Addr×Obj)) (s:Shared) (σ:St) (H:Hp) (x:V) (v vl vu:Value) (lo hi:Option Int) (sl:Addr) (Q:VK),aC X ae σ H s->aZ x v->s.heap.IsSliceOf sl vl vu .none->IsPart vl lo->IsPart vu hi->r x lo hi H Q->
  ∃T id,typeLookup (.type T) "__getitem__"=pure (some (.builtin id))/\s.TypeIs v T/\wpAny (model X.prog X.w) X.A (getItem v (.ref sl)) (EP X ae σ Q) X.xe s
theorem tL.or{r r':V->Option Int->Option Int->Hp->VK->Prop}(h:tL X r)(h':tL X r'):tL X (fun x lo hi H Q=>r x lo hi H Q\/ r' x lo hi H Q):=by
 intro ae s σ H x v vl vu lo hi sl Q I rx hs pl pu q
 rcases q with q|q
 ·exact h ae s σ H x v vl vu lo hi sl Q I rx hs pl pu q
 ·exact h' ae s σ H x v vl vu lo hi sl Q I rx hs pl pu q
noncomputable def vG (xs:List V) (lo hi:Option Int):List V:=(xs.drop (HT.sIx xs.length 0 lo)).take (HT.sIx xs.length xs.length hi- HT.sIx xs.length 0 lo)
theorem a74(xs:List V)(lo hi:Option Int):(vG xs lo hi).length<=xs.length:=by
 unfold vG;rw[List.length_take,List.length_drop];omega
end
def iQ(n:Nat)(i:Int):Option Nat:=if 0<=i then(if i<n then some i.toNat else none) else if-(n:Int)<=i then some (i+ n).toNat else none
def cL{α:Type}(xs:List α)(i:Int):Option α:=(iQ xs.length i).bind fun j=>xs[j]?
theorem a23{i:Int}(h:iQ n i=some j):seqIndex? i n=some j/\j<n/\ -(n:Int)<=i/\i<n:=by
 unfold iQ at h;by_cases h0:0<=i
 ·rw[if_pos h0]at h
  by_cases h1:i<n
  ·rw[if_pos h1]at h
   have e:i.toNat=j:=Option.some.inj h;exact⟨by rw[seqIndex_of h0 h1,e],by omega,by omega,h1⟩
  ·rw[if_neg h1]at h;cases h
 ·rw[if_neg h0]at h
  by_cases h1: -(n:Int)<=i
  ·rw[if_pos h1]at h
   have e:(i+ n).toNat=j:=Option.some.inj h;exact⟨by rw[seqIndex_neg (by omega) h1,e],by omega,h1,by omega⟩
  ·rw[if_neg h1]at h;cases h
theorem a0f{α:Type}{xs:List α}{i:Int}{v:α}(h:cL xs i=some v):∃j,seqIndex? i xs.length=some j/\xs[j]?=some v/\j<xs.length/\ -(xs.length:Int)<=i/\i<xs.length:=by
 unfold cL at h
 cases e:iQ xs.length i with
 |none=>rw[e]at h;cases h
 |some j=>
  rw[e]at h;obtain⟨h1,h2,h3,h4⟩:=a23 e;exact⟨j,h1,h,h2,h3,h4⟩
theorem uI{α:Type}{xs:List α}{v:α}(h:xs[j]?=some v):cL xs (j:Int)=some v:=by
 have hj:j<xs.length:=(List.getElem?_eq_some_iff.mp h).1
 have e:iQ xs.length (j:Int)=some j:=by
  unfold iQ;rw[if_pos (by omega),if_pos (by omega)];simp
 unfold cL;rw[e];exact h
theorem a8R{α:Type}(xs:List α)(v:α):cL (xs++ [v]) (-1)=some v:=by
 have hl:(xs++ [v]).length=xs.length+ 1:=by simp
 have e:iQ (xs++ [v]).length (-1)=some xs.length:=by
  unfold iQ;rw[hl,if_neg (by decide),if_pos (by omega)];congr 1;omega
 unfold cL;rw[e];show(xs++ [v])[xs.length]?=some v;simp
def a6K(b:Expr):Prop:=∀o i,subscripted b false o i=operate [o,i] (getItem o i)
def wM(X:Cx)(r:R2):Prop:=
 ∀(value slice:Expr) (ae:List (Addr×Obj)) (s:Shared) (σ:St) (H:Hp) (x y:V) (v u:Value) (Q:VK),aC X ae σ H s->aZ x v->aZ y u->r x y H Q->
  subscripted slice false v u=operate [v,u] (getItem v u)->wpAny (model X.prog X.w) X.A (subscriptTail value slice v u) (EP X ae σ Q) X.xe s
def MtR(X:Cx)(id:String)(r:V->List V->Hp->VK->Prop):Prop:=
 ∀(ae:List (Addr×Obj)) (s:Shared) (σ:St) (H:Hp) (x:V) (xs:List V) (v:Value) (us:List Value) (Q:VK),aC X ae σ H s->aZ x v->aW xs us->r x xs H Q->
  wpAny (model X.prog X.w) X.A (call (.builtin id) (v::us)) (EP X ae σ Q) X.xe s
section
variable{a b:Expr}
theorem cW(hr:wM X r)(ha:PE X a ta)(hb:PE X b tb)(hs:a6K b):PE X (.Subscript a b pos) (rG r ta tb):=by
 intro ae s σ H Q I h;exact Subscript_ (binT ha hb I h fun v u s2 x y H2 I2 rx ry q=>hr a b ae s2 σ H2 x y v u Q I2 rx ry q (hs _ _))
noncomputable def rIxL (K:Fg):R2:=fun x y H Q=>∃p xs i v,x= .ref p/\y= .int i/\aM K H p xs/\cL xs i=some v/\Q v H
noncomputable def rIxT (K:Fg):R2:=fun x y H Q=>∃p xs i v,x= .ref p/\y= .int i/\bR K H p xs/\cL xs i=some v/\Q v H
noncomputable def rIxS:R2:=fun x y H Q=>∃z i c,x= .str z/\y= .int i/\z.length<=sizeLine/\cL z.cps.toList i=some c/\Q (.str ⟨#[c]⟩) H
theorem jR:wM X (rIxL X.K):=by
 intro value slice ae s σ H x y v u Q I rx ry h hs;obtain⟨p,xs,i,z,rfl,rfl,hq,he,q⟩:=h;cases rx;obtain⟨t,rfl⟩:=ry;obtain⟨its,r,pl,hz⟩:=I.list hq;obtain⟨j,h1,h2,h3,h4,h5⟩:=a0f he;obtain⟨w,ew,rw'⟩:=r.get h2;have hl:=r.length;have hn:=pH;have fin:EP X ae σ Q w s:=⟨z,H,I,rw',q⟩;by_cases h0:0<=i
 ·have hj:i.toNat=j:=by
   rw[seqIndex_of h0 h5]at h1;exact Option.some.inj h1
  exact item_listR pl.isList h0 (by omega) (by rw[hj];simpa using ew) fin hs
 ·have hj:(i+ (its.toArray.size:Int)).toNat=j:=by
   rw[seqIndex_neg (by omega) h4]at h1;rw[List.size_toArray,<- hl];exact Option.some.inj h1
  exact subscriptTail_builtinR (x:=w) pl.isList.typeIs slot_list_getitem.lookup
   (wpAny_getItem_list_neg (Q:=fun r s'=>r=w/\EP X ae σ Q r s') pl.isList (by omega) (by rw[List.size_toArray]<;>omega) (by omega) (by rw[hj];simpa using ew) ⟨rfl,fin⟩) hs
theorem fQ:wM X (rIxT X.K):=by
 intro value slice ae s σ H x y v u Q I rx ry h hs;obtain⟨p,xs,i,z,rfl,rfl,hq,he,q⟩:=h;cases rx;obtain⟨t,rfl⟩:=ry;obtain⟨its,r,pl,hz⟩:=I.tuple hq;obtain⟨j,h1,h2,h3,h4,h5⟩:=a0f he;obtain⟨w,ew,rw'⟩:=r.get h2;have hl:=r.length;have hn:=pH;have fin:EP X ae σ Q w s:=⟨z,H,I,rw',q⟩;exact subscriptTail_builtinR (x:=w) pl.typeIs slot_tuple_getitem.lookup
  (getItem_tuple (j:=j) (Q:=fun r s'=>r=w/\EP X ae σ Q r s') pl (by omega) (by omega) (by rw[List.size_toArray,<- hl];exact h1) (by simpa using ew) ⟨rfl,fin⟩) hs
theorem a10:wM X rIxS:=by
 intro value slice ae s σ H x y v u Q I rx ry h hs;obtain⟨z,i,c,rfl,rfl,hz,he,q⟩:=h;obtain⟨t,rfl⟩:=rx;obtain⟨t',rfl⟩:=ry;obtain⟨j,h1,h2,h3,h4,h5⟩:=a0f he
 have hl:z.cps.toList.length=z.length:=by simp[Str.length]
 rw[hl]at h1 h4 h5;have hn:=pH
 exact tail_any (typeIs_str s z t) slot_str_getitem.lookup (getItem_str (c:=c) (by
  have e1:decide (i< -(2^ 63:Int))=false:=decide_eq_false (by omega);have e2:decide (i>=2^ 63)=false:=decide_eq_false (by omega)
  rw[e1,e2,Bool.or_false]) (by rw[h1];simpa using h2) ⟨.str ⟨#[c]⟩,H,I.tok _,⟨_,rfl⟩,q⟩) hs
theorem a88(its:List Value)(n j:Nat)(u:Value):Obj.mapSeq (·.setIfInBounds j u) {cls:=.type "list",data:=.seq its.toArray n}={cls:=.type "list",data:=.seq (its.set j u).toArray n}:=by
 simp[Obj.mapSeq]
theorem aC.lst{s:Shared}{p:Addr}(I:aC X ae σ H s)(h:H p=some (.lst xs)):
 ∃(its:List Value) (n:Nat),aW xs its/\s.heap.get? p=some {cls:=.type "list",data:=.seq its.toArray n} /\xs.length<=sizeLine:=by
 obtain⟨z,its,n,r,e⟩:=I.hok p _ h;exact⟨its,n,r,e,z⟩
theorem aC.lstUpd{s:Shared}{p:Addr}{its':List Value}{n':Nat}{f:Obj->Obj}(I:aC X ae σ H s)(h:H p=some (.lst xs))
 (ho:s.heap.get? p=some {cls:=.type "list",data:=.seq its.toArray n})(hf:f {cls:=.type "list",data:=.seq its.toArray n}={cls:=.type "list",data:=.seq its'.toArray n'})(r:aW ys its')(hz:ys.length<=sizeLine)(t:Nat):
 aC X ae σ (upd H p (.lst ys)) {s with heap:=s.heap.update p f,toks:=t}:=by
 have e:(s.heap.update p f).get? p=some {cls:=.type "list",data:=.seq its'.toArray n'}:=by
  rw[Heap.get?_update_self f ho (by rw[hf]<;>rfl),hf]
 refine I.write (x:=p) (e:=p) (by rw[h];trivial) (.inl rfl) (fun b u hb q=>(Heap.get?_update_other _ _ (Ne.symm hb)).trans q) ⟨_,e⟩ ?_;exact⟨hz,its',n',r,e⟩
def a7U:V->V->V->Hp->(Hp->Prop)->Prop:=fun o i v H Q=>∃p xs k j,o= .ref p/\i= .int k/\H p=some (.lst xs)/\iQ xs.length k=some j/\Q (upd H p (.lst (xs.set j v)))
theorem a3n:PSet X a7U:=by
 intro ae s σ H o i v ov iv u Q I ro ri rv h;obtain⟨p,xs,k,j,rfl,rfl,hp,hj,q⟩:=h;cases ro;obtain⟨t,rfl⟩:=ri;obtain⟨its,n,r,ho,hz⟩:=I.lst hp;obtain⟨h1,h2,h3,h4⟩:=a23 hj;have hl:=r.length;have hn:=pH;have I':aC X ae σ (upd H p (.lst (xs.set j v))) {s with heap:=s.heap.update p (Obj.mapSeq (·.setIfInBounds j u))}:=
  I.lstUpd hp ho (a88 its n j u) (r.set rv j) (by rw[List.length_set];exact hz) s.toks
 by_cases h0:0<=k
 ·have hk:k.toNat=j:=by
   rw[seqIndex_of h0 h4]at h1;exact Option.some.inj h1
  exact W.ki_setAt ho h0 (by omega) (by rw[List.size_toArray,<- hl];exact h4) (by rw[hk];exact⟨_,I',q⟩)
 ·have hk:(k+ (its.toArray.size:Int)).toNat=j:=by
   rw[seqIndex_neg (by omega) h3]at h1;rw[List.size_toArray,<- hl];exact Option.some.inj h1
  exact W.ki_setBack ho (by omega) (by rw[List.size_toArray,<- hl];exact h3) (by omega) (by rw[hk];exact⟨_,I',q⟩)
theorem a9g(lo hi:Option Int)(n:Nat):(sliceBounds lo hi none n).1=((HT.sIx n 0 lo:Nat):Int)/\(sliceBounds lo hi none n).2.1=((HT.sIx n n hi:Nat):Int)/\(sliceBounds lo hi none n).2.2=1:=by
 refine⟨?_,?_,rfl⟩
 ·cases lo with
  |none=>simp[sliceBounds,HT.sIx]
  |some i=>
   simp only[sliceBounds,HT.sIx,Option.getD_none,show(1:Int)>0 by decide,if_true];by_cases h:i<0
   ·simp only[h,if_true]<;>omega
   ·simp only[h,if_false]<;>omega
 ·cases hi with
  |none=>simp[sliceBounds,HT.sIx]
  |some i=>
   simp only[sliceBounds,HT.sIx,Option.getD_none,show(1:Int)>0 by decide,if_true];by_cases h:i<0
   ·simp only[h,if_true]<;>omega
   ·simp only[h,if_false]<;>omega
theorem a7f(its:List Value)(lo hi:Option Int):slicePick its.toArray lo hi none=((its.drop (HT.sIx its.length 0 lo)).take (HT.sIx its.length its.length hi- HT.sIx its.length 0 lo)).toArray:=by
 obtain⟨h1,h2,h3⟩:=a9g lo hi its.toArray.size;unfold slicePick;rw[h1,h2,h3];simp only[sliceRange_one,pick_run,List.size_toArray]<;>rfl
def rSlL(K:Fg):V->Option Int->Option Int->Hp->VK->Prop:=fun x lo hi H Q=>∃a xs,x= .ref a/\aM K H a xs/\∀p,H p=none->Q (.ref p) (upd H p (.lst (vG xs lo hi)))
theorem sl_list:tL X (rSlL X.K):=by
 intro ae s σ H x v vl vu lo hi sl Q I rx hs pl pu h;obtain⟨a,xs,rfl,hx,q⟩:=h;cases rx;obtain⟨its,r,ht,hz⟩:=I.list hx;have hlen:=r.length;refine⟨"list",_,slot_list_getitem.lookup,ht.isList.typeIs,?_⟩;refine wpAny_getItem_list_slice ht.isList hs pl pu .none (by simp) ?_ (by rw[List.size_toArray]<;>omega);rw[a7f,<- hlen];refine⟨.ref s.heap.objs.size,_,I.laid (t':=s.toks) (o:=.lst (vG xs lo hi)) (fun b ob q=>Heap.get?_push_of_some _ q) (Nat.le_refl _) ?_,rfl,q _ (I.hok.fresh (Nat.le_refl _))⟩;exact⟨Nat.le_trans (a74 xs lo hi) hz,_,0,(r.drop (HT.sIx xs.length 0 lo)).take (HT.sIx xs.length xs.length hi- HT.sIx xs.length 0 lo),Heap.get?_push_size _ rfl⟩
noncomputable def lW:V->Bool
 | .non=>true
 | .bl _=>true
 | .int _=>true
 | .str _=>true
 |_=>false
noncomputable def lH:V->V->Bool
 | .non,.non=>true
 | .bl a,.bl b=>a==b
 | .bl a,.int b=>(if a then 1 else 0)==b
 | .int a,.bl b=>a==(if b then 1 else 0)
 | .int a,.int b=>a==b
 | .str a,.str b=>a==b
 |_,_=>false
theorem a8o{s:Shared}{x:V}{v:Value}(ry:aZ y u)(rx:aZ x v)(fy:lW y=true)(fx:lW x=true):SeqAt.EqAt A s u v (lH y x):=by
 cases y with
 |non=>
  cases ry
  cases x with
  |non=>cases rx;exact SeqAt.EqAt.same _
  |bl b=>cases rx;exact SeqAt.EqAt.none_bool b
  |int b=>obtain⟨t,rfl⟩:=rx;exact SeqAt.EqAt.none_int b t
  |str b=>obtain⟨t,rfl⟩:=rx;exact SeqAt.EqAt.none_str b t
  |_=>exact absurd (show false=true from fx) Bool.false_ne_true
 |bl a=>
  cases ry
  cases x with
  |non=>cases rx;exact SeqAt.EqAt.bool_none a
  |bl b=>cases rx;exact SeqAt.EqAt.bool_bool a b
  |int b=>obtain⟨t,rfl⟩:=rx;exact SeqAt.EqAt.bool_int a b t
  |str b=>obtain⟨t,rfl⟩:=rx;exact SeqAt.EqAt.bool_str a b t
  |_=>exact absurd (show false=true from fx) Bool.false_ne_true
 |int a=>
  obtain⟨t',rfl⟩:=ry
  cases x with
  |non=>cases rx;exact SeqAt.EqAt.int_none a t'
  |bl b=>cases rx;exact SeqAt.EqAt.int_bool a t' b
  |int b=>obtain⟨t,rfl⟩:=rx;exact SeqAt.EqAt.int_int a t' b t
  |str b=>obtain⟨t,rfl⟩:=rx;exact SeqAt.EqAt.int_str a t' b t
  |_=>exact absurd (show false=true from fx) Bool.false_ne_true
 |str a=>
  obtain⟨t',rfl⟩:=ry
  cases x with
  |non=>cases rx;exact SeqAt.EqAt.str_none a t'
  |bl b=>cases rx;exact SeqAt.EqAt.str_bool a t' b
  |int b=>obtain⟨t,rfl⟩:=rx;exact SeqAt.EqAt.str_int a t' b t
  |str b=>obtain⟨t,rfl⟩:=rx;exact SeqAt.EqAt.str_str a t' b t
  |_=>exact absurd (show false=true from fx) Bool.false_ne_true
 |_=>exact absurd (show false=true from fy) Bool.false_ne_true
noncomputable def iD (x:V) (u:Value):Bool:=match u with
 | .none=>lH .non x
 | .bool b=>lH (.bl b) x
 | .int i _=>lH (.int i) x
 | .str z _=>lH (.str z) x
 |_=>false
theorem a3a{x:V}(r:aZ y u)(f:lW y=true):iD x u=lH y x:=by
 cases y with
 |non=>cases r;rfl
 |bl b=>cases r;rfl
 |int i=>obtain⟨t,rfl⟩:=r;rfl
 |str z=>obtain⟨t,rfl⟩:=r;rfl
 |_=>exact absurd (show false=true from f) Bool.false_ne_true
theorem uM{x:V}:∀{xs:List V} {us:List Value},aW xs us->xs.all lW=true->us.any (iD x)=xs.any fun y=>lH y x
 |_,_,.nil,_=>rfl
 |y::xs,u::us,.cons r t,f=>by
  rw[List.all_cons,Bool.and_eq_true]at f;rw[List.any_cons,List.any_cons,a3a r f.1,uM t f.2]
theorem rY{A:Around}{s:Shared}{x:V}{v:Value}(rx:aZ x v)(fx:lW x=true):∀{xs:List V} {us:List Value},aW xs us->xs.all lW=true->∀u∈us,SeqAt.EqAt A s u v (iD x u)
 |_,_,.nil,_=>fun u hu=>by cases hu
 |y::xs,u::us,.cons r t,f=>fun u' hu=>by
  rw[List.all_cons,Bool.and_eq_true]at f
  rcases List.mem_cons.mp hu with rfl|hu
  ·rw[a3a r f.1];exact a8o r rx f.1 fx
  ·exact rY rx fx t f.2 u' hu
noncomputable def gQ (x:V) (xs:List V):Bool:=xs.any fun y=>lH y x
noncomputable def rIn (K:Fg) (neg:Bool):R2:=fun x y H Q=>∃p xs,y= .ref p/\(aM K H p xs\/ bR K H p xs)/\lW x=true/\xs.all lW=true/\Q (.bl (if neg then !gQ x xs else gQ x xs)) H
theorem a0c:dG X (compareOp .In) (rIn X.K false):=by
 intro ae s σ H x y v u Q I rx ry h;obtain⟨p,xs,rfl,hq,fx,fs,q⟩:=h;cases ry
 rcases hq with hq|hq
 ·obtain⟨its,r,pl,hz⟩:=I.list hq
  refine SeqAt.in_listAt (iD x) pl.isList (fun w hw=>rY rx fx r fs w (by simpa using hw)) ⟨.bl _,H,I,rfl,?_⟩;rw[show its.toArray.any (iD x)=its.any (iD x)by simp,uM r fs];exact q
 ·obtain⟨its,r,pl,hz⟩:=I.tuple hq
  refine SeqAt.in_tupleAt (iD x) pl (fun w hw=>rY rx fx r fs w (by simpa using hw)) ⟨.bl _,H,I,rfl,?_⟩;rw[show its.toArray.any (iD x)=its.any (iD x)by simp,uM r fs];exact q
theorem zX:dG X (compareOp .NotIn) (rIn X.K true):=by
 intro ae s σ H x y v u Q I rx ry h;obtain⟨p,xs,rfl,hq,fx,fs,q⟩:=h;cases ry
 rcases hq with hq|hq
 ·obtain⟨its,r,pl,hz⟩:=I.list hq
  refine SeqAt.notIn_listAt (iD x) pl.isList (fun w hw=>rY rx fx r fs w (by simpa using hw)) ⟨.bl _,H,I,rfl,?_⟩;rw[show its.toArray.any (iD x)=its.any (iD x)by simp,uM r fs];exact q
 ·obtain⟨its,r,pl,hz⟩:=I.tuple hq
  refine SeqAt.notIn_tupleAt (iD x) pl (fun w hw=>rY rx fx r fs w (by simpa using hw)) ⟨.bl _,H,I,rfl,?_⟩;rw[show its.toArray.any (iD x)=its.any (iD x)by simp,uM r fs];exact q
theorem sP:jM X (.type "list") (fun xs H Q=>∃p ys,xs= [.ref p] /\(aM X.K H p ys\/ bR X.K H p ys)/\∀l,H l=none->Q (.ref l) (upd H l (.lst ys))):=by
 intro ae s σ H xs us Q I r h;obtain⟨p,ys,rfl,hq,q⟩:=h;obtain⟨u,rfl,rx⟩:=pR r;cases rx;have fin:∀(its:List Value),aW ys its->ys.length<=sizeLine->∀(h':Heap) (c':Nat),(∀b o',s.heap.get? b=some o'->h'.get? b=some o')->
  h'.get? s.heap.objs.size=some {cls:=.type "list",dict:=none,data:=.seq its.toArray c',slots:= #[]} ->EP X ae σ Q (.ref s.heap.objs.size) {s with heap:=h'}:=fun its r' hz h' c' kp e=>
  ⟨.ref s.heap.objs.size,_,I.laid (t':=s.toks) kp (Nat.le_refl _) (show cU X.prog X.w _ h' _ (.lst ys) from⟨hz,its,c',r',e⟩),rfl,q _ (I.hok.fresh (Nat.le_refl _))⟩
 rcases hq with hq|hq
 ·obtain⟨its,r',pl,hz⟩:=I.list hq
  have hlen:=r'.length;obtain⟨o,ho,hc,n,hd⟩:=pl.isList;exact call_list_seq p (.inl rfl) ho hc hd (fun h' c' kp e=>fin its r' hz h' c' kp e) (by simp only[List.size_toArray]<;>omega)
 ·obtain⟨its,r',pl,hz⟩:=I.tuple hq
  have hlen:=r'.length;obtain⟨o,ho,hc,n,hd⟩:=pl;exact call_list_seq p (.inr rfl) ho hc hd (fun h' c' kp e=>fin its r' hz h' c' kp e) (by simp only[List.size_toArray]<;>omega)
def yR(K:Fg)(T:String)(x:V)(H:Hp):Prop:=match x with
 | .str _=>T= "str"
 | .int _=>T= "int"
 | .ref p=>(T= "list" /\∃xs,aM K H p xs)\/ (T= "tuple" /\∃o,K.lookup p=some o/\o.cls= .type "tuple" /\o.dict=none)\/
  (T= "dict" /\((∃kvs,H p=some (.dK kvs))\/ ∃kvs,H p=some (.dT kvs)))\/ (T= "set" /\∃S n,H p=some (.set S n))
 |_=>False
theorem a2t{s:Shared}{T:String}{x:V}{v:Value}(I:aC X ae σ H s)(r:aZ x v)(ty:yR X.K T x H):
 s.TypeIs v T/\∀a,v= .ref a->∃ob,s.heap.get? a=some ob/\ob.dict=none:=by
 cases x with
 |str z=>
  obtain⟨t,rfl⟩:=r;cases (show T= "str" from ty);exact⟨typeIs_str s z t,fun _ e=>nomatch e⟩
 |int i=>
  obtain⟨t,rfl⟩:=r;cases (show T= "int" from ty);exact⟨typeIs_int s i t,fun _ e=>nomatch e⟩
 |ref p=>
  cases r
  rcases ty with⟨rfl,xs,hq⟩|⟨rfl,o,hk,hc,hd⟩|⟨rfl,hk⟩|⟨rfl,S,n,hk⟩
  ·obtain⟨its,_,pl,_⟩:=I.list hq
   refine⟨pl.isList.typeIs,fun a e=> ?_⟩;cases e;obtain⟨o,n,e,c,hd,_⟩:=pl;exact⟨o,e,hd⟩
  ·refine⟨⟨o,I.kIn p o hk,hc⟩,fun a e=> ?_⟩
   cases e;exact⟨o,I.kIn _ o hk,hd⟩
  ·have z:∃o,s.heap.get? p=some o/\o.ExactDict:=by
    rcases hk with⟨kvs,hk⟩|⟨kvs,hk⟩
    ·obtain⟨_,_,_,_,o,_,_,e,ex,_⟩:=I.hok p _ hk
     exact⟨o,e,ex⟩
    ·obtain⟨_,_,_,_,o,_,_,e,ex,_⟩:=I.hok p _ hk
     exact⟨o,e,ex⟩
   obtain⟨o,e,ex⟩:=z;refine⟨⟨o,e,ex.1⟩,fun a e2=> ?_⟩;cases e2;exact⟨o,e,ex.2.1⟩
  ·obtain⟨o,_,_,_,e,ex,_⟩:=I.hok p _ hk
   refine⟨⟨o,e,ex.1⟩,fun a e2=> ?_⟩;cases e2;exact⟨o,e,ex.2.1⟩
 |_=>exact False.elim ty
def tBM0(K:Fg)(T:String)(r:V->List V->Hp->VK->Prop)(to:TE):TE:=fun σ H Q=>to σ H fun x H1=>yR K T x H1/\r x [] H1 Q
def tBM(K:Fg)(T:String)(r:V->List V->Hp->VK->Prop)(to:TE)(t:TA):TE:=fun σ H Q=>to σ H fun x H1=>yR K T x H1/\t σ H1 fun xs H2=>r x xs H2 Q
variable{o:Expr}{to:TE}{t:TA}{name:Str}{cpos:Pos}{T id:String}{r:V->List V->Hp->VK->Prop}
theorem a1A(pa:PlainAttrs T)(slot:Slot T name id)(hty:typeOf (.builtin id)=pure (.type "method_descriptor"))(hm:MtR X id r)(ho:PE X o to)
 (hbase:attributeBase o name X.env (eval o X.env)=eval o X.env:=by rfl)(hline:(apos.endLine==cpos.line)=true:=by rfl):PE X (.Call (.Attribute o name apos) [] [] cpos) (tBM0 X.K T r to):=by
 intro ae s σ H Q I h;refine wpAny_Call_method0_late hbase hline (aT (ho ae s σ H _ I h) ?_);rintro v s1 ⟨x,H1,I1,r1,ty,q1⟩;refine ?_;obtain⟨h1,h2⟩:=a2t I1 r1 ty;exact⟨T,id,pa,slot,hty,h1,h2,Calls.callWith_builtin rfl (PySem.evalArgs_none (hm ae s1 σ H1 x [] v [] Q I1 r1 .nil q1))⟩
theorem lZ(pa:PlainAttrs T)(slot:Slot T name id)(hty:typeOf (.builtin id)=pure (.type "method_descriptor"))(hm:MtR X id r)(ho:PE X o to)(ha:PA X (e::es) t)
 (hbase:attributeBase o name X.env (eval o X.env)=eval o X.env:=by rfl)
 (hfew:((backTo cpos (starEach (e::es) X.env)).all (fun x=> !x.1)&&(backToKw cpos (keywordEach [] X.env)).all (fun x=>x.1.isSome)
  &&decide ((e::es).length+ ([]:List Keyword).length+ (if([]:List Keyword).isEmpty then 0 else 1)<30))=true:=by rfl)
 (hline:(apos.endLine==cpos.line)=true:=by rfl)(hs:starEach (e::es) X.env=(false,eval e X.env)::starEach es X.env:=by rfl)(hplain:(backTo cpos (starEach es X.env)).any (·.1)=false:=by rfl):
 PE X (.Call (.Attribute o name apos) (e::es) [] cpos) (tBM X.K T r to t):=by
 intro ae s σ H Q I h;refine wpAny_Call_method_late hbase hfew hline rfl (aT (ho ae s σ H _ I h) ?_);rintro v s1 ⟨x,H1,I1,r1,ty,q1⟩;refine ?_;obtain⟨h1,h2⟩:=a2t I1 r1 ty;refine⟨T,id,pa,slot,hty,h1,h2,?_⟩;have hA:=ha cpos ae s1 σ H1 _ I1 q1
 rw[hs]at hA|-
 refine Calls.callWith_builtin (by show(false||(backTo cpos (starEach es X.env)).any (·.1))=false;rw[hplain]<;>rfl) (Calls.evalArgs_plain ?_);refine aT hA ?_;rintro us s2 ⟨vs,H2,I2,r2,q2⟩;exact hm ae s2 σ H2 x vs v us Q I2 r1 r2 q2
end
def vZ(X:Cx)(id:String)(r:V->List V->Hp->VK->Prop):Prop:=
 ∀(ae:List (Addr×Obj)) (s:Shared) (σ:St) (H:Hp) (x:V) (xs:List V) (v:Value) (us:List Value) (Q:VK),aC X ae σ H s->aZ x v->aW xs us->r x xs H Q->
  wpAny (model X.prog X.w) X.A (call (.builtin id) (v::us)) (EP X ae σ Q) X.xe s
theorem aW.one:∀{x:V} {us:List Value},aW [x] us->∃u,us= [u] /\aZ x u
 |_,_,.cons r .nil=>⟨_,rfl,r⟩
theorem aW.two{x:V}(h:aW [x,y] us):∃u v,us= [u,v] /\aZ x u/\aZ y v:=by
 cases h with
 |cons r h=>cases h with
  |cons q h=>cases h with
   |nil=>exact⟨_,_,rfl,r,q⟩
theorem aW.zero:∀{us:List Value},aW [] us->us= []
 |_,.nil=>rfl
theorem aW.dropLast(h:aW xs us):aW xs.dropLast us.dropLast:=by
 induction h with
 |nil=>exact .nil
 |cons r t ih=>
  cases t with
  |nil=>exact .nil
  |cons q t'=>exact .cons r ih
theorem a41{α:Type}(l:List α):l.eraseIdx (l.length- 1)=l.dropLast:=by
 induction l with
 |nil=>rfl
 |cons a r ih=>
  cases r with
  |nil=>rfl
  |cons b r=>
   have e:(a::b::r).length- 1=((b::r).length- 1)+ 1:=by
    have h1:(a::b::r).length=r.length+ 2:=rfl;have h2:(b::r).length=r.length+ 1:=rfl;omega
   rw[e,List.eraseIdx_cons_succ,ih]
   all_goals rfl
section
variable{s:Shared}
theorem aC.lset{its':List Value}{f:Array Value->Array Value}{t':Nat}(I:aC X ae σ H s)(hH:H l=some (.lst xs))
 (e:s.heap.get? l=some {cls:=.type "list",data:=.seq its.toArray n})(hf:f its.toArray=its'.toArray)(hv:aW ys its')(hz:ys.length<=sizeLine):
 aC X ae σ (upd H l (.lst ys)) {s with heap:=s.heap.update l (Obj.mapSeq f),toks:=t'}:=by
 have q:=PySem.IsL.update e f;rw[hf]at q;refine I.write (x:=l) (e:=l) (by rw[hH];exact trivial) (.inl rfl) (fun b' u hb hu=>(Heap.get?_update_other s.heap (Obj.mapSeq f) (Ne.symm hb)).trans hu) ⟨_,q⟩ ?_;exact⟨hz,its',_,hv,q⟩
theorem aC.lnew{t':Nat}(I:aC X ae σ H s)(hv:aW ys its)(hz:ys.length<=sizeLine):
 aC X ae σ (upd H s.heap.objs.size (.lst ys)) {s with heap:=s.heap.push {cls:=.type "list",data:=.seq its.toArray},toks:=t'}:=
 I.laid (fun _ _ q=>Heap.get?_push_of_some _ q) (Nat.le_refl _) ⟨hz,its,0,hv,Heap.get?_push_size _ rfl⟩
theorem aC.fresh(I:aC X ae σ H s):H s.heap.objs.size=none:=I.hok.fresh (Nat.le_refl _)
theorem aC.lstM(I:aC X ae σ H s)(hH:H l=some (.lst xs)):xs.length<=sizeLine/\∃(its:List Value) (n:Nat),aW xs its/\xs.length=its.length/\s.heap.get? l=some {cls:=.type "list",data:=.seq its.toArray n}:=by
 obtain⟨z,its,n,r,e⟩:=I.hok l _ hH;exact⟨z,its,n,r,r.length,e⟩
theorem a97(h:n<=sizeLine):Builtin.List.listTooLong n=false:=by
 unfold Builtin.List.listTooLong;exact decide_eq_false (by omega)
end
section
def a5z:V->List V->Hp->VK->Prop:=fun x vs H Q=>∃l xs y,x= .ref l/\vs= [y] /\H l=some (.lst xs)/\xs.length<sizeLine/\Q .non (upd H l (.lst (xs++ [y])))
theorem lO:vZ X "list.append" a5z:=by
 intro ae s σ H x vs v us Q I rx rv h;obtain⟨l,xs,y,rfl,rfl,hH,hz,q⟩:=h;cases rx;obtain⟨u,rfl,ru⟩:=rv.one;obtain⟨z,its,n,r,hl,e⟩:=I.lstM hH;refine call_meets F.slot_list_append ⟨_,e,rfl⟩ F.entry_list_append (F.args_list_append_2 _ _) (PySem.list_append l its.toArray n u (by rw[List.size_toArray];omega)) ⟨e,?_⟩;refine⟨.non,_,I.lset (its':=its++ [u]) hH e (by simp) (r.append (.cons ru .nil)) ?_,rfl,q⟩;rw[List.length_append,List.length_singleton];omega
def a9c:V->List V->Hp->VK->Prop:=fun x vs H Q=>∃l b xs zs,x= .ref l/\vs= [.ref b] /\H l=some (.lst xs)/\H b=some (.lst zs)/\xs.length+ zs.length<=sizeLine/\Q .non (upd H l (.lst (xs++ zs)))
theorem mt_extend:vZ X "list.extend" a9c:=by
 intro ae s σ H x vs v us Q I rx rv h;obtain⟨l,b,xs,zs,rfl,rfl,hH,hB,hz,q⟩:=h;cases rx;obtain⟨u,rfl,ru⟩:=rv.one;cases ru;obtain⟨z,its,n,r,hl,e⟩:=I.lstM hH;obtain⟨z2,its2,n2,r2,hl2,e2⟩:=I.lstM hB
 have hsz:its.toArray.size+ its2.toArray.size<=sizeLine:=by rw[List.size_toArray,List.size_toArray];omega
 have hlong:¬(!its.toArray.isEmpty&&Builtin.List.listTooLong (its.toArray.size+ its2.toArray.size))=true:=by
  rw[a97 hsz,Bool.and_false];exact Bool.false_ne_true
 refine call_meets F.slot_list_extend ⟨_,e,rfl⟩ F.entry_list_extend (F.args_list_extend_2 _ _)
  (AutoSeq1.list_extend_list_list_0 l its.toArray n b its2.toArray n2 hlong (by rw[List.size_toArray];omega) (by omega)) ⟨e,e2,?_⟩
 refine⟨.non,_,I.lset (its':=its++ its2) hH e (by simp) (r.append r2) ?_,rfl,q⟩;rw[List.length_append];omega
def rPop:V->List V->Hp->VK->Prop:=fun x vs H Q=>∃l xs y,x= .ref l/\vs= [] /\H l=some (.lst xs)/\xs[xs.length- 1]?=some y/\Q y (upd H l (.lst xs.dropLast))
theorem a8X:vZ X "list.pop" rPop:=by
 intro ae s σ H x vs v us Q I rx rv h;obtain⟨l,xs,y,rfl,rfl,hH,hy,q⟩:=h;cases rx;have hus:=rv.zero;subst hus;obtain⟨z,its,n,r,hl,e⟩:=I.lstM hH;obtain⟨u,hu,ru⟩:=r.get hy
 have hy':its.toArray[its.toArray.size- 1]?=some u:=by
  show its.toArray[its.length- 1]?=some u;rw[<- Array.getElem?_toList,<- hl];exact hu
 refine call_meets F.slot_list_pop ⟨_,e,rfl⟩ F.entry_list_pop (F.args_list_pop_1 _) (MeetsSeq.list_pop_last l its.toArray n u hy' (by rw[List.size_toArray];omega)) ⟨e,?_⟩;refine⟨y,_,I.lset (its':=its.dropLast) hH e ?_ r.dropLast ?_,ru,q⟩
 ·show its.toArray.eraseIdxIfInBounds (its.toArray.size- 1)=its.dropLast.toArray
  rw[List.size_toArray,List.eraseIdxIfInBounds_toArray,a41]
 ·rw[List.length_dropLast]
  omega
def a8G:V->List V->Hp->VK->Prop:=fun x vs H Q=>∃l xs,x= .ref l/\vs= [] /\H l=some (.lst xs)/\Q .non (upd H l (.lst []))
theorem a9t:vZ X "list.clear" a8G:=by
 intro ae s σ H x vs v us Q I rx rv h;obtain⟨l,xs,rfl,rfl,hH,q⟩:=h;cases rx;have hus:=rv.zero;subst hus;obtain⟨z,its,n,r,hl,e⟩:=I.lstM hH;refine call_meets F.slot_list_clear ⟨_,e,rfl⟩ F.entry_list_clear (F.args_list_clear_1 _) (AutoSeq1.list_clear_list_0 l its.toArray n (by rw[List.size_toArray];omega)) ⟨e,?_⟩;exact⟨.non,_,I.lset (its':=[]) (ys:=[]) hH e rfl .nil (Nat.zero_le _),rfl,q⟩
noncomputable def rCat:R2:=fun x y H Q=>∃l b xs zs,x= .ref l/\y= .ref b/\H l=some (.lst xs)/\H b=some (.lst zs)/\xs.length+ zs.length<=sizeLine/\∀p,H p=none->Q (.ref p) (upd H p (.lst (xs++ zs)))
theorem a68:dG X (binaryOp .Add) rCat:=by
 intro ae s σ H x y v u Q I rx ry h;obtain⟨l,b,xs,zs,rfl,rfl,hH,hB,hz,q⟩:=h;cases rx;cases ry;obtain⟨z,its,n,r,hl,e⟩:=I.lstM hH;obtain⟨z2,its2,n2,r2,hl2,e2⟩:=I.lstM hB;refine PySem.P.add_list e e2 ?_ (by rw[List.size_toArray,List.size_toArray];omega)
 have ea:its.toArray++ its2.toArray=(its++ its2).toArray:=by simp
 rw[ea];exact⟨.ref _,_,I.lnew (t':=s.toks) (r.append r2) (by rw[List.length_append];omega),rfl,q _ I.fresh⟩
end
section
variable{κ:Type} [DecidableEq κ]
def aE(kvs:List (κ×V))(k:κ):Option V:=(kvs.find? fun kv=>decide (kv.1=k)).map (·.2)
noncomputable def aR (kvs:List (κ×V)) (k:κ) (v:V):List (κ×V):=
 if(kvs.any fun kv=>decide (kv.1=k))=true then kvs.map (fun kv=>if kv.1=k then(kv.1,v) else kv) else kvs++ [(k,v)]
theorem kA{p:κ×V}{r:List (κ×V)}{k:κ}(e:p.1=k):aE (p::r) k=some p.2:=by simp[aE,List.find?_cons,e]
theorem jG{p:κ×V}{r:List (κ×V)}{k:κ}(e:¬p.1=k):aE (p::r) k=aE r k:=by simp[aE,List.find?_cons,e]
theorem mX(k:κ):∀kvs:List (κ×V),(kvs.any fun kv=>decide (kv.1=k))=(aE kvs k).isSome
 | []=>rfl
 |p::r=>by
  rw[List.any_cons];by_cases e:p.1=k
  ·simp only[kA e,decide_eq_true e,Bool.true_or,Option.isSome_some]
  ·rw[jG e,decide_eq_false e,Bool.false_or];exact mX k r
theorem a38(k j:κ)(y:V):∀kvs:List (κ×V),aE (kvs.map fun kv=>if kv.1=k then(kv.1,y) else kv) j=(aE kvs j).map fun x=>if j=k then y else x
 | []=>rfl
 |p::r=>by
  have ih:=a38 k j y r;rw[List.map_cons];by_cases h:p.1=k
  ·rw[if_pos h]
   by_cases e:p.1=j
   ·rw[kA (p:=(p.1,y)) e,kA e,Option.map_some,if_pos (e.symm.trans h)]
   ·rw[jG (p:=(p.1,y)) e,jG e,ih]
  ·rw[if_neg h]
   by_cases e:p.1=j
   ·rw[kA (p:=p) e,kA e,Option.map_some,if_neg (fun z=>h (e.trans z))]
   ·rw[jG (p:=p) e,jG e,ih]
theorem a26(k j:κ)(y:V):∀kvs:List (κ×V),aE kvs k=none->aE (kvs++ [(k,y)]) j=if j=k then some y else aE kvs j
 | [],_=>by
  by_cases e:k=j
  ·rw[if_pos e.symm];exact kA (p:=(k,y)) e
  ·rw[if_neg (fun z=>e z.symm)];exact jG (p:=(k,y)) e
 |p::r,hn=>by
  rw[List.cons_append];have hk:¬p.1=k:=fun z=>by rw[kA z]at hn;cases hn
  rw[jG hk]at hn;have ih:=a26 k j y r hn;by_cases e:p.1=j
  ·rw[kA e,kA e,if_neg (fun z=>hk (e.trans z))]
  ·rw[jG e,jG e,ih]
theorem gA(kvs:List (κ×V))(k j:κ)(y:V):aE (aR kvs k y) j=if j=k then some y else aE kvs j:=by
 unfold aR;by_cases a:(kvs.any fun kv=>decide (kv.1=k))=true
 ·rw[if_pos a,a38]
  rw[mX]at a;by_cases e:j=k
  ·obtain⟨x,hx⟩:=Option.isSome_iff_exists.mp a
   rw[if_pos e,e,hx,Option.map_some,if_pos rfl]
  ·rw[if_neg e]
   cases aE kvs j with
   |none=>rfl
   |some x=>rw[Option.map_some,if_neg e]
 ·rw[if_neg a]
  refine a26 k j y kvs ?_;rw[mX]at a
  cases q:aE kvs k with
  |none=>rfl
  |some x=>rw[q]at a;exact(a rfl).elim
theorem a0C(kvs:List (κ×V))(k:κ)(v:V):(aR kvs k v).length<=kvs.length+ 1:=by
 unfold aR;split
 ·rw[List.length_map];omega
 ·rw[List.length_append,List.length_cons,List.length_nil];omega
theorem sH{kvs:List (κ×V)}{k:κ}(v:V)(h:aE kvs k=none):aR kvs k v=kvs++ [(k,v)]:=by
 unfold aR;rw[mX,h];exact if_neg (by decide)
theorem gG.isSome_eq{o:Option V}{u:Option Value}(r:gG o u):o.isSome=u.isSome:=by
 cases o with
 |none=>cases u with
  |none=>rfl
  |some _=>exact(show False from r).elim
 |some _=>cases u with
  |none=>exact(show False from r).elim
  |some _=>rfl
theorem gG.getD{o:Option V}{u:Option Value}{d:V}{d':Value}(r:gG o u)(rd:aZ d d'):aZ (o.getD d) (u.getD d'):=by
 cases o with
 |none=>cases u with
  |none=>exact rd
  |some _=>exact(show False from r).elim
 |some _=>cases u with
  |none=>exact(show False from r).elim
  |some _=>exact r
theorem KV.val{kvs:List (κ×V)}{vs:List (κ×Value)}(r:KV kvs vs)(k:κ):gG (aE kvs k) (valueAt vs k):=by
 unfold KV at r
 induction r with
 |nil=>exact True.intro
 | @cons p q ps qs h t ih=>
  obtain⟨h1,h2⟩:=h;by_cases e:p.1=k
  ·have e':q.1=k:=h1.symm.trans e
   have b:valueAt (q::qs) k=some q.2:=by simp[valueAt,List.find?_cons,e']
   rw[kA e,b];exact h2
  ·have e':¬q.1=k:=fun z=>e (h1.trans z)
   have b:valueAt (q::qs) k=valueAt qs k:=by simp[valueAt,List.find?_cons,e']
   rw[jG e,b];exact ih
theorem KV.any{kvs:List (κ×V)}{vs:List (κ×Value)}(r:KV kvs vs)(k:κ):(kvs.any fun kv=>decide (kv.1=k))=vs.any fun kv=>decide (kv.1=k):=by
 unfold KV at r
 induction r with
 |nil=>rfl
 |cons h t ih=>rw[List.any_cons,List.any_cons,ih,h.1]
theorem KV.repl{kvs:List (κ×V)}{vs:List (κ×Value)}(r:KV kvs vs)(k:κ)(ry:aZ y u):
 KV (kvs.map fun kv=>if kv.1=k then(kv.1,y) else kv) (vs.map fun kv=>if kv.1=k then(kv.1,u) else kv):=by
 unfold KV at r|-
 induction r with
 |nil=>exact .nil
 | @cons p q ps qs h t ih=>
  rw[List.map_cons,List.map_cons];refine .cons ?_ ih;obtain⟨h1,h2⟩:=h;by_cases e:p.1=k
  ·rw[if_pos e,if_pos (h1.symm.trans e)];exact⟨h1,ry⟩
  ·rw[if_neg e,if_neg (fun z=>e (h1.trans z))];exact⟨h1,h2⟩
theorem KV.put{kvs:List (κ×V)}{vs:List (κ×Value)}(r:KV kvs vs)(k:κ)(ry:aZ y u):KV (aR kvs k y) (stored vs k u):=by
 unfold aR stored;rw[r.any k];by_cases e:(vs.any fun kv=>decide (kv.1=k))=true
 ·rw[if_pos e,if_pos e];exact r.repl k ry
 ·rw[if_neg e,if_neg e];exact Paired.snoc r ⟨rfl,ry⟩
theorem KV.length{kvs:List (κ×V)}{vs:List (κ×Value)}(r:KV kvs vs):kvs.length=vs.length:=Paired.length r
end
theorem nU{k:aB}(r:aZ (kV k) u):(fH P w).is k u=true:=by
 cases k with
 |inl i=>obtain⟨t,e⟩:=(show∃t,u=Value.int i t from r);subst e;exact a7m P w i t
 |inr x=>obtain⟨t,e⟩:=(show∃t,u=Value.str x t from r);subst e;exact a4X P w x t
theorem a06{P:Program}{w:World}:∀{ks:List aB} {us:List Value},aW (ks.map kV) us->ItemsAre (fH P w) ks us
 | [],_,r=>by rw[List.map_nil]at r;cases r;exact .nil
 |k::ks,_,r=>by
  rw[List.map_cons]at r
  cases r with
  |cons h t=>exact .cons (nU h) (a06 t)
abbrev KT(H:Hp):List (List aB×V)->List (List aB×Addr×Value)->Prop:=Paired fun p q=>p.1=q.1/\H q.2.1=some (.tup (p.1.map kV))/\aZ p.2 q.2.2
theorem KT.val{xs:List (List aB×Addr×Value)}(r:KT H kvs xs)(k:List aB):gG (aE kvs k) ((atKey xs k).map (·.2)):=by
 induction r with
 |nil=>exact True.intro
 | @cons p q ps qs h t ih=>
  obtain⟨h1,_,h2⟩:=h;by_cases e:p.1=k
  ·have e':q.1=k:=h1.symm.trans e
   have b:atKey (q::qs) k=some q.2:=by simp[atKey,List.find?_cons,e']
   rw[kA e,b];exact h2
  ·have e':¬q.1=k:=fun z=>e (h1.trans z)
   have b:atKey (q::qs) k=atKey qs k:=by simp[atKey,List.find?_cons,e']
   rw[jG e,b];exact ih
theorem KT.repl{xs:List (List aB×Addr×Value)}(r:KT H kvs xs)(k:List aB)(ry:aZ y u):
 KT H (kvs.map fun kv=>if kv.1=k then(kv.1,y) else kv) (xs.map (putAt k u)):=by
 induction r with
 |nil=>exact .nil
 | @cons p q ps qs h t ih=>
  rw[List.map_cons,List.map_cons];refine .cons ?_ ih;obtain⟨h1,h2,h3⟩:=h;unfold putAt;by_cases e:p.1=k
  ·rw[if_pos e,if_pos (h1.symm.trans e)];exact⟨h1,h2,ry⟩
  ·rw[if_neg e,if_neg (fun z=>e (h1.trans z))];exact⟨h1,h2,h3⟩
theorem KT.put{xs:List (List aB×Addr×Value)}(r:KT H kvs xs)(k:List aB)(hb:H b=some (.tup (k.map kV)))(ry:aZ y u):
 KT H (aR kvs k y) (storedH xs k b u):=by
 have e:(kvs.any fun kv=>decide (kv.1=k))=(atKey xs k).isSome:=by
  rw[mX,(r.val k).isSome_eq,Option.isSome_map]
 unfold aR storedH;rw[e];by_cases q:(atKey xs k).isSome=true
 ·rw[if_pos q,if_pos q];exact r.repl k ry
 ·rw[if_neg q,if_neg q];exact Paired.snoc r ⟨rfl,hb,ry⟩
theorem KT.keeps{xs:List (List aB×Addr×Value)}(r:KT H kvs xs)(ht:∀b ys,H b=some (.tup ys)->H' b=some (.tup ys)):KT H' kvs xs:=
 Paired.mapP r fun _ _ z=>⟨z.1,ht _ _ z.2.1,z.2.2⟩
section
theorem a2C{u:HO}(ok:bX P w H h)(e:Rd H a u):cU P w H h a u:=e.ok ok
theorem mN{kvs:List (aB×V)}(ok:bX P w H h)(e:Rd H a (.dK kvs)):kvs.length<=sizeLine/\(a==sysModules)=false/\∃vs,KV kvs vs/\h.DictOf (fH P w) a vs:=
 show cU P w H h a (.dK kvs) from a2C ok e
theorem a9M{kvs:List (aB×V)}(ok:bX P w H h)(e:H a=some (.dK kvs)):kvs.length<=sizeLine/\(a==sysModules)=false/\∃vs,KV kvs vs/\h.DictOf (fH P w) a vs:=mN ok (.inl e)
theorem oB{ks:List aB}(ok:bX P w H h)(e:H a=some (.tup (ks.map kV))):(tupleKind (fH P w)).is h ks a:=by
 obtain⟨_,its,r,o,h1,h2,n,h3⟩:=(show cU P w H h a (.tup (ks.map kV)) from ok a _ e);exact⟨o,its.toArray,n,h1,h2,h3,by simpa using a06 r⟩
theorem nC(ok:bX P w H h)(e:Rd H a (.dT kvs)):kvs.length<=sizeLine/\(a==sysModules)=false/\
 ∃xs,KT H kvs xs/\h.DictOfH (tupleKind (fH P w)) a xs:=by
 obtain⟨z,y,xs,r,o,es,ep,h1,h2,h3,h4,h5⟩:=(show cU P w H h a (.dT kvs) from a2C ok e);refine⟨z,y,xs,r,o,es,ep,h1,h2,h3,h4,fun x hx=> ?_,h5⟩
 have all:∀{l:List (List aB×V)} {m:List (List aB×Addr×Value)},KT H l m->∀x∈m,(tupleKind (fH P w)).is h x.1 x.2.1:=by
  intro l m q
  induction q with
  |nil=>intro x hx;exact nomatch hx
  | @cons p q ps qs hq t ih=>
   intro x hx
   rcases List.mem_cons.mp hx with e|hx
   ·subst e
    exact oB ok (by rw[<- hq.1];exact hq.2.1)
   ·exact ih x hx
 exact all r x hx
theorem a7q(ok:bX P w H h)(e:H a=some (.dT kvs)):kvs.length<=sizeLine/\(a==sysModules)=false/\
 ∃xs,KT H kvs xs/\h.DictOfH (tupleKind (fH P w)) a xs:=nC ok (.inl e)
end
def bU(H:Hp)(a:Addr)(y:V)(r:Option V):Prop:=
 (∃kvs k,Rd H a (.dK kvs)/\y=kV k/\r=aE kvs k)\/ ∃kvs k b,Rd H a (.dT kvs)/\y= .ref b/\H b=some (.tup (k.map kV))/\r=aE kvs k
def gO(H:Hp)(a:Addr)(y v:V)(H':Hp):Prop:=
 (∃kvs k,H a=some (.dK kvs)/\y=kV k/\kvs.length<sizeLine/\H'=upd H a (.dK (aR kvs k v)))\/
 ∃kvs k b,H a=some (.dT kvs)/\y= .ref b/\H b=some (.tup (k.map kV))/\kvs.length<sizeLine/\H'=upd H a (.dT (aR kvs k v))
theorem bU.k{kvs:List (aB×V)}{k:aB}(e:H a=some (.dK kvs)):bU H a (kV k) (aE kvs k):=.inl ⟨kvs,k,.inl e,rfl,rfl⟩
theorem bU.t{k:List aB}(e:H a=some (.dT kvs))(eb:H b=some (.tup (k.map kV))):bU H a (.ref b) (aE kvs k):=.inr ⟨kvs,k,b,.inl e,rfl,eb,rfl⟩
theorem gO.k{kvs:List (aB×V)}{k:aB}{v:V}(e:H a=some (.dK kvs))(hl:kvs.length<sizeLine):gO H a (kV k) v (upd H a (.dK (aR kvs k v))):=.inl ⟨kvs,k,e,rfl,hl,rfl⟩
theorem gO.t{k:List aB}{v:V}(e:H a=some (.dT kvs))(eb:H b=some (.tup (k.map kV)))(hl:kvs.length<sizeLine):
 gO H a (.ref b) v (upd H a (.dT (aR kvs k v))):=.inr ⟨kvs,k,b,e,rfl,eb,hl,rfl⟩
section
variable{s:Shared}{v:V}{r:Value}{o:Option V}
theorem aC.big(I:aC X ae σ H s):sysModules<s.heap.objs.size:=by
 have h:mainGlobals<s.heap.objs.size:=(I.mod.glob.keeps I.bk).lt;exact Nat.lt_trans (by decide) h
theorem a7u(hu:A.units+ 1<cLine)(I:aC X ae σ H s)(g:bU H a y (some v))(ry:aZ y u)(h:∀w' s',aC X ae σ H s'->aZ v w'->Q w' s'):
 wpAny (model X.prog X.w) A (getItem (.ref a) u) Q E s:=by
 rcases g with⟨kvs,k,e,ey,l⟩|⟨kvs,k,b,e,ey,eb,l⟩
 ·subst ey
  obtain⟨z,hd,vs,rel,dd⟩:=mN I.hok e;obtain⟨w',hw,rw'⟩:=gG.some_of (v:=v) (o:=valueAt vs k) (by rw[l];exact rel.val k);exact wpAny_getItem_of (nU ry) dd.mapOf hw (h w' _ (I.tok _) rw')
 ·subst ey
  cases (show u=Value.ref b from ry);obtain⟨z,hd,xs,rel,dd⟩:=nC I.hok e;obtain⟨w',hw,rw'⟩:=gG.some_of (v:=v) (o:=(atKey xs k).map (·.2)) (by rw[l];exact rel.val k);obtain⟨p,hp,hp2⟩:=Option.map_eq_some_iff.mp hw;refine wpAny_getItem_heap (tupleKind_room_in1 hu) (oB I.hok eb) dd hp ?_;rw[hp2];exact h w' _ (I.tok _) rw'
theorem d_in(hu:A.units+ 1<cLine)(I:aC X ae σ H s)(g:bU H a y o)(ry:aZ y u)(h:∀s',aC X ae σ H s'->Q (.bool o.isSome) s'):
 wpAny (model X.prog X.w) A (compareOp .In u (.ref a)) Q E s:=by
 rcases g with⟨kvs,k,e,ey,l⟩|⟨kvs,k,b,e,ey,eb,l⟩
 ·subst ey
  obtain⟨z,hd,vs,rel,dd⟩:=mN I.hok e;refine wpAny_in_of (nU ry) hd dd.mapOf ?_;rw[<- (rel.val k).isSome_eq,<- l];exact h _ (I.tok _)
 ·subst ey
  cases (show u=Value.ref b from ry);obtain⟨z,hd,xs,rel,dd⟩:=nC I.hok e;refine wpAny_in_heap (tupleKind_room_in1 hu) (oB I.hok eb) hd dd ?_;have q:=(rel.val k).isSome_eq;rw[Option.isSome_map]at q;rw[<- q,<- l];exact h _ (I.tok _)
theorem a78(hu:A.units+ 1<cLine)(I:aC X ae σ H s)(g:bU H a y o)(ry:aZ y u)(h:∀s',aC X ae σ H s'->Q (.bool (!o.isSome)) s'):
 wpAny (model X.prog X.w) A (compareOp .NotIn u (.ref a)) Q E s:=by
 rcases g with⟨kvs,k,e,ey,l⟩|⟨kvs,k,b,e,ey,eb,l⟩
 ·subst ey
  obtain⟨z,hd,vs,rel,dd⟩:=mN I.hok e;refine wpAny_notIn_of (nU ry) hd dd.mapOf ?_;rw[<- (rel.val k).isSome_eq,<- l];exact h _ (I.tok _)
 ·subst ey
  cases (show u=Value.ref b from ry);obtain⟨z,hd,xs,rel,dd⟩:=nC I.hok e;refine wpAny_notIn_heap (tupleKind_room_in1 hu) (oB I.hok eb) hd dd ?_;have q:=(rel.val k).isSome_eq;rw[Option.isSome_map]at q;rw[<- q,<- l];exact h _ (I.tok _)
theorem a2w{t':Nat}{ob:HO}(I:aC X ae σ H s)(mu:sK (H a))(hs:Heap.SameBut a s.heap h')(he:∃q,h'.get? a=some q)(new:cU X.prog X.w (upd H a ob) h' a ob):
 aC X ae σ (upd H a ob) {s with heap:=h',toks:=t'}:=
 I.write (x:=a) (e:=a) mu (.inl rfl) (fun b q hb z=>(hs.2 b hb).trans z) he new
theorem a86{kvs:List (aB×V)}{vs:List (aB×Value)}(z:kvs.length<=sizeLine)(hd:(a==sysModules)=false)(rel:KV kvs vs)(dd:h'.DictOf (fH P w) a vs):
 cU P w H' h' a (.dK kvs):=⟨z,hd,vs,rel,dd⟩
theorem a93{Q:Unit->Shared->Prop}(hu:A.units+ 1<cLine)(I:aC X ae σ H s)(g:gO H a y v H')(ry:aZ y u)(rv:aZ v r)(h:∀s',aC X ae σ H' s'->Q () s'):
 wpAny (model X.prog X.w) A (setItem (.ref a) u r) Q E s:=by
 rcases g with⟨kvs,k,e,ey,l,eH⟩|⟨kvs,k,b,e,ey,eb,l,eH⟩
 ·subst ey eH
  obtain⟨z,hd,vs,rel,dd⟩:=a9M I.hok e
  have hz:vs.length<=sizeLine:=by rw[<- rel.length];exact z
  have hl:(aR kvs k v).length<=sizeLine:=by have:=a0C kvs k v;omega
  refine wpAny_setItem_pairs (hsz:=hz) (nU ry) dd fun h' dd' hs=>h _ ?_
  have he:∃q,h'.get? a=some q:=let ⟨q,_,_,hq,_⟩:=dd';⟨q,hq⟩;exact a2w I (by rw[e];exact True.intro) hs he (a86 hl hd (rel.put k rv) dd')
 ·subst ey eH
  cases (show u=Value.ref b from ry);obtain⟨z,hd,xs,rel,dd⟩:=a7q I.hok e
  have hz:xs.length<=sizeLine:=by rw[<- Paired.length rel];exact z
  have hl:(aR kvs k v).length<=sizeLine:=by have:=a0C kvs k v;omega
  refine wpAny_setItem_heap (hsz:=hz) (tupleKind_room_in1 hu) (oB I.hok eb) dd fun h' dd' hs=>h _ ?_
  obtain⟨q,es,ep,hq,h2,h3,h4,_,h5⟩:=dd';refine a2w I (by rw[e];exact True.intro) hs ⟨q,hq⟩ ⟨hl,hd,_,(rel.put k eb rv).keeps fun c ys ec=> ?_,q,es,ep,hq,h2,h3,h4,h5⟩;rw[aH (kZ ec e (fun z=>nomatch z))];exact ec
end
section
variable{s:Shared}{kvs:List (aB×V)}{k:aB}
theorem a6v(I:aC X ae σ H s)(e:Rd H a (.dK kvs))(h:∀t s',aC X ae σ H s'->Q (.int kvs.length t) s'):wpAny (model X.prog X.w) A (call (.builtin "len") [.ref a]) Q E s:=by
 obtain⟨z,hd,vs,rel,dd⟩:=mN I.hok e;refine call_len_dict hd dd (by rw[<- rel.length];rw[sizeLine_eq]at z;omega) ?_;rw[<- rel.length];exact h _ _ (I.tok _)
end
def NoSl(i:Expr):Prop:=∀ov iv,subscripted i false ov iv=operate [ov,iv] (getItem ov iv)
theorem a6D{s:Shared}{env:Env}{value slice:Expr}{T id:String}
 (hl:typeLookup (.type T) "__getitem__"=pure (some (.builtin id)))(hs:NoSl slice)
 (h:wpAny (model prog w) A (eval value env) (fun o s₁=>wpAny (model prog w) A (eval slice env) (fun i s₂=>s₂.TypeIs o T/\wpAny (model prog w) A (getItem o i) Q E s₂) E s₁) E s):
 wpAny (model prog w) A (eval (.Subscript value slice pos) env) Q E s:=by
 refine Subscript_ (wpAny_mono h (fun o s₁ h₁=>wpAny_mono h₁ (fun i s₂ h₂=> ?_) fun _ _ x=>x) fun _ _ x=>x);obtain⟨hT,h₂⟩:=h₂;unfold subscriptTail;refine wpAny_bind ?_;rw[getitemInPython_of_ne hT.not_modules];refine wpAny_bind (wpAny_specialOf hT hl ?_)
 have fin:wpAny (model prog w) A (subscripted slice false o i) (fun r s₃=>wpAny (model prog w) A (letTemporaryGo value o r>>=fun _=>pure r) Q E s₃) E s₂:=by
  rw[hs o i];exact wpAny_operating (wpAny_mono h₂ (fun r s₃ h₃=>wpAny_bind (wpAny_letTemporaryGo (wpAny_pure h₃))) fun _ _ x=>x)
 first
  |exact wpAny_pure (wpAny_bind fin)
  |exact wpAny_bind (wpAny_pure (wpAny_bind fin))
  |exact wpAny_bind fin
theorem a48{s:Shared}{o:Option V}(I:aC X ae σ H s)(g:bU H a y o):s.TypeIs (.ref a) "dict":=by
 rcases g with⟨kvs,k,e,_,_⟩|⟨kvs,k,b,e,_,_,_⟩
 ·obtain⟨_,_,vs,_,dd⟩:=mN I.hok e
  exact dd.typeIs
 ·obtain⟨_,_,xs,_,dd⟩:=nC I.hok e
  exact dd.typeIs
def a7R(td ty:TE):TE:=fun σ H Q=>td σ H fun x H1=>ty σ H1 fun y H2=>∃a v,x= .ref a/\bU H2 a y (some v)/\Q v H2
def tDIn(ty td:TE):TE:=fun σ H Q=>ty σ H fun y H1=>td σ H1 fun x H2=>∃a o,x= .ref a/\bU H2 a y o/\Q (.bl o.isSome) H2
def a7Y(ty td:TE):TE:=fun σ H Q=>ty σ H fun y H1=>td σ H1 fun x H2=>∃a o,x= .ref a/\bU H2 a y o/\Q (.bl (!o.isSome)) H2
def a9w(td ty tv:TE):TS:=fun D σ H=>tv σ H fun v H1=>td σ H1 fun x H2=>ty σ H2 fun y H3=>∃a H4,x= .ref a/\gO H3 a y v H4/\D.nx σ H4
section
variable{o i value:Expr}{tpos:Pos}{td ty tv:TE}
theorem gE(hu:X.A.units+ 1<cLine)(ho:PE X o td)(hi:PE X i ty)(hs:NoSl i):PE X (.Subscript o i pos) (a7R td ty):=by
 intro ae s σ H Q I h;refine a6D F.slot_dict_getitem.lookup hs (aT (ho ae s σ H _ I h) ?_);rintro u s1 ⟨x,H1,I1,rx,q1⟩;refine aT (hi ae s1 σ H1 _ I1 q1) ?_;rintro iv s2 ⟨y,H2,I2,ry,a,v,ex,g,q2⟩;refine ?_;subst ex;obtain rfl:u=Value.ref a:=rx;exact⟨a48 I2 g,a7u hu I2 g ry fun w' s3 I3 rw'=>⟨v,H2,I3,rw',q2⟩⟩
theorem oC(hu:X.A.units+ 1<cLine)(hi:PE X i ty)(ho:PE X o td):PC X .In i o (tDIn ty td):=by
 intro ae s σ H Q I h;refine aT (hi ae s σ H _ I h) ?_;rintro iv s1 ⟨y,H1,I1,ry,q1⟩;refine aT (ho ae s1 σ H1 _ I1 q1) ?_;rintro u s2 ⟨x,H2,I2,rx,a,ov,ex,g,q2⟩;refine ?_;subst ex;obtain rfl:u=Value.ref a:=rx;exact d_in hu I2 g ry fun s3 I3=>⟨.bl ov.isSome,H2,I3,rfl,q2⟩
theorem lP(hu:X.A.units+ 1<cLine)(hi:PE X i ty)(ho:PE X o td):PC X .NotIn i o (a7Y ty td):=by
 intro ae s σ H Q I h;refine aT (hi ae s σ H _ I h) ?_;rintro iv s1 ⟨y,H1,I1,ry,q1⟩;refine aT (ho ae s1 σ H1 _ I1 q1) ?_;rintro u s2 ⟨x,H2,I2,rx,a,ov,ex,g,q2⟩;refine ?_;subst ex;obtain rfl:u=Value.ref a:=rx;exact a78 hu I2 g ry fun s3 I3=>⟨.bl (!ov.isSome),H2,I3,rfl,q2⟩
theorem iX(hu:X.A.units+ 1<cLine)(ho:PE X o td)(hi:PE X i ty)(hv:PE X value tv)(hs:swapsWith value (some (.Subscript o i pos')) pos.line X.env=pure false):
 PS X (.Assign [.Subscript o i pos'] value pos) (a9w td ty tv):=by
 intro ae s σ H D I h;refine wpAny_Assign_Subscript (aT (hv ae s σ H _ I h) ?_) hs;rintro r s1 ⟨v,H1,I1,rv,q1⟩;refine aT (ho ae s1 σ H1 _ I1 q1) ?_;rintro u s2 ⟨x,H2,I2,rx,q2⟩;refine aT (hi ae s2 σ H2 _ I2 q2) ?_;rintro iv s3 ⟨y,H3,I3,ry,a,H4,ex,g,q3⟩;refine ?_;subst ex;obtain rfl:u=Value.ref a:=rx;exact a93 hu I3 g ry rv fun s4 I4=>⟨σ,H4,I4,q3⟩
end
theorem a49(h:Heap)(hb:sysModules<h.objs.size):cU P w H (h.push {cls:=.type "dict",data:=.dict #[]}) h.objs.size (.dK []):=
 ⟨Nat.zero_le _,beq_eq_false_iff_ne.mpr (Ne.symm (Nat.ne_of_lt hb)),[],.nil,Heap.DictOf.new h⟩
theorem a8z(h:Heap)(hb:sysModules<h.objs.size):cU P w H (h.push {cls:=.type "dict",data:=.dict #[]}) h.objs.size (.dT []):=
 ⟨Nat.zero_le _,beq_eq_false_iff_ne.mpr (Ne.symm (Nat.ne_of_lt hb)),[],.nil,_,#[],0,Heap.get?_push_size _ rfl,⟨rfl,rfl,rfl⟩,rfl,rfl,List.nodup_nil⟩
def a7H:TE:=fun _ H Q=>∀p,H p=none->Q (.ref p) (upd H p (.dK []))
def a66:TE:=fun _ H Q=>∀p,H p=none->Q (.ref p) (upd H p (.dT []))
section
theorem sU:PE X (.Dict [] [] pos) a7H:=fun ae s σ H Q I h=>
 wpAny_Dict_empty ⟨.ref s.heap.objs.size,_,I.laid (a:=s.heap.objs.size) (o:=.dK []) (t':=s.toks) (fun _ _ q=>Heap.get?_push_of_some _ q) (Nat.le_refl _) (a49 s.heap I.big),rfl,h _ (I.hok.fresh (Nat.le_refl _))⟩
theorem pJ:PE X (.Dict [] [] pos) a66:=fun ae s σ H Q I h=>
 wpAny_Dict_empty ⟨.ref s.heap.objs.size,_,I.laid (a:=s.heap.objs.size) (o:=.dT []) (t':=s.toks) (fun _ _ q=>Heap.get?_push_of_some _ q) (Nat.le_refl _) (a8z s.heap I.big),rfl,h _ (I.hok.fresh (Nat.le_refl _))⟩
end
def a15:List (TE×TE)->St->Hp->(List (V×V)->Hp->Prop)->Prop
 | [],_,H,Q=>Q [] H
 |(tk,tv)::r,σ,H,Q=>tk σ H fun x H1=>tv σ H1 fun y H2=>a15 r σ H2 fun ps H3=>Q ((x,y)::ps) H3
abbrev VV:List (V×V)->List (Value×Value)->Prop:=Paired fun p q=>aZ p.1 q.1/\aZ p.2 q.2
def PPs(X:Cx)(pos:Pos)(keys:List (Option Expr))(values:List Expr)(trs:List (TE×TE)):Prop:=
 ∀(ae:List (Addr×Obj)) (s:Shared) (σ:St) (H:Hp) (Q:List (V×V)->Hp->Prop),aC X ae σ H s->a15 trs σ H Q->
  wpAny (model X.prog X.w) X.A (evalPairs (pairTrees keys values X.env pos)) (fun vs s'=>∃ps H',aC X ae σ H' s'/\VV ps vs/\Q ps H') X.xe s
structure M1(X:Cx)(o:Expr)(m:Str)(apos:Pos)(e:Expr)(cpos:Pos):Prop where
 base:attributeBase o m X.env (eval o X.env)=eval o X.env
 few:((backTo cpos (starEach [e] X.env)).all (fun x=> !x.1)&&(backToKw cpos (keywordEach [] X.env)).all (fun x=>x.1.isSome)
  &&decide (([e]:List Expr).length+ ([]:List Keyword).length+ (if([]:List Keyword).isEmpty then 0 else 1)<30))=true
 line:(apos.endLine==cpos.line)=true
 trees:backTo cpos (starEach [e] X.env)= [(false,eval e X.env)]
structure M2(X:Cx)(o:Expr)(m:Str)(apos:Pos)(e f:Expr)(cpos:Pos):Prop where
 base:attributeBase o m X.env (eval o X.env)=eval o X.env
 few:((backTo cpos (starEach [e,f] X.env)).all (fun x=> !x.1)&&(backToKw cpos (keywordEach [] X.env)).all (fun x=>x.1.isSome)
  &&decide (([e,f]:List Expr).length+ ([]:List Keyword).length+ (if([]:List Keyword).isEmpty then 0 else 1)<30))=true
 line:(apos.endLine==cpos.line)=true
 trees:backTo cpos (starEach [e,f] X.env)= [(false,eval e X.env),(false,eval f X.env)]
def IsD(H:Hp)(a:Addr):Prop:=(∃kvs,Rd H a (.dK kvs))\/ ∃kvs,Rd H a (.dT kvs)
theorem a1X{s:Shared}(I:aC X ae σ H s)(d:IsD H a):
 s.TypeIs (.ref a) "dict" /\(∀b,Value.ref a= .ref b->∃ob,s.heap.get? b=some ob/\ob.dict=none)/\(a==sysModules)=false:=by
 rcases d with⟨kvs,e⟩|⟨kvs,e⟩
 ·obtain⟨_,hd,vs,_,dd⟩:=mN I.hok e
  refine⟨dd.typeIs,fun b q=> ?_,hd⟩;cases q;obtain⟨ob,_,_,h1,h2,_⟩:=dd;exact⟨ob,h1,h2.2.1⟩
 ·obtain⟨_,hd,xs,_,dd⟩:=nC I.hok e
  refine⟨dd.typeIs,fun b q=> ?_,hd⟩;cases q;obtain⟨ob,_,_,h1,h2,_⟩:=dd;exact⟨ob,h1,h2.2.1⟩
section
variable{s:Shared}{d:V}{r:Value}{o:Option V}
theorem a85(hu:A.units+ 1<cLine)(I:aC X ae σ H s)(g:bU H a y o)(ry:aZ y u)(h:∀w' s',aC X ae σ H s'->aZ (o.getD .non) w'->Q w' s'):
 wpAny (model X.prog X.w) A (call (.builtin "dict.get") [.ref a,u]) Q E s:=by
 rcases g with⟨kvs,k,e,ey,l⟩|⟨kvs,k,b,e,ey,eb,l⟩
 ·subst ey
  obtain⟨z,hd,vs,rel,dd⟩:=mN I.hok e;refine call_meetsIn F.slot_dict_get dd.typeIs F.entry_dict_get (F.args_dict_get_2 _ _) (meets_dict_get (fH X.prog X.w) a (nU ry) hd) ⟨_,dd.mapOf,h _ _ (I.tok _) ?_⟩;rw[l];exact(rel.val k).getD rfl
 ·subst ey
  cases (show u=Value.ref b from ry);obtain⟨z,hd,xs,rel,dd⟩:=nC I.hok e;refine call_meetsIn F.slot_dict_get dd.typeIs F.entry_dict_get (F.args_dict_get_2 _ _) (meetsH_dict_get (tupleKind (fH X.prog X.w)) a b hd) ⟨tupleKind_room_in1 hu,k,xs,oB I.hok eb,dd,h _ _ (I.tok _) ?_⟩;rw[l];exact(rel.val k).getD rfl
theorem a6w(hu:A.units+ 1<cLine)(I:aC X ae σ H s)(g:bU H a y o)(ry:aZ y u)(rd:aZ d r)(h:∀w' s',aC X ae σ H s'->aZ (o.getD d) w'->Q w' s'):
 wpAny (model X.prog X.w) A (call (.builtin "dict.get") [.ref a,u,r]) Q E s:=by
 rcases g with⟨kvs,k,e,ey,l⟩|⟨kvs,k,b,e,ey,eb,l⟩
 ·subst ey
  obtain⟨z,hd,vs,rel,dd⟩:=mN I.hok e;refine call_meetsIn F.slot_dict_get dd.typeIs F.entry_dict_get (F.args_dict_get_3 _ _ _) (meets_dict_get_default (fH X.prog X.w) a (nU ry) hd r) ⟨_,dd.mapOf,h _ _ (I.tok _) ?_⟩;rw[l];exact(rel.val k).getD rd
 ·subst ey
  cases (show u=Value.ref b from ry);obtain⟨z,hd,xs,rel,dd⟩:=nC I.hok e;refine call_meetsIn F.slot_dict_get dd.typeIs F.entry_dict_get (F.args_dict_get_3 _ _ _) (meetsH_dict_get_default (tupleKind (fH X.prog X.w)) a b hd r) ⟨tupleKind_room_in1 hu,k,xs,oB I.hok eb,dd,h _ _ (I.tok _) ?_⟩;rw[l];exact(rel.val k).getD rd
end
def a5T(td ty:TE):TE:=fun σ H Q=>td σ H fun x H1=>∃a,x= .ref a/\IsD H1 a/\ty σ H1 fun y H2=>∃o,bU H2 a y o/\Q (o.getD .non) H2
def a8O(td ty tx:TE):TE:=fun σ H Q=>td σ H fun x H1=>∃a,x= .ref a/\IsD H1 a/\ty σ H1 fun y H2=>tx σ H2 fun z H3=>∃o,bU H3 a y o/\Q (o.getD z) H3
section
variable{o f:Expr}{cpos:Pos}{td ty tx:TE}
theorem a9z(hu:X.A.units+ 1<cLine)(ho:PE X o td)(he:PE X e ty)(m:M1 X o "get" apos e cpos):PE X (.Call (.Attribute o "get" apos) [e] [] cpos) (a5T td ty):=by
 intro ae s σ H Q I h;refine wpAny_Call_method m.base m.few m.line F.plainAttrs_dict F.slot_dict_get F.type_dict_get (aT (ho ae s σ H _ I h) ?_);rintro u s1 ⟨x,H1,I1,rx,a,ex,d,q1⟩;refine ?_;subst ex;obtain rfl:u=Value.ref a:=rx;obtain⟨t1,t2,_⟩:=a1X I1 d;refine⟨t1,t2,?_⟩;rw[m.trees];refine Calls.callWith_builtin rfl (Calls.evalArgs_plain (Calls.spliced_cons (aT (he ae s1 σ H1 _ I1 q1) ?_)));rintro iv s2 ⟨y,H2,I2,ry,ov,g,q2⟩;refine Calls.spliced_nil ?_;exact a85 hu I2 g ry fun w' s3 I3 rw'=>⟨_,H2,I3,rw',q2⟩
theorem a8u(hu:X.A.units+ 1<cLine)(ho:PE X o td)(he:PE X e ty)(hf:PE X f tx)(m:M2 X o "get" apos e f cpos):PE X (.Call (.Attribute o "get" apos) [e,f] [] cpos) (a8O td ty tx):=by
 intro ae s σ H Q I h;refine wpAny_Call_method m.base m.few m.line F.plainAttrs_dict F.slot_dict_get F.type_dict_get (aT (ho ae s σ H _ I h) ?_);rintro u s1 ⟨x,H1,I1,rx,a,ex,d,q1⟩;refine ?_;subst ex;obtain rfl:u=Value.ref a:=rx;obtain⟨t1,t2,_⟩:=a1X I1 d;refine⟨t1,t2,?_⟩;rw[m.trees]
 refine Calls.callWith_builtin rfl (Calls.evalArgs_plain (Calls.spliced_cons (aT (he ae s1 σ H1 _ I1 q1) fun iv s2 ⟨y,H2,I2,ry,q2⟩=>
  Calls.spliced_cons (aT (hf ae s2 σ H2 _ I2 q2) fun fv s3 ⟨z,H3,I3,rz,ov,g,q3⟩=>Calls.spliced_nil ?_))))
 exact a6w hu I3 g ry rz fun w' s4 I4 rw'=>⟨_,H3,I4,rw',q3⟩
end
end L2
namespace Att
open PySem PySem.W PySem.Calls PyProof.Rows
theorem a9W{P:Params}:∀(ns:List Int) (vs:List Value),WellAll P h vs (ns.map WData.int)->IntsAre vs ns:=by
 intro ns
 induction ns with
 |nil=>
  intro vs w;rw[List.map_nil]at w;cases w;exact .nil
 |cons n ns ih=>
  intro vs w;rw[List.map_cons]at w
  cases w with
  |cons a b=>
   cases a;exact .cons _ _ (ih _ b)
theorem a5O{l:OpenLaw}(hn:l.most=some n){P:Params}{args:List WData}{vals:List Value}
 (hpre:l.row.toRowW.claim.pre args=true)(hwl:WellAll P h vals args):
 ∃a vs ns,vals= [Value.ref a] /\args= [WData.list (ns.map WData.int)] /\h.get? a=some {cls:=.type "list",data:=.seq vs.toArray} /\IntsAre vs ns/\ns.length<=n:=by
 have hsh:WShape.hasAll [] args [.list .int]=true:=(pre_splitW hpre).1;have hc:l.pre.holds [] {args:=args}=true:=(pre_splitW hpre).2;obtain⟨d,r,rfl,h1,h2⟩:=hasAllW_cons hsh;obtain rfl:=hasAllW_nil h2;obtain⟨xs,rfl,h3⟩:=hasW_list h1;obtain⟨ns,rfl⟩:=items_int h3
 have hlen:ns.length<=n:=by
  unfold OpenLaw.pre at hc
  have h4:(WTm.not (.lt (.lit (.int (n:Int))) (.len (.arg 0)))).holds [] {args:=[.list (ns.map .int)]}=true:=by
   have h4:=(holds_andW hc).1;rw[hn]at h4;exact h4
  have h5:=condW_of h4 (w_not (w_lt w_lit (w_len_list (w_arg rfl))));rw[List.length_map]at h5;refine Nat.le_of_not_lt fun q=> ?_
  have q':(n:Int)<((ns.length:Nat):Int):=by omega
  first
   |(rw[decide_eq_true q']at h5;exact absurd h5 (by decide))
   |(simp at h5;omega)
 cases hwl with
 |cons w1 w2=>
  cases w2
  cases w1 with
  |list ho hall=>exact⟨_,_,ns,rfl,rfl,ho,a9W ns _ hall,hlen⟩
theorem a9e(l:OpenLaw)(args:List WData):l.row.toRowW.claim.post args (.bool true) args=true:=
 postW_of (r:=l.row.toRowW) (X:=(true==true))
  (show WShape.has [] (.bool true) .bool=true by first|rfl|decide|simp[WShape.has,WShape.arms,WShape.armsAll])
  (show(WTm.eq .res (.lit (.bool true))).value [] {args:=args,res:=some (.bool true),after:=args}=some (.bool (true==true)) from w_eq_bool (w_res rfl) w_lit) rfl
theorem attach_call{l:OpenLaw}{q:Program}{loose:List Str}{XP:(Str->Option Value)->Heap->Prop}{YP:World->Heap->Prop}{d:DefRec}
 (hn:l.most=some n)(hdf:d.params.defaults= [])
 (call:∀(w:World) (s₀ s₁:Shared) (mg mb:Str->Option Value) (fa:Addr) (o:Obj) (pm cd doc:Value) (a:Addr) (vs:List Value) (ns:List Int),
  Ground q loose [] XP w s₀ mg mb s₁.heap->YP w s₁.heap->
  s₁.heap.get? fa=some o->o.data= .func (docDef d.name d.params d.body d.scope pm cd doc)->s₁.heap.CodeRec cd d.name->mg d.name=some (.ref fa)->
  s₁.heap.get? a=some {cls:=.type "list",data:=.seq vs.toArray} ->IntsAre vs ns->ns.length<=n->s₁.gens= #[] ->
  codeAny (model l.prog w) callerA (.call (.ref fa) ⟨[.ref a],[]⟩) (fun r s'=>r= .ok (.ret (.bool true))/\OldK s₁.heap s'.heap/\s'.os=s₁.os/\AllBare s'.gens) s₁):
 WalkO q loose XP YP l.row.toRowW d [] (fun f vs=>PySem.call f vs):=by
 intro w s₀ s₁ mg mb G Y fa o pm cd doc dV kV ho hd hcd hD hmg hg args vals as hpre hlay hrd hwl hlo;obtain rfl:dV= .none:=Dflts.none hD hdf;obtain rfl:kV= .none:=Dflts.noKw hD;obtain⟨a,vs,ns,rfl,rfl,hobj,hints,hlen⟩:=a5O hn hpre hwl;refine enter_call (codeAny_mono (call w s₀ s₁ mg mb fa o pm cd doc a vs ns G Y ho (fd_plain hd) hcd hmg hobj hints hlen hg) fun r s' hq=> ?_);obtain⟨rfl,h2,h3,h4⟩:=hq;exact⟨.inl ⟨.bool true,.bool true,[],rfl,fun _=>rfl,.bool true,a9e l _,fun _=>⟨List.Pairwise.nil,fun _ hm=>(nomatch hm)⟩⟩,h2,h3,h4⟩
section
variable{s:Shared}{K:Frag}
noncomputable def ledger(h:Heap)(L d:Addr):List (Addr×Obj):=(List.range h.objs.size).filterMap fun a=>if a=L\/ a=d then none else(h.get? a).map fun o=>(a,o)
end
end Att
namespace L2
open PySem PySem.Spec PyProof.Rows
theorem a3j:∀{vs:List Value} {ns:List Int},IntsAre vs ns->aW (ns.map V.int) vs
 |_,_,.nil=> .nil
 |_,_,.cons n t h=> .cons ⟨t,rfl⟩ (a3j h)
def jP(s:Stmt):Arguments:=match s with
 | .FunctionDef _ a _ _ _ _ _ _ _ _=>a
 |_=>{posonlyargs:=[],args:=[],vararg:=none,kwonlyargs:=[],kw_defaults:=[],kwarg:=none,defaults:=[]}
def eZ(s:Stmt):List Stmt:=match s with
 | .FunctionDef _ _ b _ _ _ _ _ _ _=>b
 |_=> []
def aL(s:Stmt):Scope:=match s with
 | .FunctionDef _ _ _ _ _ _ sc _ _ _=>sc
 |_=>{kind:=.function,names:=[],isGenerator:=false,isCoroutine:=false}
abbrev aD:fG:=fun _ _ _ _ _ _=>False
abbrev E0:XK:=fun _ _ _=>False
theorem aO:iH aD X E0:=fun _ _ _ _ _ _ _ h=>h.elim
structure lM(K:Fg)(x qual:Str)(st:Stmt)(f:Addr)(fd:FuncData):Prop where
 ex:∃(oc:Value) (od:Option Addr) (kV doc pm:Value) (an:Option Addr) (ah ct:Value) (osl:Array (Option Value)),
  fd=W.fnOf x qual (jP st) (eZ st) (aL st) .none kV doc pm an ah ct/\K.lookup f=some ⟨oc,od,.func fd,osl⟩ /\W.codeIn K ah qual=true
 kp:W.keepIn K (.ref f)=true
section
theorem lM.ok{st:Stmt}{fd:FuncData}{k:Nat}(F:lM K x qual st f fd)(S:aY N ps (aL st))(len:∀vs H Q E,sp vs H Q E->vs.length=ps.length)
 (hbody:∀(ah:Value) (A:Around) (ag:List Env) (s:Shared) (H:Hp) (vs:List V) (Q:VK) (E:XK),bV k (A.deeper (envOfC qual (aL st) s.heap.objs.size f ah))->sp vs H Q E->
  ∃t,eV (dF aD P w K mg af N qual (aL st) f ah A ag s H E).nox (eZ st) t/\t {nx:=fun _ H'=>Q .non H',rt:=Q} (iA N vs) H):fT P w K mg af aD (k+ 1) f fd ps sp:=by
 obtain⟨oc,od,kV,doc,pm,an,ah,ct,osl,rfl,lk,hcd⟩:=F.ex;refine a1B lk hcd S len fun A ag s H vs Q E hr hsp=> ?_
 obtain⟨t,h,q⟩:=hbody ah A ag s H vs Q E hr hsp;exact⟨t,h.nox,q⟩
theorem lM.binds{st:Stmt}{fd:FuncData}(F:lM K x qual st f fd)
 (h:∀(kV doc pm:Value) (an:Option Addr) (ah ct:Value) (us:List Value),us.length=ps.length->bindArgs (W.fnOf x qual (jP st) (eZ st) (aL st) .none kV doc pm an ah ct) ⟨us,[]⟩=pure (ps.zip us)):iW K fd ps []:=by
 obtain⟨oc,od,kV,doc,pm,an,ah,ct,osl,rfl,lk,hcd⟩:=F.ex;exact .all (h kV doc pm an ah ct)
theorem wW{st:Stmt}{osl:Array (Option Value)}{kV:Value}(l:K.lookup f=some ⟨oc,od,.func (W.fnOf x qual (jP st) (eZ st) (aL st) .none kV doc pm an ah ct),osl⟩)
 (c:W.codeIn K ah qual=true)(k:W.keepIn K (.ref f)=true):lM K x qual st f (W.fnOf x qual (jP st) (eZ st) (aL st) .none kV doc pm an ah ct):=⟨⟨oc,od,kV,doc,pm,an,ah,ct,osl,rfl,l,c⟩,k⟩
end
theorem dY{k:Nat}(hr:bV k A):A.units+ 1<cLine:=Nat.lt_of_le_of_lt (Nat.add_le_add_left (by decide:1<=64) _) hr.units
theorem eD(h:n<=1000):n<sizeLine:=Nat.lt_of_le_of_lt h (by decide)
section
theorem pv(i:Nat)(hN:X.N[i]?=some x:=by rfl)(hv:xQ X.env.scope x:=by first|exact Or.inl rfl|exact Or.inr (Or.inl rfl)|exact Or.inr (Or.inr rfl))(hd:(x==("__debug__":Str))=false:=by decide)
 (hcd:(x==("__classdict__":Str))=false:=by decide):PE X (.Name x pos) (uW i):=a2q hN hv hd hcd
theorem a2W:jM X (.builtin "len") (fun xs H Q=>∃a kvs,xs= [V.ref a] /\H a=some (.dK kvs)/\Q (.int kvs.length) H):=by
 intro ae s σ H xs us Q I r h;obtain⟨a,kvs,rfl,ha,q⟩:=h;obtain⟨u,rfl,ru⟩:=pR r;cases ru;exact a6v I (.inl ha) fun t s' I'=>⟨.int kvs.length,H,I',⟨t,rfl⟩,q⟩
end
theorem bG{A B:Prop}(h:B):if false=true then A else B:=by
 rw[if_neg Bool.false_ne_true];exact h
theorem cI{A B:Prop}(h:A):if true=true then A else B:=by
 rw[if_pos rfl];exact h
theorem bY{c A B:Prop} [Decidable c](h1:c->A)(h2:¬c->B):if c then A else B:=by
 by_cases h:c
 ·rw[if_pos h]
  exact h1 h
 ·rw[if_neg h]
  exact h2 h
def aF(H H':Hp):Prop:=∀b o,H b=some o->H' b=some o
theorem aF.refl(H:Hp):aF H H:=fun _ _ h=>h
theorem aF.trans(a:aF H H1)(b:aF H1 H2):aF H H2:=fun c o h=>b c o (a c o h)
theorem aF.seq(e:aF H H')(h:aM K H a xs):aM K H' a xs:=by
 rcases h with(h|⟨o,h⟩)|h
 ·exact .inl (.inl (e _ _ h))
 ·exact .inl (.inr ⟨o,e _ _ h⟩)
 ·exact .inr h
section
variable{κ:Type} [DecidableEq κ]
theorem a6m{kvs:List (κ×V)}{k:κ}(h:aE kvs k=none):¬k∈kvs.map (·.1):=by
 intro m;obtain⟨p,hp,e⟩:=List.mem_map.mp m;have q:(kvs.any fun kv=>decide (kv.1=k))=true:=List.any_eq_true.mpr ⟨p,hp,decide_eq_true e⟩;rw[mX,h]at q;exact absurd q (by simp)
theorem a2D:∀{l:List κ} {k:κ},l.Nodup->¬k∈l->(l++ [k]).Nodup
 | [],k,_,_=>by simp
 |a::r,k,h,hk=>by
  obtain⟨h1,h2⟩:=List.nodup_cons.mp h;show(a::(r++ [k])).Nodup;refine List.nodup_cons.mpr ⟨fun m=> ?_,a2D h2 fun m=>hk (List.mem_cons.mpr (Or.inr m))⟩
  rcases List.mem_append.mp m with q|q
  ·exact h1 q
  ·exact hk (List.mem_cons.mpr (Or.inl (List.mem_singleton.mp q).symm))
theorem a07{kvs:List (κ×V)}{k:κ}(v:V)(hn:(kvs.map (·.1)).Nodup)(h:aE kvs k=none):((aR kvs k v).map (·.1)).Nodup:=by
 rw[sH v h,List.map_append];exact a2D hn (a6m h)
end
section
variable{a b c:Expr}{tc:TE}
theorem qD{i:Int}(h:∃t,X.mg x=some (.int i t))(hg:Gl X x:=by rfl)(hd:(x==("__debug__":Str))=false:=by decide):PE X (.Name x pos) (tC (.int i)):=by
 obtain⟨t,h⟩:=h;exact a0x hg h ⟨t,rfl⟩ hd
theorem a45{z:Str}(h:∃t,X.mg x=some (.str z t))(hg:Gl X x:=by rfl)(hd:(x==("__debug__":Str))=false:=by decide):PE X (.Name x pos) (tC (.str z)):=by
 obtain⟨t,h⟩:=h;exact a0x hg h ⟨t,rfl⟩ hd
theorem vL(h:X.mg x=some (.ref f))(hg:Gl X x:=by rfl)(hd:(x==("__debug__":Str))=false:=by decide):PE X (.Name x pos) (tC (.ref f)):=a0x hg h rfl hd
theorem iP{T:String}(hm:X.mg x=none)(hv:bootBuiltins x=some (.type T))(hg:Gl X x:=by rfl)(hn:x≠ "__name__":=by decide)(hd:(x==("__debug__":Str))=false:=by decide):PE X (.Name x pos) (tC (.ty T)):=a89 hg hm hv rfl hn hd
end
mutual
inductive Dt(K:Fg)(H:Hp):V->PyData->Prop where
 |non:Dt K H .non .none
 |bl (b:Bool):Dt K H (.bl b) (.bool b)
 |int (i:Int):Dt K H (.int i) (.int i)
 |str (x:Str):Dt K H (.str x) (.str x)
 |lst {a:Addr} {xs:List V} {ds:List PyData}:aM K H a xs->dI K H xs ds->Dt K H (.ref a) (.list ds)
 |tup {a:Addr} {xs:List V} {ds:List PyData}:bR K H a xs->dI K H xs ds->Dt K H (.ref a) (.tuple ds)
 |dK {a:Addr} {kvs:List (aB×V)}:H a=some (.dK kvs)->Dt K H (.ref a) (.dict [])
 |dT {a:Addr} {kvs:List (List aB×V)}:H a=some (.dT kvs)->Dt K H (.ref a) (.dict [])
inductive dI(K:Fg)(H:Hp):List V->List PyData->Prop where
 |nil:dI K H [] []
 |cons {v:V} {d:PyData} {vs:List V} {ds:List PyData}:Dt K H v d->dI K H vs ds->dI K H (v::vs) (d::ds)
end
section
variable{s:Shared}
mutual
theorem Dt.reads(I:aC X ae σ H s){v:V}{d:PyData}{u:Value}(h:Dt X.K H v d)(r:aZ v u)(l:d.canLay0=true):∃as,Reads s.heap u d as:=by
 cases h with
 |non=>cases r;exact⟨_,.none⟩
 |bl b=>cases r;exact⟨_,.bool b⟩
 |int i=>obtain⟨t,rfl⟩:=r;exact⟨_,.int i t⟩
 |str x=>obtain⟨t,rfl⟩:=r;exact⟨_,.str x t⟩
 |lst h hd=>
  cases r;obtain⟨its,rv,⟨o,n,e,hc,_,hs⟩,_⟩:=I.list h;obtain⟨as,ra⟩:=dI.reads I hd rv (by rw[PyData.canLay0]at l;exact l);exact⟨_,.list e hc hs (by simpa using ra)⟩
 |tup h hd=>
  cases r;obtain⟨its,rv,⟨o,e,hc,n,hs⟩,_⟩:=I.tuple h;obtain⟨as,ra⟩:=dI.reads I hd rv (by rw[PyData.canLay0]at l;exact l);exact⟨_,.tuple e hc hs (by simpa using ra)⟩
 |dK _=>rw[PyData.canLay0]at l;cases l
 |dT _=>rw[PyData.canLay0]at l;cases l
theorem dI.reads(I:aC X ae σ H s){vs:List V}{ds:List PyData}{us:List Value}(h:dI X.K H vs ds)(r:aW vs us)(l:PyData.canLayAll0 ds=true):∃as,ReadsAll s.heap us ds as:=by
 cases h with
 |nil=>cases r;exact⟨_,.nil⟩
 |cons h hd=>
  rw[PyData.canLayAll0,Bool.and_eq_true]at l
  cases r with
  |cons r1 rr=>
   obtain⟨as,ra⟩:=Dt.reads I h r1 l.1;obtain⟨bs,rb⟩:=dI.reads I hd rr l.2;exact⟨_,.cons ra rb⟩
end
theorem aF.seqT(e:aF H H')(h:bR K H a xs):bR K H' a xs:=by
 rcases h with(h|⟨o,h⟩)|h
 ·exact .inl (.inl (e _ _ h))
 ·exact .inl (.inr ⟨o,e _ _ h⟩)
 ·exact .inr h
mutual
theorem Dt.same{K:Fg}(e:aF H H'){v:V}{d:PyData}(h:Dt K H v d):Dt K H' v d:=by
 cases h with
 |non=>exact .non
 |bl b=>exact .bl b
 |int i=>exact .int i
 |str x=>exact .str x
 |lst h hd=>exact .lst (e.seq h) (dI.same e hd)
 |tup h hd=>exact .tup (aF.seqT e h) (dI.same e hd)
 |dK h=>exact .dK (e _ _ h)
 |dT h=>exact .dT (e _ _ h)
theorem dI.same{K:Fg}(e:aF H H'){vs:List V}{ds:List PyData}(h:dI K H vs ds):dI K H' vs ds:=by
 cases h with
 |nil=>exact .nil
 |cons h hd=>exact .cons (Dt.same e h) (dI.same e hd)
end
theorem dI.get{K:Fg}:∀{vs:List V} {ds:List PyData} {i:Nat} {v:V},dI K H vs ds->vs[i]?=some v->∃d,ds[i]?=some d/\Dt K H v d
 |_,_,_,_,.nil,e=>by simp at e
 |_,_,0,_,.cons h _,e=>by simp at e;subst e;exact⟨_,rfl,h⟩
 |_,_,i+ 1,v,.cons _ t,e=>by
  obtain⟨d,h1,h2⟩:=dI.get (i:=i) (v:=v) t (by simpa using e);exact⟨d,by simpa using h1,h2⟩
theorem dI.length{K:Fg}:∀{vs:List V} {ds:List PyData},dI K H vs ds->vs.length=ds.length
 |_,_,.nil=>rfl
 |_,_,.cons _ t=>by rw[List.length_cons,List.length_cons,dI.length t]
theorem a8E(hu:X.A.units+ 64<cLine):dG X (compareOp .Eq) (fun x y H Q=>∃dx dy,Dt X.K H x dx/\Dt X.K H y dy/\dx.canLay0=true/\dy.canLay0=true/\dx.depth<=64/\Q (.bl (PyData.eqv dx dy)) H):=by
 intro ae s σ H x y v u Q I rx ry h;obtain⟨dx,dy,hx,hy,lx,ly,hd,q⟩:=h;obtain⟨as,ra⟩:=Dt.reads I hx rx lx;obtain⟨bs,rb⟩:=Dt.reads I hy ry ly;exact SeqAt.compareEq_reads ra rb lx ly (by have:=Nat.min_le_left dx.depth dy.depth;omega) ⟨.bl _,H,I,rfl,q⟩
theorem rL(hu:X.A.units+ 64<cLine):dG X (compareOp .NotEq) (fun x y H Q=>∃dx dy,Dt X.K H x dx/\Dt X.K H y dy/\dx.canLay0=true/\dy.canLay0=true/\dx.depth<=64/\Q (.bl (!PyData.eqv dx dy)) H):=by
 intro ae s σ H x y v u Q I rx ry h;obtain⟨dx,dy,hx,hy,lx,ly,hd,q⟩:=h;obtain⟨as,ra⟩:=Dt.reads I hx rx lx;obtain⟨bs,rb⟩:=Dt.reads I hy ry ly;exact SeqAt.compareNe_reads ra rb lx ly (by have:=Nat.min_le_left dx.depth dy.depth;omega) ⟨.bl _,H,I,rfl,q⟩
end
noncomputable def wQ (x:Str):It:=⟨fun i _=>i<x.cps.size,fun i H v H'=>H'=H/\∃c,x.cps[i]?=some c/\v= .str ⟨#[c]⟩,fun i _=>x.cps.size<=i⟩
theorem a6p(it:Addr)(x:Str)(t:Tok):∀ty:String,(ty= "str_ascii_iterator"\/ ty= "str_iterator")->qI P w K tg (wQ x) [it] it (fun i h=>h.IsStrIter it ty x t i):=by
 intro ty hty;refine⟨by simp,?_,?_,?_,?_,?_⟩
 ·intro i h st b hb
  have e:b=it:=by simpa using hb
  subst e;obtain⟨o,e,c,d⟩:=st;exact⟨o,e,fun v z=>by rw[d]at z;cases z⟩
 ·intro i h h' st k
  obtain⟨o,e,c,d⟩:=st;exact⟨o,k it (by simp) o e,c,d⟩
 ·intro X hP hw hK hc i ae s σ H E I hf st hg
  subst hP hw hK;obtain⟨f0,f1,f2,f3,f4,f5⟩:=hf it (by simp);have hi:i<x.cps.size:=hg
  have hx:x.cps[i]?=some x.cps[i]:=by simp[hi]
  have fin:∀h',h'.IsStrIter it ty x t (i+ 1)->Heap.SameBut it s.heap h'->∃u,some (Value.str ⟨#[x.cps[i]]⟩ s.toks)=some u/\
   wpAny (model X.prog X.w) X.A (letOwnedTupleGo tg (.ref it) u) (fun _ s2=>∃y H',aC X ae σ H' s2/\aZ y u/\(wQ x).yld i H y H'/\s2.heap.IsStrIter it ty x t (i+ 1)/\∀b∈ [it],H' b=none) E {s with heap:=h',toks:=s.toks+ 1}:=by
   intro h' st' sb;have I1:aC X ae σ H {s with heap:=h',toks:=s.toks+ 1}:=I.turned (fun b o hb e=>(sb.2 b hb).trans e) f0 f1 f3 f4 f5;obtain⟨o,e,c,d⟩:=id st';refine⟨_,rfl,xF (s:={s with heap:=h',toks:=s.toks+ 1}) e c d ?_ ⟨.str ⟨#[x.cps[i]]⟩,H,I1,⟨_,rfl⟩,⟨rfl,_,hx,rfl⟩,st',fun b hb=>(hf b hb).1⟩⟩
   rcases hty with rfl|rfl<;>decide
  rcases hty with rfl|rfl
  ·exact wpAny_pyNext_ascii_item st hx fin
  ·exact wpAny_pyNext_wide_item st hx fin
 ·intro X hP hw hK hc i ae s σ H E I hf st hg
  subst hP hw hK;obtain⟨f0,f1,f2,f3,f4,f5⟩:=hf it (by simp);have hi:x.cps.size<=i:=hg
  have hx:x.cps[i]?=none:=by simp[hi]
  have fin:∀h',Heap.ExtBut it s.heap h'->(none:Option Value)=none/\aC X ae σ H {s with heap:=h'}:=fun h' eb=>⟨rfl,I.turned (t':=s.toks) (fun b o hb e=>eb b o hb e) f0 f1 f3 f4 f5⟩
  rcases hty with rfl|rfl
  ·exact wpAny_pyNext_ascii_end (I.ok.hd hc) st hx fin
  ·exact wpAny_pyNext_wide_end (I.ok.hd hc) st hx fin
 ·intro A i s Q E st h
  rcases hty with rfl|rfl
  ·exact wpAny_pyIter_striter_ascii st h
  ·exact wpAny_pyIter_striter_wide st h
section
def iStr(tl:TE):TI:=fun σ H R=>tl σ H fun v H1=>∃x,v= .str x/\R (wQ x) H1
theorem a8W{l:Expr}(hl:PE X l tl):PI X tg l (iStr tl):=by
 intro ae s σ H R I h;refine aT (hl ae s σ H _ I h) ?_;rintro v s1 ⟨y,H1,I1,r1,q1⟩;refine ?_;obtain⟨x,e,q⟩:=q1;subst e;obtain⟨t,rfl⟩:=r1;have fin:∀ty:String,(ty= "str_ascii_iterator"\/ ty= "str_iterator")->PIE X ae σ tg R (.ref s1.heap.objs.size) {s1 with heap:=s1.heap.push {cls:=.type ty,data:=.fields #[.str x t,.int 0 0]}}:=fun ty hty=>by
  refine⟨s1.heap.objs.size,[s1.heap.objs.size],_,_,H1,rfl,I1.kept (t':=s1.toks) fun b o e=>Heap.get?_push_of_some _ e,a6p _ x t ty hty,⟨_,Heap.get?_push_size _ rfl,rfl,rfl⟩,fun b hb=> ?_,q⟩
  have e:b=s1.heap.objs.size:=by simpa using hb
  subst e;exact I1.fpOk (Nat.le_refl _) (I1.hok.fresh (Nat.le_refl _))
 cases ha:x.cps.all (·<128)
 ·exact wpAny_pyIter_wide ha (fin _ (.inr rfl))
 ·exact wpAny_pyIter_ascii ha (fin _ (.inl rfl))
end
section
variable{R:Result->Shared->Prop}{s:Shared}
theorem a98{elt target:Expr}{ifs:List Expr}{it acc:Value}{env:Env}(I:Nat->Shared->Prop)
 (turn:∀n s,I n s->wpAny (model prog w) A (pyNext it) (fun r s₁=>match r with
  |none=>R (.ok .next) s₁
  |some v=>wpAny (model prog w) A (letOwnedTupleGo target it v) (fun _ s₁'=>wpAny (model prog w) A (assign target env v) (fun _ s₂=>
   wpAny (model prog w) A (forIn ifs true fun c r=>if r=true then do let ok<- isTrue c env (eval c env);pure (ForInStep.yield ok) else pure (ForInStep.yield r)) (fun ok s₃=>
    if ok=true then wpAny (model prog w) A (eval elt env) (fun x s₄=>
     wpAny (model prog w) A (call (.builtin "list.append") [acc,x]) (fun _ s₅=>∃m,m<n/\I m s₅) (fun _ _=>False) s₄) (fun _ _=>False) s₃
    else∃m,m<n/\I m s₃) (fun _ _=>False) s₂) (fun _ _=>False) s₁') (fun _ _=>False) s₁) (fun _ _=>False) s)
 (n:Nat)(h:I n s):
 codeAny (model prog w) A (.compLoop (.ListComp elt [⟨target,iter,ifs,0⟩] ai pos) 0 it acc env) R s:=by
 refine codeAny_loop rfl I (fun n s hI=> ?_) n h;show wpAny _ A ((compTurn (.ListComp elt [⟨target,iter,ifs,0⟩] ai pos) 0 it acc env).onRaise (fun x=>do noteFrame x env;theTreesLotGoes x)) _ _ s;refine wpAny_noted ?_;rw[compTurn_list];refine wpAny_bind (wpAny_standAt (wpAny_bind (wpAny_mono (turn n s hI) (fun r s₁ h₁=> ?_) fun _ _ h'=>h'.elim)))
 cases r with
 |none=>exact wpAny_pure h₁
 |some v=>
  refine wpAny_bind (wpAny_mono h₁ (fun _ s₁' h₁'=> ?_) fun _ _ h'=>h'.elim);refine wpAny_bind (wpAny_mono h₁' (fun _ s₂ h₂=>wpAny_bind (wpAny_mono h₂ (fun ok s₃ h₃=> ?_) fun _ _ h'=>h'.elim)) fun _ _ h'=>h'.elim)
  cases ok with
  |false=>exact wpAny_pure ⟨rfl,h₃⟩
  |true=>
   exact wpAny_bind (wpAny_bind (wpAny_mono h₃ (fun x s₄ h₄=>wpAny_bind (wpAny_mono h₄ (fun _ s₅ h₅=>wpAny_pure (wpAny_pure ⟨rfl,h₅⟩)) fun _ _ h'=>h'.elim)) fun _ _ h'=>h'.elim))
end
noncomputable def iV (X:Cx) (ai:Scope) (cl:List (Str×Addr)) (C:Addr) (N':List Str) (fp:List Addr) (ae:List (Addr×Obj)) (s:Shared) (H:Hp):Cx where
 prog:=X.prog
 w:=X.w
 K:=X.K
 mg:=X.mg
 base:=X.base
 A:=X.A
 N:=N'
 s₀:=s
 H₀:=H
 env:=compEnvC ai cl C X.env
 outer:=X.stack
 stack:=X.stack
 ex:=fp
 calm:=X.calm
 fn:=fun _=>false
 pn:=X.pn++ ae
 xe:=fun _ _=>False
structure nZ(X:Cx)(ai:Scope)(cl:List (Str×Addr))(cp:List (Nat×Str)):Prop where
 kind:ai.kind= .function
 nocell:∀y∈ai.names,y.2≠ .cell
 names:∀y∈ai.names,y.2= .local->ai.names.lookup y.1=some .local
 clos:closureFor ai X.env=pure cl
 sub:∀x c,cl.lookup x=some c->X.env.cells.lookup x=some c
 has:∀x,((relabel ai X.env).names.lookup x=some .cell\/ (relabel ai X.env).names.lookup x=some .free)->∃c,cl.lookup x=some c
 at':∀p∈cp,X.N[p.1]?=some p.2/\(X.env.scope.names.lookup p.2=some .cell\/ X.env.scope.names.lookup p.2=some .free)/\((relabel ai X.env).names.lookup p.2=some .cell\/ (relabel ai X.env).names.lookup p.2=some .free)
noncomputable def jD (cp:List (Nat×Str)) (σ:St):St:=cp.map fun p=>(σ[p.1]?).getD none
section
variable{s:Shared}{cl:List (Str×Addr)}
theorem a5F(xs:List Str)(I:aC X ae σ H s)(c:nZ X ai cl cp)(hf:∀b∈fp,kF X ae H b)(hfo:∀b∈fp,b<s.heap.objs.size){ty:String}{tk:Nat}{m:Str->Option Value}(hm:h'.Ns s.heap.objs.size m)
 (sb:Heap.SameBut s.heap.objs.size (s.heap.push {cls:=.type ty,data:=.dict #[]}) h'):
 aC (iV X ai cl s.heap.objs.size (xs++ cp.map (·.2)) fp ae s H) [] (xs.map (fun _=>none)++ jD cp σ) H {s with heap:=h',toks:=tk}:=by
 have old:∀b o,s.heap.get? b=some o->h'.get? b=some o:=fun b o e=>(sb.2 b (Nat.ne_of_lt (Heap.lt_size e))).trans (Heap.get?_push_of_some _ e)
 have hC:H s.heap.objs.size=none:=I.hok.fresh (Nat.le_refl _)
 refine⟨⟨I.ok.mod,c.kind,I.ok.glob,I.ok.blt,Nat.le_refl _,fun y z k h1 h2=>I.ok.inj y z k (c.sub _ _ h1) (c.sub _ _ h2),c.has,fun y k z=>(Bool.noConfusion z),I.ok.hd,I.ok.frames,.inl rfl,fun b hb=> ?_,fun b o e=>I.bs b o e,Nat.le_trans I.ok.bsz I.sz,fun b o e hb=> ?_,fun b hb hz=> ?_,I.stack,I.stkFree⟩,
  rfl,I.bare,Un.kept old,⟨m,hm,fun i y v h1 h2 h3=> ?_⟩,fun y k e=> ?_,hC,fun y k e=>I.freeC y k (c.sub y k e),fun p hp=> ?_,I.hok.kept old,?_⟩
 ·obtain⟨f0,f1,f2,f3,f4,f5⟩:=hf b hb
  exact⟨Nat.ne_of_lt (hfo b hb),fun y k e=>f4 y k (c.sub y k e)⟩
 ·obtain⟨f0,f1,f2,f3,f4,f5⟩:=hf b hb
  rcases f3 with z|z
  ·exact I.ok.noex b o e z
  ·exact absurd (Nat.lt_of_lt_of_le (Heap.lt_size (I.ok.bs b o e).1) z) (Nat.lt_irrefl _)
 ·obtain⟨f0,f1,f2,f3,f4,f5⟩:=hf b hb
  rcases List.mem_cons.mp (I.stkSub b hz)with e|e
  ·exact f1 e
  ·exact f2 e
 ·have h1':(xs++ cp.map (·.2))[i]?=some y:=h1
  have h2':=h2;rw[List.getElem?_append,List.length_map]at h2';by_cases hi:i<xs.length
  ·rw[if_pos hi,List.getElem?_map,List.getElem?_eq_getElem hi]at h2'
   cases h2'
  ·rw[if_neg hi]at h2'
   rw[List.getElem?_append_right (Nat.le_of_not_lt hi)]at h1';unfold jD at h2';rw[List.getElem?_map]at h1' h2'
   cases e:cp[i- xs.length]? with
   |none=>rw[e]at h1';cases h1'
   |some p=>
    rw[e]at h1' h2';simp only[Option.map_some,Option.some.injEq]at h1' h2';obtain⟨k1,k2,k3⟩:=c.at' p (List.mem_of_getElem? e);subst h1'
    have h2'':σ[p.1]?=some (some v):=by
     cases q:σ[p.1]? with
     |none=>rw[q]at h2';cases h2'
     |some z=>rw[q]at h2';simpa using h2'
    obtain⟨m0,hn0,hl0⟩:=I.loc;obtain⟨u,r,l⟩:=hl0 p.1 p.2 v k1 h2'' (k2.elim (fun z=> .inr (.inl z)) fun z=> .inr (.inr z));refine⟨u,r,.inr ⟨k3,?_⟩⟩
    rcases l with⟨z,_⟩|⟨_,cc,e1,e2⟩
    ·have z':X.env.scope.names.lookup p.2=some .local:=z
     rcases k2 with k|k<;>(rw[z']at k;cases k)
    ·obtain⟨cc',e3⟩:=c.has p.2 k3
     have e4:=c.sub _ _ e3;rw[e1]at e4;cases e4;obtain⟨o,ho,hd⟩:=e2;exact⟨cc,e3,o,old _ _ ho,hd⟩
 ·obtain⟨v,o,ho,hd⟩:=I.cell y k (c.sub y k e)
  exact⟨v,o,old _ _ ho,hd⟩
 ·have hp':p∈X.pn++ ae:=by
   rcases List.mem_append.mp hp with z|z
   ·exact z
   ·cases z
  obtain⟨e,n,ne,nf,d⟩:=I.pin p hp';refine⟨old _ _ e,n,Nat.ne_of_lt (Heap.lt_size e),fun hz=> ?_,d⟩
  rcases List.mem_cons.mp (I.stkSub p.1 hz)with q|q
  ·exact ne q
  ·exact nf q
 ·show(xs.map (fun _=>none)++ jD cp σ).length=(xs++ cp.map (·.2)).length
  simp[jD]
theorem aC.uncomp{N':List Str}{σ':St}{h'':Heap}(I:aC X ae σ H s)(hC:C=s.heap.objs.size)(hf:∀b∈fp,kF X ae H b)(J:aC (iV X ai cl C N' fp ae s H) [] σ' H' s')(sb:Heap.SameBut C s'.heap h''):
 aC X ae σ H' {s' with heap:=h''}:=by
 have ne:∀b o,s.heap.get? b=some o->b≠C:=fun b o e=>by rw[hC];exact Nat.ne_of_lt (Heap.lt_size e)
 have B:Un (gH X.stack) fp H H' s.heap s'.heap:=J.base;refine I.call' (s':={s' with heap:=h''}) (ch:=fp) (show s'.os=s.os from J.os) ⟨fun b o e n hb hx=> ?_,fun b o e n hb hx=> ?_,B.free,fun b o e hx=> ?_,B.tups,B.frzs,B.tbls⟩ (fun b ob e=> ?_) J.bare fun b hb=> ?_
 ·exact(sb.2 b (ne b o e)).trans (B.keep b o e n hb hx)
 ·obtain⟨sl,q⟩:=B.slot b o e n hb hx
  exact⟨sl,(sb.2 b (ne b o e)).trans q⟩
 ·obtain⟨o',q⟩:=B.there b o e hx
  exact⟨o',(sb.2 b (ne b o e)).trans q⟩
 ·have hfree:H' C=none:=J.free
  refine(J.hok b ob e).stay (fun k w' hk q=>(sb.2 k ?_).trans q) (fun _ q=>q) fun _ _ q=>q
  rintro rfl
  rcases hk with rfl|hk
  ·rw[hfree]at e;cases e
  ·rw[hfree]at hk;cases hk
 ·obtain⟨f0,f1,f2,f3,f4,f5⟩:=hf b hb
  exact⟨f3,f1,f4,f5⟩
end
def tY(X:Cx)(ifs:List Expr)(t:TT):Prop:=
 ∀(ae:List (Addr×Obj)) (s:Shared) (σ:St) (H:Hp) (Q:Bool->Hp->Prop),aC X ae σ H s->t σ H Q->
  wpAny (model X.prog X.w) X.A (forIn ifs true fun c r=>if r=true then do let ok<- isTrue c X.env (eval c X.env);pure (ForInStep.yield ok) else pure (ForInStep.yield r)) (TP X ae σ Q) X.xe s
def sG:TT:=fun _ H Q=>Q true H
theorem rZ:tY X [] sG:=fun _ _ _ H _ I h=>wpAny_tests_nil ⟨H,I,h⟩
def oS(cp:List (Nat×Str))(tt:TT)(te:TE)(σ:St)(J:It)(D:Addr)(Q:VK)(H1:Hp):Prop:=
 ∃W:Nat->Nat->Hp->Prop,(∃m,W 0 m (upd H1 D (.lst [])))/\∀i m H2,W i m H2->(J.stop i H2/\Q (.ref D) H2)\/
  (J.go i H2/\∃(N:VK) (N':Hp->Prop),(∀y H5,N y H5->∃ys m',H5 D=some (.lst ys)/\ys.length<sizeLine/\m'<m/\W (i+ 1) m' (upd H5 D (.lst (ys++ [y]))))/\(∀H4,N' H4->∃m',m'<m/\W (i+ 1) m' H4)/\
   ∀v H3,J.yld i H2 v H3->tt (some v::jD cp σ) H3 fun b H4=>if b=true then te (some v::jD cp σ) H4 N else N' H4)
def yS(S:St->Prop)(tg:TG)(tt:TT)(te:TE)(J:It)(D:Addr)(Q:VK)(H1:Hp):Prop:=
 ∃W:Nat->Nat->Hp->Prop,(∃m,W 0 m (upd H1 D (.lst [])))/\∀i m H2,W i m H2->(J.stop i H2/\Q (.ref D) H2)\/
  (J.go i H2/\∃(N:VK) (N':Hp->Prop),(∀y H5,N y H5->∃ys m',H5 D=some (.lst ys)/\ys.length<sizeLine/\m'<m/\W (i+ 1) m' (upd H5 D (.lst (ys++ [y]))))/\(∀H4,N' H4->∃m',m'<m/\W (i+ 1) m' H4)/\
   ∀v H3 σ,S σ->J.yld i H2 v H3->tg v σ H3 fun σ' H4=>S σ'/\tt σ' H4 fun k H5=>if k=true then te σ' H5 N else N' H5)
theorem oS.s{tt:TT}{J:It}{Q:VK}(q:oS cp tt te σ J D Q H1):yS (fun σ'=>∃o,σ'=o::jD cp σ) (qW 0) tt te J D Q H1:=by
 obtain⟨W,w0,turn⟩:=q;refine⟨W,w0,fun i m H2 w=>(turn i m H2 w).imp id fun h=> ?_⟩;obtain⟨go,N,N',a,b,step⟩:=h;refine⟨go,N,N',a,b,fun v H3 σ' h y=> ?_⟩;obtain⟨o,rfl⟩:=h;exact⟨⟨_,rfl⟩,step v H3 y⟩
def a2p(cp:List (Nat×Str))(wi:TI)(tt:TT)(te:TE):TE:=fun σ H Q=>wi σ H fun J H1=>∀D,H1 D=none->oS cp tt te σ J D Q H1
section
variable{cl:List (Str×Addr)}{xs:List Str}{px:Pos}{tgt:Expr}{tg:TG}{elt:Expr}{ifs:List Expr}{wi:TI}{tt:TT}
theorem a28{s2:Shared}{it:Addr}{tn:Nat->Heap->Prop}{J:It}{Q:VK}{R:Addr->Result->Shared->Prop}{E:Value->Shared->Prop}(c:nZ X ai cl cp)(hcalm:X.calm=true)(hg:∀C fp ae s H,PG (iV X ai cl C (xs++ cp.map (·.2)) fp ae s H) tgt tg)
 (ht:∀C fp ae s H,tY (iV X ai cl C (xs++ cp.map (·.2)) fp ae s H) ifs tt)(he:∀C fp ae s H,PE (iV X ai cl C (xs++ cp.map (·.2)) fp ae s H) elt te)
 (I2:aC X ae σ H2 s2)(T:qI X.prog X.w X.K tgt J fp it tn)(st2:tn 0 s2.heap)(f2:∀b∈fp,kF X ae H2 b){S:St->Prop}(hS:S (xs.map (fun _=>none)++ jD cp σ))(q:yS S tg tt te J s2.heap.objs.size Q H2)
 (hR:∀(C:Addr) (H':Hp) (s':Shared),(∃m,s'.heap.Ns C m)->X.s₀.heap.objs.size<=C->H' C=none->C≠X.env.locals->(∀x c,X.env.cells.lookup x=some c->c≠C)->(∀p∈X.pn++ ae,p.1≠C)->(∀h'',Heap.SameBut C s'.heap h''->aC X ae σ H' {s' with heap:=h''})->Q (.ref s2.heap.objs.size) H'->R C (.ok .next) s'):
 wpAny (model X.prog X.w) X.A (newList []) (fun acc s₃=>wpAny (model X.prog X.w) X.A (newFunctionEnv ai X.env.globals cl [] X.env.qual none .none (some X.env)) (fun cenv s₄=>
  acc= .ref s2.heap.objs.size/\codeAny (model X.prog X.w) X.A (.compStart (.ListComp elt [⟨tgt,iter,ifs,0⟩] ai pos) 0 (.ref it) acc {cenv with scope:=relabel ai X.env}) (R cenv.locals) s₄) E s₃) E s2:=by
 obtain⟨W,⟨m0,w0⟩,turn⟩:=q;refine wpAny_newObj_type ?_;have I3:aC X ae σ (upd H2 s2.heap.objs.size (.lst [])) {s2 with heap:=s2.heap.push {cls:=.type "list",dict:=none,data:=.seq ([]:List Value).toArray}}:=
  I2.lnew (t':=s2.toks) (ys:=[]) (its:=[]) .nil (Nat.zero_le _)
 have fpo:∀b∈fp,b<s2.heap.objs.size:=fun b hb=>by
  obtain⟨o,e,_⟩:=T.obj _ _ st2 b hb;exact Heap.lt_size e
 have f3:∀b∈fp,kF X ae (upd H2 s2.heap.objs.size (.lst [])) b:=fun b hb=>⟨by rw[aH (Nat.ne_of_lt (fpo b hb))];exact(f2 b hb).1,(f2 b hb).2⟩
 generalize hs3:({s2 with heap:=s2.heap.push {cls:=.type "list",dict:=none,data:=.seq ([]:List Value).toArray}}:Shared)=s3 at I3
 have e3:s3.heap=s2.heap.push {cls:=.type "list",dict:=none,data:=.seq ([]:List Value).toArray}:=by rw[<- hs3]
 have sz3:s2.heap.objs.size<s3.heap.objs.size:=by rw[e3,Heap.size_push];exact Nat.lt_succ_self _
 refine wpAny_newFunctionEnv c.nocell (by intro y hy;cases hy) (fun h₁ hns sb=> ?_) c.kind;have J3:=a5F xs (tk:=s3.toks+ ([]:List (Str×Value)).length) I3 c f3 (fun b hb=>Nat.lt_trans (fpo b hb) sz3) hns sb;refine⟨rfl,?_⟩;have st3:tn 0 h₁:=T.keep _ _ _ st2 fun b hb o e=>(sb.2 b (Nat.ne_of_lt (Nat.lt_trans (fpo b hb) sz3))).trans (Heap.get?_push_of_some _ (by rw[e3];exact Heap.get?_push_of_some _ e))
 generalize hX:iV X ai cl s3.heap.objs.size (xs++ cp.map (·.2)) fp ae s3 (upd H2 s2.heap.objs.size (.lst []))=X' at J3
 have eA:X'.A=X.A:=by rw[<- hX];rfl
 have eP:X'.prog=X.prog:=by rw[<- hX];rfl
 have ew:X'.w=X.w:=by rw[<- hX];rfl
 have eK:X'.K=X.K:=by rw[<- hX];rfl
 have ec:X'.calm=true:=by rw[<- hX];exact hcalm
 have ee:X'.env=compEnvC ai cl s3.heap.objs.size X.env:=by rw[<- hX];rfl
 have ex:X'.xe=fun _ _=>False:=by rw[<- hX];rfl
 have fpX:∀{H':Hp},(∀b∈fp,H' b=none)->∀b∈fp,kF X' [] H' b:=fun hn b hb=>by
  obtain⟨f0,f1,f2',f3',f4,f5⟩:=f3 b hb;subst hX;refine⟨hn b hb,Nat.ne_of_lt (Nat.lt_trans (fpo b hb) sz3),fun hz=> ?_,.inl hb,fun y k e=>f4 y k (c.sub y k e),fun p hp=> ?_⟩
  ·rcases List.mem_cons.mp (I3.stkSub b hz)with e|e
   ·exact f1 e
   ·exact f2' e
  ·rcases List.mem_append.mp hp with z|z
   ·exact f5 p z
   ·cases z
 have pT:=ht s3.heap.objs.size fp ae s3 (upd H2 s2.heap.objs.size (.lst []));have pE:=he s3.heap.objs.size fp ae s3 (upd H2 s2.heap.objs.size (.lst []));have pG:=hg s3.heap.objs.size fp ae s3 (upd H2 s2.heap.objs.size (.lst []));rw[hX]at pT pE pG
 have loop:codeAny (model X.prog X.w) X.A (.compLoop (.ListComp elt [⟨tgt,iter,ifs,0⟩] ai pos) 0 (.ref it) (.ref s2.heap.objs.size) (compEnvC ai cl s3.heap.objs.size X.env)) (R s3.heap.objs.size) {s3 with heap:=h₁,toks:=s3.toks+ ([]:List (Str×Value)).length}:=by
  refine a98 (fun n s'=>∃i σ' H',S σ'/\aC X' [] σ' H' s'/\tn i s'.heap/\(∀b∈fp,H' b=none)/\W i n H') ?_ m0 ⟨0,_,_,hS,J3,st3,fun b hb=>(f3 b hb).1,w0⟩;rintro n s5 ⟨i,σ5,H5,S5,J5,st5,fr5,w5⟩
  rcases turn i n H5 w5 with⟨stop,qn⟩|⟨go,N,N',hN,hN',step⟩
  ·have z:=T.done X' eP ew eK ec i [] s5 _ H5 (fun _ _=>False) J5 (fpX fr5) st5 stop
   rw[eA]at z;refine aT z ?_;rintro r s6 ⟨hr,J6⟩;refine ?_;subst hr;subst hX;obtain⟨m6,hn6,_⟩:=J6.loc;refine hR s3.heap.objs.size H5 s6 ⟨m6,hn6⟩ I3.sz J6.free (Nat.ne_of_gt I3.lt) (fun y k e z=> ?_) (fun p hp z=> ?_) (fun h'' sb'=>I3.uncomp rfl f3 J6 sb') qn
   ·obtain⟨v,w'⟩:=I3.cell y k e
    exact absurd w'.lt (by rw[z];exact Nat.lt_irrefl _)
   ·exact absurd (Heap.lt_size (I3.pin p hp).1) (by rw[z];exact Nat.lt_irrefl _)
  ·have z:=T.item X' eP ew eK ec i [] s5 _ H5 (fun _ _=>False) J5 (fpX fr5) st5 go
   rw[eA]at z;refine aT z ?_;rintro r s6 ⟨u,hr,h6⟩;refine ?_;subst hr;refine aT h6 ?_;rintro _ s7 ⟨v,H7,J7,r7,y7,st7,fr7⟩;refine ?_;have J7':=J7.pinned (fpX fr7) (T.obj _ _ st7);have z8:=pG _ s7 _ H7 v u _ J7' r7 (step v H7 _ S5 y7);rw[eA,eP,ew,ee,ex]at z8;refine aT z8 ?_;rintro _ s8 ⟨σ8,H8,J8,S8,q8⟩;refine ?_;have z9:=pT _ s8 _ H8 _ J8 q8;rw[eA,eP,ew,ee,ex]at z9;refine aT z9 ?_;rintro ok s9 ⟨H9,J9,q9⟩;refine ?_;have fin:∀{H':Hp} {s':Shared},aC X' ([] ++ tT fp s7.heap) σ8 H' s'->(∃m',m'<n/\W (i+ 1) m' H')->∃m,m<n/\∃i σ' H',S σ'/\aC X' [] σ' H' s'/\tn i s'.heap/\(∀b∈fp,H' b=none)/\W i m H':=fun{H' s'} K' ⟨m',hm,w'⟩=>by
    refine⟨m',hm,i+ 1,σ8,H',S8,K'.unpinned,T.keep _ _ _ st7 fun b hb ob e=>(K'.pin (b,ob) (List.mem_append_right _ (List.mem_append_right _ (wY hb e)))).1,fun b hb=> ?_,w'⟩;obtain⟨ob,e,d⟩:=T.obj _ _ st7 b hb;exact(K'.pin (b,ob) (List.mem_append_right _ (List.mem_append_right _ (wY hb e)))).2.1
   cases ok with
   |false=>
    rw[if_neg Bool.false_ne_true]at q9|-
    exact fin J9 (hN' _ q9)
   |true=>
    rw[if_pos rfl]at q9|-
    have z10:=pE _ s9 _ H9 _ J9 q9;rw[eA,eP,ew,ee,ex]at z10;refine aT z10 ?_;rintro u10 s10 ⟨y,H10,J10,r10,n10⟩;refine ?_;obtain⟨ys,m',hD,hz,hm,w'⟩:=hN y H10 n10;have z11:=lO (X:=X') _ s10 _ H10 (.ref s2.heap.objs.size) [y] (.ref s2.heap.objs.size) [u10] (fun _ H'=>H'=upd H10 s2.heap.objs.size (.lst (ys++ [y]))) J10 rfl (.cons r10 .nil) ⟨_,ys,y,rfl,rfl,hD,hz,rfl⟩;rw[eA,eP,ew,ex]at z11;refine aT z11 ?_;rintro u11 s11 ⟨y',H11,J11,r11,e11⟩;refine ?_;subst e11;exact fin J11 ⟨m',hm,w'⟩
 exact codeAny_compStart_list loop (T.self _ 0 _ _ _ st3 loop)
theorem a71{S:St->St->Prop}{Lp:St->It->VK->Hp->Prop}(c:nZ X ai cl cp)(hcalm:X.calm=true)(hg:∀C fp ae s H,PG (iV X ai cl C (xs++ cp.map (·.2)) fp ae s H) tgt tg)(hi:PI X tgt iter wi)
 (ht:∀C fp ae s H,tY (iV X ai cl C (xs++ cp.map (·.2)) fp ae s H) ifs tt)(he:∀C fp ae s H,PE (iV X ai cl C (xs++ cp.map (·.2)) fp ae s H) elt te)
 (hS:∀σ,S σ (xs.map (fun _=>none)++ jD cp σ))(hL:∀σ J Q H1,Lp σ J Q H1->∀D,H1 D=none->yS (S σ) tg tt te J D Q H1)
 (hs:∀v,foldedSetIterable iter X.env v=pure v:=by intro _;rfl):PE X (.ListComp elt [⟨tgt,iter,ifs,0⟩] ai pos) (fun σ H Q=>wi σ H (fun J=>Lp σ J Q)):=by
 intro ae s σ H Q I h;rw[eval_ListComp];refine wpAny_comprehension_free (use:=none) (g:=⟨tgt,iter,ifs,0⟩) (gs:=[]) (cl:=cl) rfl hs c.clos c.kind c.names ?_;refine aT (hi ae s σ H _ I h) fun v s1 h1=>aT h1 fun itv s2 h2=> ?_
 obtain⟨it,fp,tn,J,H2,e,I2,T,st2,f2,q⟩:=h2;subst e;refine aT (a28 (iter:=iter) (pos:=pos) (R:=fun C=>compPost (model X.prog X.w) X.A X.xe none (EP X ae σ Q) (.ref s2.heap.objs.size) C) c hcalm hg ht he I2 T st2 f2 (hS σ) (hL σ J Q H2 q _ (I2.hok.fresh (Nat.le_refl _))) ?_) fun acc s3 h3=>aT h3 fun cenv s4 h4=> ?_
 ·rintro C H' s' ⟨m,hn⟩ _ _ _ _ _ hI hq
  exact⟨m,hn,fun h'' sb=>⟨.ref s2.heap.objs.size,H',hI h'' sb,rfl,hq⟩⟩
 ·obtain⟨e,h4⟩:=h4
  subst e;exact h4
theorem a1M(hx:ai.names.lookup x=some .local)(hnd:(x::cp.map (·.2)).Nodup):∀C fp ae s H,PG (iV X ai cl C ([x] ++ cp.map (·.2)) fp ae s H) (.Name x px) (qW 0):=fun _ _ _ _ _=>iG hnd rfl (.inl (lookup_relabel_local hx)) (.inr (lookup_relabel_local hx))
theorem vV(c:nZ X ai cl cp)(hcalm:X.calm=true)(hx:ai.names.lookup x=some .local)(hnd:(x::cp.map (·.2)).Nodup)(hi:PI X (.Name x px) iter wi)
 (ht:∀C fp ae s H,tY (iV X ai cl C (x::cp.map (·.2)) fp ae s H) ifs tt)(he:∀C fp ae s H,PE (iV X ai cl C (x::cp.map (·.2)) fp ae s H) elt te)
 (hs:∀v,foldedSetIterable iter X.env v=pure v:=by intro _;rfl):PE X (.ListComp elt [⟨.Name x px,iter,ifs,0⟩] ai pos) (a2p cp wi tt te):=
 a71 c hcalm (a1M hx hnd) hi ht he (fun _=>⟨_,rfl⟩) (fun _ _ _ _ h D e=>(h D e).s) hs
end
section
variable{cl:List (Str×Addr)}{px:Pos}{elt:Expr}{ifs:List Expr}{wi:TI}{tt:TT}
theorem a7D{y:Str}{py:Pos}(hN:X.N.Nodup)(hi':X.N[i]?=some y)(hy:X.env.scope.names.lookup y=some .local)(c:nZ X ai cl cp)(hcalm:X.calm=true)(hx:ai.names.lookup x=some .local)(hnd:(x::cp.map (·.2)).Nodup)(hi:PI X (.Name x px) iter wi)
 (ht:∀C fp ae s H,tY (iV X ai cl C (x::cp.map (·.2)) fp ae s H) ifs tt)(he:∀C fp ae s H,PE (iV X ai cl C (x::cp.map (·.2)) fp ae s H) elt te)
 (hsw:swapsWith (.ListComp elt [⟨.Name x px,iter,ifs,0⟩] ai pos) (some (.Name y py)) pos'.line X.env=pure true)
 (hs:∀v,foldedSetIterable iter X.env v=pure v:=by intro _;rfl):PS X (.Assign [.Name y py] (.ListComp elt [⟨.Name x px,iter,ifs,0⟩] ai pos) pos') (xT (a2p cp wi tt te) (qW i)):=by
 intro ae s σ H D I h;rw[exec_Assign_Name_used _ _ _ _ hsw];refine wpAny_bind (wpAny_standAt (wpAny_bind (wpAny_bind ?_)));refine wpAny_comprehension_free (use:=some (assign (.Name y py) X.env)) (g:=⟨.Name x px,iter,ifs,0⟩) (gs:=[]) (cl:=cl) rfl hs c.clos c.kind c.names ?_;refine aT (hi ae s σ H _ I h) fun v s1 h1=>aT h1 fun itv s2 h2=> ?_
 obtain⟨it,fp,tn,J,H2,e,I2,T,st2,f2,q⟩:=h2;subst e;refine aT (a28 (iter:=iter) (pos:=pos) (R:=fun C=>compPost (model X.prog X.w) X.A X.xe (some (assign (.Name y py) X.env)) (fun _ s'=>wpAny (model X.prog X.w) X.A (pure ()) (fun _ s'=>wpAny (model X.prog X.w) X.A (pure Flow.next) (SP X ae D) X.xe s') X.xe s') (.ref s2.heap.objs.size) C) c hcalm (a1M hx hnd) ht he I2 T st2 f2 ⟨_,rfl⟩ (q _ (I2.hok.fresh (Nat.le_refl _))).s ?_) fun acc s3 h3=>aT h3 fun cenv s4 h4=> ?_
 ·rintro C H' s' ⟨m,hn⟩ hC0 hCn hCL hCc hCp hI hq
  have I':aC X ae σ H' s':=hI s'.heap (Heap.SameBut.refl ..);refine wpAny_assign_Name (a2r (v:=.ref s2.heap.objs.size) I' hN hi' (.inl hy) rfl (fun s'' I'' hb=> ?_) (.inr hy));obtain⟨a,sb,ha⟩:=hb
  have hne:C≠a:=by
   rcases ha with z|z
   ·rw[z];exact hCL
   ·exact fun e=>hCc y a z e.symm
  refine⟨m,hn.sameBut sb hne,fun h'' sb''=>wpAny_pure (wpAny_pure ⟨_,H',?_,hq⟩)⟩;exact I''.turned (t':=s''.toks) (fun b o hb e=>(sb''.2 b hb).trans e) hCn hCL (.inr hC0) hCc hCp
 ·obtain⟨e,h4⟩:=h4
  subst e;exact h4
end
theorem a4T:∀{bs:List Bool} {us:List Value},aW (bs.map V.bl) us->∀(i:Nat) (v:Value),us[i]?=some v->∃b:Bool,bs[i]?=some b/\v=Value.bool b
 | [],_,.nil,i,v,h=>by simp at h
 |b::bs,u::us,.cons r t,0,v,h=>by
  simp at h;subst h;cases r;exact⟨b,rfl,rfl⟩
 |b::bs,u::us,.cons r t,i+ 1,v,h=>by
  obtain⟨b',e1,e2⟩:=a4T t i v (by simpa using h);exact⟨b',by simpa using e1,e2⟩
section
theorem a1H(hc:X.calm=true):jM X (.builtin "all") (fun xs H Q=>∃(a:Addr) (bs:List Bool),xs= [.ref a] /\aM X.K H a (bs.map V.bl)/\Q (.bl (bs.all id)) H):=by
 intro ae s σ H xs us Q I r h;obtain⟨a,bs,rfl,hq,q⟩:=h;obtain⟨u,rfl,ru⟩:=r.one;cases ru;obtain⟨its,rv,pl,hz⟩:=I.list hq;have hl:s.heap.IsList a its.toArray:=pl.isList
 have hlt:a<s.heap.objs.size:=by obtain⟨_,e,_⟩:=hl;exact Heap.lt_size e
 refine call_all_walk (wpAny_pyIter_list hl ?_)
 refine⟨s.heap.objs.size,[s.heap.objs.size,a],[s.heap.objs.size],its.toArray.size,_,_,fun i=>(bs[i]?).getD true,rfl,Walks.list (A:=X.A.in1) (I.ok.hd hc) _ a (Nat.ne_of_lt hlt) its.toArray,
  ⟨⟨_,Heap.get?_push_size _ rfl,rfl,rfl⟩,hl.push _⟩,fun i v s' Q' E' hP hQ=> ?_,fun h' tk hk=> ?_⟩
 ·obtain⟨b,e,rfl⟩:=a4T rv i v (by simpa using hP)
  simp only[e,Option.getD_some]at hQ;exact wpAny_truthy_bool hQ
 ·have e:((List.range its.toArray.size).all fun i=>(bs[i]?).getD true)=bs.all id:=by
   have:=rv.length;rw[List.length_map]at this;rw[List.size_toArray,<- this];exact PyProof.Rows.LSm.range_all bs
  rw[e];refine⟨.bl _,H,I.kept (t':=tk) fun b o e'=>hk b o (fun hm=> ?_) (Heap.get?_push_of_some _ e'),rfl,q⟩;rw[List.mem_singleton.mp hm]at e';exact Nat.lt_irrefl _ (Heap.lt_size e')
end
structure bD(P:Program)(w:World)(K:Fg)(mg:Str->Option Value)(af:Heap)(CX:fG)(k:Nat)(x:Str)(ps:List Str)(sp:Sp):Prop where
 ex:∃f fd,fT P w K mg af CX k f fd ps sp/\mg x=some (.ref f)/\W.keepIn K (.ref f)=true/\iW K fd ps []
section
variable{k:Nat}{E:XK}{p:Pos}{t:TA}
theorem bK(G:bD X.prog X.w X.K X.mg X.base CX k x ps sp)(hr:bV k X.A)(hx:iH CX X E)(ha:PA X (e::es) t)(hg:Gl X x:=by rfl)(hdb:(x==("__debug__":Str))=false:=by decide)
 (he:starEach (e::es) X.env=(false,eval e X.env)::starEach es X.env:=by rfl)(hpl:(backTo pos (starEach es X.env)).any (·.1)=false:=by rfl):PE X (.Call (.Name x p) (e::es) [] pos) (uG sp [] E t):=by
 obtain⟨f,fd,F,hm,hk,hb⟩:=G.ex;exact a8D F hr hg hm hk hb .nil hx ha hdb he hpl
end
def uO(D:Addr)(Pv:Nat->List V->Hp->Prop)(i:Nat)(ys:List V):VK:=fun y H5=>H5 D=some (.lst ys)/\ys.length<sizeLine/\Pv (i+ 1) (ys++ [y]) (upd H5 D (.lst (ys++ [y])))
theorem a0W{J:It}{Q:VK}(Pv:Nat->List V->Hp->Prop)(h0:Pv 0 [] (upd H1 D (.lst [])))
 (hg:∀i ys H,H D=some (.lst ys)->Pv i ys H->(i<n->J.go i H)/\(i=n->J.stop i H))
 (hs:∀i ys H v H',i<n->H D=some (.lst ys)->Pv i ys H->J.yld i H v H'->te (some v::jD cp σ) H' (uO D Pv i ys))
 (hd:∀ys H,H D=some (.lst ys)->Pv n ys H->Q (.ref D) H):oS cp sG te σ J D Q H1:=by
 refine⟨fun i m H=>m=n- i/\i<=n/\∃ys,H D=some (.lst ys)/\Pv i ys H,⟨n,by simp,Nat.zero_le _,[],aI,h0⟩,?_⟩;rintro i m H ⟨rfl,hi,ys,hD,p⟩;by_cases hlt:i<n
 ·refine .inr ⟨(hg i ys H hD p).1 hlt,uO D Pv i ys,fun _=>False,fun y H5 ⟨h1,h2,h3⟩=>⟨ys,n- (i+ 1),h1,h2,by omega,rfl,hlt,_,aI,h3⟩,fun _ z=>z.elim,fun v H' y=> ?_⟩
  exact hs i ys H v H' hlt hD p y
 ·have e:i=n:=by omega
  subst e;exact .inl ⟨(hg i ys H hD p).2 rfl,hd ys H hD p⟩
theorem a5g{lo:Int}{Q:VK}(Pv:Nat->List V->Hp->Prop)(h0:Pv 0 [] (upd H1 D (.lst [])))
 (hs:∀i ys H,i<n->H D=some (.lst ys)->Pv i ys H->te (some (.int (lo+ i))::jD cp σ) H (uO D Pv i ys))
 (hd:∀ys H,H D=some (.lst ys)->Pv n ys H->Q (.ref D) H):oS cp sG te σ (oW lo n) D Q H1:=
 a0W (n:=n) Pv h0 (fun i ys H _ _=>⟨fun h=>h,fun h=>by subst h;exact Nat.le_refl _⟩) (fun i ys H v H' hi hD p y=>by
  obtain⟨e,rfl⟩:=y;subst e
  exact hs i ys _ hi hD p) hd
theorem a9s{Q:VK}(Pv:Nat->List V->Hp->Prop)(h0:Pv 0 [] (upd H1 D (.lst [])))
 (hs:∀i c ys H,x.cps[i]?=some c->H D=some (.lst ys)->Pv i ys H->te (some (.str ⟨#[c]⟩)::jD cp σ) H (uO D Pv i ys))
 (hd:∀ys H,H D=some (.lst ys)->Pv x.cps.size ys H->Q (.ref D) H):oS cp sG te σ (wQ x) D Q H1:=
 a0W (n:=x.cps.size) Pv h0 (fun i ys H _ _=>⟨fun h=>h,fun h=>by subst h;exact Nat.le_refl _⟩) (fun i ys H v H' hi hD p y=>by
  obtain⟨e,c,hc,rfl⟩:=y;subst e
  exact hs i c ys _ hc hD p) hd
theorem yQ{Q:VK}(Pv:Nat->List V->Hp->Prop)(h0:Pv 0 [] (upd H1 D (.lst [])))
 (hl:∀i ys H,H D=some (.lst ys)->Pv i ys H->aM K H a xs)
 (hs:∀i x ys H,xs[i]?=some x->H D=some (.lst ys)->Pv i ys H->te (some x::jD cp σ) H (uO D Pv i ys))
 (hd:∀ys H,H D=some (.lst ys)->Pv xs.length ys H->Q (.ref D) H):oS cp sG te σ (rD K a) D Q H1:=
 a0W (n:=xs.length) Pv h0 (fun i ys H hD p=>⟨fun h=>⟨xs,xs[i],hl i ys H hD p,by simp[h]⟩,fun h=>by subst h;exact⟨xs,hl _ ys H hD p,Nat.le_refl _⟩⟩) (fun i ys H v H' hi hD p y=>by
  obtain⟨e,y⟩:=y;subst e
  exact hs i v ys _ (y xs (hl i ys _ hD p)) hD p) hd
inductive Kd where
 |non|bl|int|str|lst|tup|dct
 deriving DecidableEq
def Kd.nm:Kd->String
 | .non=> "NoneType"| .bl=> "bool"| .int=> "int"| .str=> "str"| .lst=> "list"| .tup=> "tuple"| .dct=> "dict"
theorem a5t(K:Fg)(a:Kd):W.kitOne K (.type a.nm) (.type "int")=some (decide (a= .int\/ a= .bl)):=by cases a<;>kernel_rfl
theorem a3l(K:Fg)(a:Kd):W.kitOne K (.type a.nm) (.type "bool")=some (decide (a= .bl)):=by cases a<;>kernel_rfl
theorem a1p(K:Fg)(a:Kd):W.kitOne K (.type a.nm) (.type "str")=some (decide (a= .str)):=by cases a<;>kernel_rfl
theorem a0p(K:Fg)(a:Kd):W.kitOne K (.type a.nm) (.type "list")=some (decide (a= .lst)):=by cases a<;>kernel_rfl
theorem tH(K:Fg)(a:Kd):W.kitOne K (.type a.nm) (.type "tuple")=some (decide (a= .tup)):=by cases a<;>kernel_rfl
noncomputable def gX:PyData->Kd
 | .none=> .non| .bool _=> .bl| .int _=> .int| .str _=> .str| .list _=> .lst| .tuple _=> .tup| .dict _=> .dct
theorem jZ:jM X (.builtin "isinstance") (fun xs H Q=>∃x T d k,xs= [x,.ty T] /\Dt X.K H x d/\W.kitOne X.K (.type (gX d).nm) (.type T)=some k/\Q (.bl k) H):=by
 intro ae s σ H xs us Q I r h;obtain⟨x,T,d,k,rfl,hd,e,q⟩:=h;obtain⟨u,c,rfl,r1,r2⟩:=r.two;cases r2;have fin:∀tk,EP X ae σ Q (.bool k) {s with toks:=tk}:=fun tk=>⟨.bl k,H,I.tok tk,rfl,q⟩
 cases hd with
 |non=>cases r1;exact W.kia_one W.kitx_none I.kIn True.intro e (fun z=>nomatch z) fin
 |bl b=>cases r1;exact W.kia_one W.kitx_bool I.kIn True.intro e (fun z=>nomatch z) fin
 |int i=>obtain⟨t,rfl⟩:=r1;exact W.kia_one W.kitx_int I.kIn True.intro e (fun z=>nomatch z) fin
 |str z=>obtain⟨t,rfl⟩:=r1;exact W.kia_one W.kitx_str I.kIn True.intro e (fun z=>nomatch z) fin
 |lst hq _=>
  cases r1;obtain⟨its,_,⟨o,n,eo,hc,_,_⟩,_⟩:=I.list hq;exact W.kia_one W.kitx_list I.kIn ⟨o,eo,hc⟩ e (fun z=>nomatch z) fin
 |tup hq _=>
  cases r1;obtain⟨its,_,⟨o,eo,hc,_⟩,_⟩:=I.tuple hq;exact W.kia_one W.kitx_tuple I.kIn ⟨o,eo,hc⟩ e (fun z=>nomatch z) fin
 |dK ea=>
  cases r1;obtain⟨_,_,vs,_,o,es,ep,h1,h2,_⟩:=I.hok _ _ ea;exact W.kia_one W.kitx_dict I.kIn ⟨o,h1,h2.1⟩ e (fun z=>nomatch z) fin
 |dT ea=>
  cases r1;obtain⟨_,_,zs,_,o,es,ep,h1,h2,_⟩:=I.hok _ _ ea;exact W.kia_one W.kitx_dict I.kIn ⟨o,h1,h2.1⟩ e (fun z=>nomatch z) fin
theorem a4H(kind:ai.kind= .function:=by rfl)(plain:∀y∈ai.names,y.2= .local\/ y.2= .globalImplicit:=by decide)(names:∀y∈ai.names,y.2= .local->ai.names.lookup y.1=some .local:=by decide+kernel):nZ X ai [] [] where
 kind:=kind
 nocell:=fun y hy z=>by rcases plain y hy with h|h<;>rw[h]at z<;>cases z
 names:=names
 clos:=closureFor_none fun y hy z=>by rcases plain y hy with h|h<;>rw[h]at z<;>cases z
 sub:=fun x c e=>by cases e
 has:=fun x h=>by
  have hm:∀(k:NameKind),(relabel ai X.env).names.lookup x=some k->k= .local\/ k= .globalImplicit:=fun k e=>by
   have m:=PySem.mem_of_lookup e;unfold relabel at m;obtain⟨⟨n,k'⟩,hy,e'⟩:=List.mem_map.mp m;have q:=plain _ hy
   have nf:(k'==NameKind.free)=false:=by rcases q with h|h<;>(have h':k'=_:=h;subst h';rfl)
   simp only[nf,Bool.false_and,Bool.false_eq_true,if_false]at e';have:k'=k:=congrArg (·.2) e';rw[<- this];exact q
  rcases h with h|h
  ·rcases hm _ h with z|z<;>cases z
  ·rcases hm _ h with z|z<;>cases z
 at':=fun p hp=>by cases hp
structure dX(K:Fg)(mg:Str->Option Value)(x:Str)(st:Stmt):Prop where
 ex:∃f fd,lM K x x st f fd/\mg x=some (.ref f)
section
theorem eM{st:Stmt}{osl:Array (Option Value)}{kV:Value}(X:K.In h)(G:h.Ns mainGlobals mg)(a:W.nsIn K mainGlobals x=some (some (.ref f)))
 (l:K.lookup f=some ⟨oc,od,.func (W.fnOf x x (jP st) (eZ st) (aL st) .none kV doc pm an ah ct),osl⟩)(c:W.codeIn K ah x=true)(k:W.keepIn K (.ref f)=true):dX K mg x st:=
 ⟨f,_,wW l c k,W.mg_of X G a⟩
theorem dX.known{st:Stmt}{k:Nat}(D:dX K mg x st)(S:aY N ps (aL st))
 (hb:∀(kV doc pm:Value) (an:Option Addr) (ah ct:Value) (us:List Value),us.length=ps.length->bindArgs (W.fnOf x x (jP st) (eZ st) (aL st) .none kV doc pm an ah ct) ⟨us,[]⟩=pure (ps.zip us))
 (len:∀vs H Q E,sp vs H Q E->vs.length=ps.length)
 (hbody:∀(f:Addr) (ah:Value) (A:Around) (ag:List Env) (s:Shared) (H:Hp) (vs:List V) (Q:VK) (E:XK),bV k (A.deeper (envOfC x (aL st) s.heap.objs.size f ah))->sp vs H Q E->
  ∃t,eV (dF aD P w K mg af N x (aL st) f ah A ag s H E).nox (eZ st) t/\t {nx:=fun _ H'=>Q .non H',rt:=Q} (iA N vs) H):bD P w K mg af aD (k+ 1) x ps sp:=by
 obtain⟨f,fd,F,hm⟩:=D.ex;exact⟨f,fd,F.ok S len fun ah A ag s H vs Q E hr h=>hbody f ah A ag s H vs Q E hr h,hm,F.kp,F.binds hb⟩
end
theorem aF.new(h:H D=none):aF H (upd H D o):=fun b u e=>by rw[aH (aX e h)];exact e
theorem aF.on(e:aF H H2)(h:H D=none):aF H (upd H2 D o):=fun b u z=>by rw[aH (aX z h)];exact e b u z
abbrev one(c:Nat):Str:=⟨#[c]⟩
theorem a9a{α:Type}(xs:List α)(i:Int)(h0:0<=i)(h:i<xs.length):∃v,cL xs i=some v/\xs[i.toNat]?=some v:=by
 have e:i=(i.toNat:Int):=by omega
 have hl:i.toNat<xs.length:=by omega
 generalize i.toNat=j at e hl;subst e;exact⟨_,uI (List.getElem?_eq_getElem hl),List.getElem?_eq_getElem hl⟩
theorem a0V{i:Int}(h0:0<=i)(h:i<n):iQ n i=some i.toNat:=by
 unfold iQ;rw[if_pos h0,if_pos h]
theorem a56(ns:List Int)(i:Int)(h0:0<=i)(h:i<ns.length):cL (ns.map V.int) i=some (V.int (ns.getD i.toNat 0)):=by
 have e:i=(i.toNat:Int):=by omega
 have hl:i.toNat<ns.length:=by omega
 generalize i.toNat=j at e hl;subst e;refine uI ?_;rw[List.getElem?_map,List.getElem?_eq_getElem hl];simp[List.getD,hl]
theorem wP{K:Fg}{H:Hp}:∀zs:List Str,dI K H (zs.map V.str) (zs.map PyData.str)
 | []=> .nil
 |z::r=> .cons (.str z) (wP r)
theorem a91{cs:List Nat}(h:∀c∈cs,c<128):PyData.canLay0 (.str ⟨cs.toArray⟩)=true:=by
 have:∀c∈cs,c<1114112:=fun c hc=>by have:=h c hc;omega
 simp[PyData.canLay0,PyData.strOk];exact this
theorem sl(h:n<=1000:=by simp):n<=sizeLine:=Nat.le_of_lt (eD h)
theorem a4I:bootBuiltins "all"=some (.builtin "all"):=by kernel_rfl
theorem iM:bootBuiltins "isinstance"=some (.builtin "isinstance"):=by kernel_rfl
theorem a7F:bootBuiltins "abs"=some (.builtin "abs"):=by kernel_rfl
theorem iR:bootBuiltins "len"=some (.builtin "len"):=by kernel_rfl
theorem a5d:bootBuiltins "int"=some (.type "int"):=by kernel_rfl
theorem a25:bootBuiltins "bool"=some (.type "bool"):=by kernel_rfl
theorem a13:bootBuiltins "str"=some (.type "str"):=by kernel_rfl
theorem lD:bootBuiltins "list"=some (.type "list"):=by kernel_rfl
theorem sC:bootBuiltins "tuple"=some (.type "tuple"):=by kernel_rfl
structure Flew(fs own:List Addr)(h h':Heap):Prop where
 keep:∀b o,b∉own->b∉fs->h.get? b=some o->h'.get? b=some o
 slot:∀b o,b∉own->h.get? b=some o->∃sl,h'.get? b=some {o with slots:=sl}
structure ExcK(K:Fg)(C:Addr):Prop where
 hga:W.findIn K (.ref C) "__getattribute__"=some (some (.builtin "BaseException.__getattribute__"))
 hk:W.findIn K (.ref C) "__getattr__"=some none
 hc:∃cd,W.clsIn K C=some cd
 ha:W.findIn K (.ref C) "__class__"=some (some (.builtin "object.__class__"))
 hn:W.specialIn K (.builtin "object.__class__") "__get__"=some (some (.builtin "getset_descriptor.__get__"))
 ht:W.takesIn K (.builtin "object.__class__")=some true
 hm:W.mroIn K C (.type "object")=some true
 hb:W.mroIn K C (.type "BaseException")=some true
theorem a3U:∀{xs:List V} {us:List Value},us.length=xs.length->(∀(j:Nat) (x:V) (u:Value),xs[j]?=some x->us[j]?=some u->aZ x u)->aW xs us
 | [],[],_,_=> .nil
 |x::xs,u::us,hl,h=> .cons (h 0 x u rfl rfl) (a3U (by simpa using hl) fun j y v e1 e2=>h (j+ 1) y v (by simpa using e1) (by simpa using e2))
 | [],_::_,hl,_=>by simp at hl
 |_::_,[],hl,_=>by simp at hl
def eY(lo:Int)(n:Nat):List V:=(List.range n).map fun(i:Nat)=>V.int (lo+ (i:Int))
theorem pV(lo:Int)(n:Nat):(eY lo n).length=n:=by unfold eY;rw[List.length_map,List.length_range]
section
theorem a55:jM X (.type "range") (fun xs H Q=>∃j:Int,xs= [.int j] /\∀p,H p=none->Q (.ref p) (upd H p (.rng 0 j))):=by
 intro ae s σ H xs us Q I r h;obtain⟨j,rfl,q⟩:=h;obtain⟨u,rfl,t,rfl⟩:=pR r;refine call_range_1 ⟨.ref s.heap.objs.size,_,I.laid (a:=s.heap.objs.size) (o:=.rng 0 j) (fun _ _ q=>Heap.get?_push_of_some _ q) (Nat.le_refl _) ?_,rfl,q _ (I.hok.fresh (Nat.le_refl _))⟩;exact⟨_,_,_,Heap.get?_push_size _ rfl⟩
theorem a77(hc:X.calm=true):jM X (.type "list") (fun xs H Q=>∃p lo hi,xs= [.ref p] /\H p=some (.rng lo hi)/\ -(2^ 62)<=lo/\lo<2^ 62/\ -(2^ 62)<=hi/\hi<2^ 62/\(hi- lo).toNat<=2^ 24/\∀l,H l=none->Q (.ref l) (upd H l (.lst (eY lo (hi- lo).toNat)))):=by
 intro ae s σ H xs us Q I r h;obtain⟨p,lo,hi,rfl,hp,h1,h2,h3,h4,h5,q⟩:=h;obtain⟨u,rfl,rx⟩:=pR r;cases rx;obtain⟨t,u,v,e⟩:=I.hok p _ hp
 have hn:Builtin.Range.rangeSize lo hi 1=((hi- lo).toNat:Int):=by rw[rangeSize_one];split<;>omega
 refine call_list_range (I.ok.hd hc) (show IsRange s.heap p lo hi 1 t u v from e) (small_one h1 h2 h3 h4) hn h5 fun h' tk acc c kp hD hI=> ?_
 refine⟨.ref s.heap.objs.size,_,I.laid (t':=tk) (o:=.lst (eY lo (hi- lo).toNat)) kp (Nat.le_refl _) ?_,rfl,q _ (I.hok.fresh (Nat.le_refl _))⟩;refine⟨by rw[pV,sizeLine_eq];exact h5,acc.toList,c,a3U (by rw[pV,Array.length_toList];exact hI.1) fun j x u e1 e2=> ?_,by rw[Array.toArray_toList];exact hD⟩;rw[Array.getElem?_toList]at e2;obtain⟨t',rfl⟩:=hI.2 j u e2;unfold eY at e1;rw[List.getElem?_map]at e1
 cases z:(List.range (hi- lo).toNat)[j]? with
 |none=>rw[z]at e1;cases e1
 |some i=>
  rw[z]at e1
  have:i=j:=by
   have hl:j<(List.range (hi- lo).toNat).length:=(List.getElem?_eq_some_iff.mp z).1;rw[List.getElem?_eq_getElem hl,List.getElem_range]at z;exact(Option.some.inj z).symm
  subst this;cases e1;exact⟨t',by rw[Int.mul_one]⟩
theorem a75{k:aB}(h:(fH P w).is k u=true):aZ (kV k) u:=by
 rcases lK h with⟨i,t,rfl,rfl⟩|⟨x,t,rfl,rfl⟩
 ·exact⟨t,rfl⟩
 ·exact⟨t,rfl⟩
theorem KV.fst{κ:Type}:∀{kvs:List (κ×V)} {vs:List (κ×Value)},KV kvs vs->kvs.map (·.1)=vs.map (·.1)
 |_,_,.nil=>rfl
 |_,_,.cons r t=>by rw[List.map_cons,List.map_cons,r.1,KV.fst t]
end
def bO(s:Stmt)(j:Nat):Stmt:=match s with
 | .ClassDef _ _ _ body _ _ _ _ _ _ _=>body.getD j (.Pass ⟨0,0,0,0⟩)
 |_=> .Pass ⟨0,0,0,0⟩
theorem a8S:bootBuiltins "range"=some (.type "range"):=by kernel_rfl
structure aS(P:Program)(w:World)(K:Fg)(mg:Str->Option Value)(af:Heap)(CX:fG)(k:Nat)(C:Addr)(m:Str)(ps:List Str)(sp:Sp):Prop where
 ex:∃f fd,fT P w K mg af CX k f fd ps sp/\rS K C m f/\iW K fd ps []
structure eO(P:Program)(w:World)(K:Fg)(mg:Str->Option Value)(af:Heap)(CX:fG)(k:Nat)(C:Addr)(ps:List Str)(sp:Sp):Prop where
 ex:∃f fd,fT P w K mg af CX k f fd ps sp/\Mk K C f/\iW K fd ps []
structure bJ(K:Fg)(C:Addr)(m qual:Str)(st:Stmt):Prop where
 ex:∃f fd,lM K m qual st f fd/\W.findIn K (.ref C) m=some (some (.ref f))/\W.isFn K (.ref f)=true
section
theorem bM{st:Stmt}{osl:Array (Option Value)}{kV:Value}(a:W.findIn K (.ref C) m=some (some (.ref f)))(i:W.isFn K (.ref f)=true)
 (l:K.lookup f=some ⟨oc,od,.func (W.fnOf m qual (jP st) (eZ st) (aL st) .none kV doc pm an ah ct),osl⟩)(c:W.codeIn K ah qual=true)(k:W.keepIn K (.ref f)=true):bJ K C m qual st:=
 ⟨f,_,wW l c k,a,i⟩
theorem bJ.known{st:Stmt}{k:Nat}(D:bJ K C m qual st)(S:aY N ps (aL st))
 (hb:∀(kV doc pm:Value) (an:Option Addr) (ah ct:Value) (us:List Value),us.length=ps.length->bindArgs (W.fnOf m qual (jP st) (eZ st) (aL st) .none kV doc pm an ah ct) ⟨us,[]⟩=pure (ps.zip us))
 (len:∀vs H Q E,sp vs H Q E->vs.length=ps.length)
 (hbody:∀(f:Addr) (ah:Value) (A:Around) (ag:List Env) (s:Shared) (H:Hp) (vs:List V) (Q:VK) (E:XK),bV k (A.deeper (envOfC qual (aL st) s.heap.objs.size f ah))->sp vs H Q E->
  ∃t,eV (dF aD P w K mg af N qual (aL st) f ah A ag s H E).nox (eZ st) t/\t {nx:=fun _ H'=>Q .non H',rt:=Q} (iA N vs) H):aS P w K mg af aD (k+ 1) C m ps sp:=by
 obtain⟨f,fd,F,ha,hi⟩:=D.ex;exact⟨f,fd,F.ok S len fun ah A ag s H vs Q E hr h=>hbody f ah A ag s H vs Q E hr h,⟨ha,hi,F.kp⟩,F.binds hb⟩
theorem aS.init{k:Nat}(G:aS P w K mg af CX k C "__init__" ps sp)(mk:W.makesIn K C=true)(kc:W.keepIn K (.ref C)=true):eO P w K mg af CX k C ps sp:=by
 obtain⟨f,fd,F,hm,hb⟩:=G.ex;exact⟨f,fd,F,⟨mk,hm.at_,hm.fn,kc⟩,hb⟩
end
section
variable{k:Nat}{E:XK}{p:Pos}{o:Expr}{t:TA}
theorem cF{pl:Sem Bool}(he:PE X o ta)(c:cG X.K C)(G:aS X.prog X.w X.K X.mg X.base CX k C m ps sp)(hr:bV k X.A)(hx:iH CX X E)(ha:PA X (e::es) t)
 (hst:starEach (e::es) X.env=(false,eval e X.env)::starEach es X.env:=by rfl)(hpl:(backTo pos (starEach es X.env)).any (·.1)=false:=by rfl)
 (ht:eval (.Call (.Attribute o m apos) (e::es) [] pos) X.env=(do
  let ov<- eval o X.env
  standAt apos.atName
  let (f,first)<- holding [ov] (getMethod ov m pl)
  callWith pos f first (backTo pos (starEach (e::es) X.env)) (backToKw pos (keywordEach [] X.env))):=by rfl):
 PE X (.Call (.Attribute o m apos) (e::es) [] pos) (xV C m sp [] E ta t):=by
 obtain⟨f,fd,F,hm,hb⟩:=G.ex;exact a6i (pl:=pl) he c hm F hr hb .nil hx ha hst hpl ht
theorem mU{pl:Sem Bool}(he:PE X o ta)(c:cG X.K C)(G:aS X.prog X.w X.K X.mg X.base CX k C m ps sp)(hr:bV k X.A)(hx:iH CX X E)
 (ht:eval (.Call (.Attribute o m apos) [] [] pos) X.env=(do
  let ov<- eval o X.env
  standAt apos.atName
  let (f,first)<- holding [ov] (getMethod ov m pl)
  callWith pos f first (backTo pos (starEach [] X.env)) (backToKw pos (keywordEach [] X.env))):=by rfl):
 PE X (.Call (.Attribute o m apos) [] [] pos) (xV C m sp [] E ta jU):=by
 obtain⟨f,fd,F,hm,hb⟩:=G.ex;exact a8M (pl:=pl) he c hm F hr hb .nil hx ht
theorem jE(G:eO X.prog X.w X.K X.mg X.base CX k C ps sp)(hr:bV (k+ 1) X.A)(hm:X.mg x=some (.ref C))(hx:iH CX X E)
 (ha:PA X (e::es) t)(hg:Gl X x:=by rfl)(hdb:(x==("__debug__":Str))=false:=by decide)(he:starEach (e::es) X.env=(false,eval e X.env)::starEach es X.env:=by rfl)(hpl:(backTo pos (starEach es X.env)).any (·.1)=false:=by rfl):
 PE X (.Call (.Name x p) (e::es) [] pos) (wG C sp [] E t):=by
 obtain⟨f,fd,F,M,hb⟩:=G.ex;exact a5W M F hr hg hm hb .nil hx ha hdb he hpl
end
noncomputable def fW (cells:List (Str×Addr)):List (Str×NameKind)->List (Str×Addr)->List (Str×Addr)
 | [],acc=>acc
 |(n,k)::r,acc=>fW cells r (if k== .free then(n,(cells.lookup n).getD 0)::acc else acc)
theorem a0g{env:Env}:∀{names:List (Str×NameKind)} {acc:List (Str×Addr)},(∀y∈names,y.2= .free->∃c,env.cells.lookup y.1=some c)->
 (forIn names acc fun(x:Str×NameKind) (cs:List (Str×Addr))=>(do
  let (name,kind):=x
  if kind==NameKind.free then(do let a<- cellOf env name;pure (ForInStep.yield ((name,a)::cs))) else pure (ForInStep.yield cs):Sem (ForInStep (List (Str×Addr)))))=pure (fW env.cells names acc)
 | [],acc,_=>rfl
 |(n,k)::r,acc,h=>by
  rw[List.forIn_cons];by_cases hk:(k==NameKind.free)=true
  ·obtain⟨c,hc⟩:=h (n,k) List.mem_cons_self (by simpa using hk)
   have e:cellOf env n=pure c:=by unfold cellOf;rw[show env.cells.lookup n=some c from hc]
   have ih:=a0g (env:=env) (names:=r) (acc:=(n,c)::acc) fun y hy=>h y (List.mem_cons_of_mem _ hy)
   show(do let r<- (if k==NameKind.free then(do let a<- cellOf env n;pure (ForInStep.yield ((n,a)::acc))) else pure (ForInStep.yield acc):Sem (ForInStep (List (Str×Addr))));_)=_;rw[if_pos hk,e,pure_bind,pure_bind];refine Eq.trans ih ?_;show _=pure (fW env.cells r (if(k==NameKind.free)=true then(n,(env.cells.lookup n).getD 0)::acc else acc));rw[if_pos hk,show env.cells.lookup n=some c from hc];rfl
  ·have ih:=a0g (env:=env) (names:=r) (acc:=acc) fun y hy=>h y (List.mem_cons_of_mem _ hy)
   show(do let r<- (if k==NameKind.free then(do let a<- cellOf env n;pure (ForInStep.yield ((n,a)::acc))) else pure (ForInStep.yield acc):Sem (ForInStep (List (Str×Addr))));_)=_;rw[if_neg hk,pure_bind];refine Eq.trans ih ?_;show _=pure (fW env.cells r (if(k==NameKind.free)=true then(n,(env.cells.lookup n).getD 0)::acc else acc));rw[if_neg hk]
theorem a0v{cells:List (Str×Addr)}:∀{names:List (Str×NameKind)} {acc:List (Str×Addr)},(∀y∈names,y.2= .free->∃c,cells.lookup y.1=some c)->(∀x c,acc.lookup x=some c->cells.lookup x=some c)->
 ∀x c,(fW cells names acc).lookup x=some c->cells.lookup x=some c
 | [],_,_,h=>h
 |(n,k)::r,acc,hf,h=>by
  refine a0v (names:=r) (fun y hy=>hf y (List.mem_cons_of_mem _ hy)) ?_;intro x c e;by_cases hk:(k==NameKind.free)=true
  ·obtain⟨c',hc⟩:=hf (n,k) List.mem_cons_self (by simpa using hk)
   have hc':cells.lookup n=some c':=hc;rw[if_pos hk,hc',List.lookup_cons]at e;by_cases hx:(x==n)=true
   ·rw[hx]at e
    cases e
    have:x=n:=by simpa using hx
    rw[this];exact hc'
   ·rw[show (x==n)=false by simpa using hx]at e
    exact h x c e
  ·rw[if_neg hk]at e
   exact h x c e
theorem a3S{cells:List (Str×Addr)}:∀{names:List (Str×NameKind)} {acc:List (Str×Addr)} {x:Str},(∃c,acc.lookup x=some c)->∃c,(fW cells names acc).lookup x=some c
 | [],_,_,h=>h
 |(n,k)::r,acc,x,⟨c,h⟩=>by
  refine a3S (names:=r) ?_;by_cases hk:(k==NameKind.free)=true
  ·rw[if_pos hk,List.lookup_cons]
   cases hx:x==n with
   |true=>exact⟨_,rfl⟩
   |false=>exact⟨c,h⟩
  ·rw[if_neg hk]
   exact⟨c,h⟩
theorem tQ{cells:List (Str×Addr)}:∀{names:List (Str×NameKind)} {acc:List (Str×Addr)} {x:Str},(x,NameKind.free)∈names->∃c,(fW cells names acc).lookup x=some c
 |(n,k)::r,acc,x,h=>by
  rcases List.mem_cons.mp h with e|h
  ·cases e
   refine a3S (names:=r) ⟨(cells.lookup n).getD 0,?_⟩;rw[if_pos (by rfl),List.lookup_cons,beq_self_eq_true]
  ·exact tQ (names:=r) h
theorem a1Q{env:Env}:∀{names:List (Str×NameKind)} {x:Str},names.lookup x=some .free->
 (names.map fun(n,k)=>if(k==NameKind.free&&env.scope.kind== .function&&env.kindOf n==some .cell) then(n,NameKind.cell) else(n,k)).lookup x=some .cell\/
 (names.map fun(n,k)=>if(k==NameKind.free&&env.scope.kind== .function&&env.kindOf n==some .cell) then(n,NameKind.cell) else(n,k)).lookup x=some .free
 | [],_,h=>by simp at h
 |(n,k)::r,x,h=>by
  have ih:= @a1Q env r x;rw[List.lookup_cons]at h;rw[List.map_cons]
  cases hx:x==n with
  |true=>
   rw[hx]at h;cases h;by_cases hc:(NameKind.free==NameKind.free&&env.scope.kind== .function&&env.kindOf n==some .cell)=true
   ·simp only[hc,if_true,List.lookup_cons,hx]
    exact .inl trivial
   ·simp only[hc,if_false,List.lookup_cons,hx,Bool.false_eq_true]
    exact .inr trivial
  |false=>
   rw[hx]at h;by_cases hc:(k==NameKind.free&&env.scope.kind== .function&&env.kindOf n==some .cell)=true
   ·simp only[hc,if_true,List.lookup_cons,hx]
    exact ih h
   ·simp only[hc,if_false,List.lookup_cons,hx,Bool.false_eq_true]
    exact ih h
theorem mD{sc:Scope}(hcell:∀x,X.env.scope.names.lookup x=some .cell->∃c,X.env.cells.lookup x=some c)(hs:X.env.scope=sc:=by rfl)(hN:X.N=N:=by rfl)
 (kind:ai.kind= .function:=by rfl)(plain:∀y∈ai.names,y.2≠ .cell:=by decide)(names:∀y∈ai.names,y.2= .local->ai.names.lookup y.1=some .local:=by decide+kernel)
 (free:∀y∈ai.names,y.2= .free->sc.names.lookup y.1=some .cell:=by decide+kernel)(at':∀p∈cp,N[p.1]?=some p.2/\sc.names.lookup p.2=some .cell/\ai.names.lookup p.2=some .free:=by decide+kernel):
 nZ X ai (fW X.env.cells ai.names []) cp:=by
 subst hs hN;have hf:∀y∈ai.names,y.2= .free->∃c,X.env.cells.lookup y.1=some c:=fun y hy e=>hcell _ (free y hy e)
 refine⟨kind,plain,names,?_,a0v hf (fun x c e=>by cases e),fun x h=> ?_,fun p hp=> ?_⟩
 ·show closureFor ai X.env=_
  simp only[closureFor];have:=a0g (env:=X.env) (acc:=[]) hf;exact(congrArg (fun z=>z>>=fun r=>pure r) this).trans (pure_bind _ _)
 ·have hm:∀k,(relabel ai X.env).names.lookup x=some k->(k= .cell\/ k= .free)->(x,NameKind.free)∈ai.names:=fun k e hk=>by
   have m:=PySem.mem_of_lookup e;unfold relabel at m;obtain⟨⟨n,k'⟩,hy,e'⟩:=List.mem_map.mp m;have nc:=plain _ hy;by_cases hc:(k'==NameKind.free&&X.env.scope.kind== .function&&X.env.kindOf n==some .cell)=true
   ·simp only[hc,if_true]at e'
    have e1:n=x:=congrArg (·.1) e'
    have:k'= .free:=by simp only[Bool.and_eq_true,beq_iff_eq]at hc;exact hc.1.1
    subst e1 this;exact hy
   ·simp only[hc,if_false,Bool.false_eq_true]at e'
    have e1:n=x:=congrArg (·.1) e';have e2:k'=k:=congrArg (·.2) e';subst e1 e2
    rcases hk with z|z
    ·exact absurd z nc
    ·subst z;exact hy
  rcases h with h|h
  ·exact tQ (hm _ h (.inl rfl))
  ·exact tQ (hm _ h (.inr rfl))
 ·obtain⟨h1,h2,h3⟩:=at' p hp
  exact⟨h1,.inl h2,a1Q h3⟩
def mZ(X:Cx)(d:Addr):Prop:=(∀xs,X.H₀ d≠some (.tup xs))/\(∀o u,X.H₀ d≠some (.frz o u))/\∀ps,X.H₀ d≠some (.tbl ps)
section
variable{s:Shared}{d:Addr}
theorem aC.retag{u u':HO}(I:aC X ae σ H s)(e:H d=some u)(nf:mZ X d)(no:∀x,u≠ .own x)(nt:∀xs,u≠ .tup xs)(new:cU X.prog X.w (upd H d u') s.heap d u'):aC X ae σ (upd H d u') s:=by
 have hn:∀b,H b=none->upd H d u' b=none:=fun b n=>by rw[aH (aX e n).symm];exact n
 refine⟨I.ok,I.os,I.bare,⟨I.base.keep,I.base.slot,fun b o q n hx=>hn b (I.base.free b o q n hx),I.base.there,fun b xs q=> ?_,fun b o v q=> ?_,fun b ps q=> ?_⟩,I.loc,I.cell,hn _ I.free,fun x c q=>hn _ (I.freeC x c q),fun p hp=> ?_,fun b v q=> ?_,I.len⟩
 ·have:b≠d:=fun z=>nf.1 xs (z▸q)
  rw[aH this];exact I.base.tups b xs q
 ·have:b≠d:=fun z=>nf.2.1 o v (z▸q)
  rw[aH this];exact I.base.frzs b o v q
 ·have:b≠d:=fun z=>nf.2.2 ps (z▸q)
  rw[aH this];exact I.base.tbls b ps q
 ·obtain⟨a1,a2,a3,a4,a5⟩:=I.pin p hp
  exact⟨a1,hn _ a2,a3,a4,a5⟩
 ·by_cases hb:b=d
  ·subst hb
   rw[aI]at q;cases q;exact new
  ·rw[aH hb]at q
   refine(I.hok b v q).stay (fun _ _ _ r=>r) (fun c r=> ?_) fun c xs r=> ?_
   ·rw[aH (kZ r e (fun z=>no _ z.symm))]
    exact r
   ·rw[aH (kZ r e (fun z=>nt _ z.symm))]
    exact r
theorem aC.nof{u:HO}(I:aC X ae σ H s)(e:H d=some u)(h1:∀xs,u≠ .tup xs)(h2:∀o v,u≠ .frz o v)(h3:∀ps,u≠ .tbl ps):mZ X d:=by
 refine⟨fun xs q=> ?_,fun o v q=> ?_,fun ps q=> ?_⟩
 ·have:=(I.base.tups d xs q).symm.trans e
  exact h1 xs (Option.some.inj this).symm
 ·have:=(I.base.frzs d o v q).symm.trans e
  exact h2 o v (Option.some.inj this).symm
 ·obtain⟨m,q'⟩:=I.base.tbls d ps q
  have:=q'.symm.trans e;exact h3 _ (Option.some.inj this).symm
theorem aC.freeze{kvs:List (aB×V)}(I:aC X ae σ H s)(e:H d=some (.dK kvs)):mZ X d/\∃o,s.heap.get? d=some o/\aC X ae σ (upd H d (.frz o (.dK kvs))) s:=by
 have nf:mZ X d:=I.nof e (by intro _ z;cases z) (by intro _ _ z;cases z) (by intro _ z;cases z);have ok:cU X.prog X.w H s.heap d (.dK kvs):=I.hok d _ e;obtain⟨z,hs,vs,rel,o,es,ep,ho,r⟩:=id ok;exact⟨nf,o,ho,I.retag e nf (by intro _ z;cases z) (by intro _ z;cases z) ⟨ho,z,hs,vs,rel,o,es,ep,ho,r⟩⟩
theorem aC.thaw{o:Obj}{kvs:List (aB×V)}(I:aC X ae σ H s)(nf:mZ X d)(e:H d=some (.frz o (.dK kvs))):aC X ae σ (upd H d (.dK kvs)) s:=by
 obtain⟨_,q⟩:=(show cU X.prog X.w H s.heap d (.frz o (.dK kvs)) from I.hok d _ e);exact I.retag e nf (by intro _ z;cases z) (by intro _ z;cases z) q
end
noncomputable def uJ (a:Addr) (o:Obj) (kvs:List (aB×V)):It:=
 ⟨fun i H=>H a=some (.frz o (.dK kvs))/\i<kvs.length,fun i H x H'=>H'=H/\∃p,kvs[i]?=some p/\x=kV p.1,fun i H=>H a=some (.frz o (.dK kvs))/\kvs.length<=i⟩
theorem a3d{o:Obj}{kvs:List (aB×V)}{es:Array DictEntry}{ep:Nat}(ok:bX P w H h)(e:H a=some (.frz o (.dK kvs)))(ho:o.data= .dict es ep):
 (a==sysModules)=false/\∃vs,KV kvs vs/\h.DictAt (fH P w) a vs ep:=by
 obtain⟨e1,z,hs,vs,rel,o',es',ep',ho',r1,r2,r3⟩:=(show cU P w H h a (.frz o (.dK kvs)) from ok a _ e);rw[e1]at ho';cases ho';have:=r2.symm.trans ho;cases this;exact⟨hs,vs,rel,o,_,e1,r1,r2,r3⟩
theorem a8v(a it:Addr)(o:Obj)(kvs:List (aB×V)){es:Array DictEntry}{ep:Nat}(hod:o.data= .dict es ep):qI P w K tg (uJ a o kvs) [it] it (fun i h=>h.IsKeyIter it a i kvs.length ep) where
 mem:=by simp
 obj:=fun i h st b hb=>by
  have e:b=it:=by simpa using hb
  subst e;obtain⟨o,e,c,d⟩:=st;exact⟨o,e,fun v z=>by rw[d]at z;cases z⟩
 keep:=fun i h h' st k=>st.at fun o e=>k it (by simp) o e
 item:=by
  intro X hP hw hK hc i ae s σ H E I hf st hg;subst hP hw hK;obtain⟨ha,hi⟩:=hg;obtain⟨_,vs,rel,dat⟩:=a3d I.hok ha hod;have hl:kvs.length=vs.length:=Paired.length rel;obtain⟨⟨k,x⟩,hx⟩:∃p,vs[i]?=some p:=⟨vs[i]'(by omega),by simp⟩;obtain⟨f0,f1,f2,f3,f4,f5⟩:=hf it (by simp);rw[hl]at st;refine wpAny_pyNext_dict_item st dat hx fun u h' hu st' sb=> ?_
  have I1:aC X ae σ H {s with heap:=h'}:=I.turned (t':=s.toks) (fun b o hb e=>sb.extBut b o hb e) f0 f1 f3 f4 f5;obtain⟨o1,e1,c1,d1⟩:=id st';refine⟨u,rfl,xF (s:={s with heap:=h'}) e1 c1 d1 (by decide) ⟨kV k,H,I1,a75 hu,⟨rfl,?_⟩,by rw[hl];exact st',fun b hb=>(hf b hb).1⟩⟩;refine⟨kvs[i],by simp[hi],?_⟩
  have e5:(kvs.map (·.1))[i]?=some k:=by rw[KV.fst rel,List.getElem?_map,hx];rfl
  rw[List.getElem?_map,List.getElem?_eq_getElem hi]at e5;rw[<- Option.some.inj e5]
 done:=by
  intro X hP hw hK hc i ae s σ H E I hf st hg;subst hP hw hK;obtain⟨ha,hi⟩:=hg;obtain⟨_,vs,rel,dat⟩:=a3d I.hok ha hod;have hl:kvs.length=vs.length:=Paired.length rel;obtain⟨f0,f1,f2,f3,f4,f5⟩:=hf it (by simp);rw[hl]at st;exact wpAny_pyNext_dict_end (I.ok.hd hc) st dat (by simp;omega) fun h' eb=>⟨rfl,I.turned (t':=s.toks) (fun b o hb e=>eb b o hb e) f0 f1 f3 f4 f5⟩
 self:=fun _ _ _ _ _ st h=>wpAny_pyIter_keyiter st h
section
def a4f(X:Cx)(tl:TE):TI:=fun σ H R=>tl σ H fun x H1=>∃a kvs,x= .ref a/\H1 a=some (.dK kvs)/\(mZ X a->∀o,R (uJ a o kvs) (upd H1 a (.frz o (.dK kvs))))
theorem a6V{l:Expr}(hl:PE X l tl):PI X tg l (a4f X tl):=by
 intro ae s σ H R I h;refine aT (hl ae s σ H _ I h) ?_;rintro v s1 ⟨x,H1,I1,r1,q1⟩;refine ?_;obtain⟨a,kvs,e,ha,q⟩:=q1;subst e;cases r1;obtain⟨nf,o,ho,I2⟩:=I1.freeze ha;obtain⟨z,hs,vs,rel,o',es,ep,ho',r1,r2,r3⟩:=(show cU X.prog X.w H1 s1.heap a (.dK kvs) from I1.hok a _ ha);rw[ho]at ho';cases ho';have hl:kvs.length=vs.length:=Paired.length rel;have dat:s1.heap.DictAt (fH X.prog X.w) a vs ep:=⟨o,es,ho,r1,r2,r3⟩;refine wpAny_pyIter_dict hs dat ?_;refine⟨s1.heap.objs.size,[s1.heap.objs.size],_,_,_,rfl,I2.kept (t':=s1.toks) fun b o e=>Heap.get?_push_of_some _ e,a8v a _ o kvs r2,⟨_,Heap.get?_push_size _ rfl,rfl,by rw[hl];rfl⟩,fun b hb=> ?_,q nf o⟩
 have e:b=s1.heap.objs.size:=by simpa using hb
 subst e;exact I2.fpOk (Nat.le_refl _) (I2.hok.fresh (Nat.le_refl _))
noncomputable def a1K (X:Cx) (D:kB):kB where
 nx:=fun σ H=>∃a o kvs,mZ X a/\H a=some (.frz o (.dK kvs))/\D.nx σ (upd H a (.dK kvs))
 rt:=fun v H=>∃a o kvs,mZ X a/\H a=some (.frz o (.dK kvs))/\D.rt v (upd H a (.dK kvs))
 bk:=D.bk
 ct:=D.ct
def a9D(X:Cx)(tl:TE)(g:TG)(tb:TS):TS:=fun D σ H=>tFor (a4f X tl) g tb (a1K X D) σ H
theorem a4c{body:List Stmt}{tb:TS}(hp:PassesOwn (model X.prog X.w) X.A X.env X.xe)(hc:X.calm=true)(hl:PE X iter tl)(hg:PG X tg g)(hb:eV X body tb)
 (hs:∀x,foldedSetIterable iter X.env x=pure x:=by intro _;rfl):PS X (.For tg iter body [] pos) (a9D X tl g tb):=by
 intro ae s σ H D I h;refine aT (nM hp hc (a6V hl) hg hb hs ae s σ H (a1K X D) I h) fun f s' q=> ?_
 cases f with
 |next=>obtain⟨σ',H',I',a,o,kvs,nf,e,q⟩:=q;exact⟨σ',_,I'.thaw nf e,q⟩
 |cont=>exact q
 |brk=>exact q
 |ret v=>obtain⟨x,σ',H',I',r,a,o,kvs,nf,e,q⟩:=q;exact⟨x,σ',_,I'.thaw nf e,r,q⟩
end
theorem a4g{ob:Obj}{kvs:List (aB×V)}{tb:TS}{D:kB}(Pv:Nat->St->Hp->Prop)(h0:Pv 0 σ H)(hl:∀i σ H,i<=kvs.length->Pv i σ H->H a=some (.frz ob (.dK kvs)))
 (hs:∀i p σ H,kvs[i]?=some p->Pv i σ H->g (kV p.1) σ H fun σ2 H2=>tb {D with nx:=Pv (i+ 1),ct:=Pv (i+ 1),bk:=D.nx} σ2 H2)(hd:∀σ H,Pv kvs.length σ H->D.nx σ H):
 ∃W:Nat->Nat->St->Hp->Prop,(∃m,W 0 m σ H)/\∀i m σ H,W i m σ H->
  ((uJ a ob kvs).stop i H/\D.nx σ H)\/ ((uJ a ob kvs).go i H/\∃N:St->Hp->Prop,(∀σ' H',N σ' H'->∃m',m'<m/\W (i+ 1) m' σ' H')/\∀x H',(uJ a ob kvs).yld i H x H'->g x σ H' fun σ2 H2=>tb {D with nx:=N,ct:=N,bk:=D.nx} σ2 H2):=by
 refine⟨fun i m σ H=>m=kvs.length- i/\i<=kvs.length/\Pv i σ H,⟨kvs.length,by simp,Nat.zero_le _,h0⟩,?_⟩;rintro i m σ H ⟨rfl,hi,p⟩;have q:=hl i σ H hi p;by_cases hlt:i<kvs.length
 ·refine .inr ⟨⟨q,hlt⟩,Pv (i+ 1),fun σ' H' p'=>⟨kvs.length- (i+ 1),by omega,rfl,hlt,p'⟩,fun x H' y=> ?_⟩
  obtain⟨e,pr,hp,ex⟩:=y;subst e ex;exact hs i pr σ _ hp p
 ·have e:i=kvs.length:=by omega
  subst e;exact .inl ⟨⟨q,Nat.le_refl _⟩,hd σ H p⟩
section
variable{st:Expr}{ts:TO}{p2:Pos}
theorem cJ{st:Stmt}:PS X st (fun _ _ _=>False):=fun _ _ _ _ _ _ h=>h.elim
end
structure jQ(mg:Str->Option Value)(af:Heap)(c P:Addr):Prop where
 hd:W.CodeHd af c P
 bt:af.BuiltinsAt mg P
theorem a6B(h:H a=some o):upd H a o=H:=by
 funext b;unfold upd;split
 ·rename_i e;subst e;exact h.symm
 ·rfl
section
theorem a1e:∀{xs:List Value} {l c:Nat} {a:Addr},TriplesOk xs->TriplesOk (xs++ [rawInt l,rawInt c,.ref a])
 | [],_,_,_,_=>trivial
 | .int _ _:: .int _ _::_::cH,_,_,_,t=>a1e (xs:=cH) t
theorem a72{ps:Array Value}{l c:Nat}(t:TriplesOk ps.toList):TriplesOk (ps++ #[rawInt l,rawInt c,.ref a]).toList:=by
 rw[Array.toList_append];exact a1e t
end
structure a9l(q:Program)(K:Fg)(z:Addr×Addr):Prop where
 ex:∃x:Str,((recsOf q).find? (fun e=>e.name==x)).isSome=true/\W.tabIn K x=some z
theorem a2v{ps:Array Value}(hK:W.noTabs K=true)(X:K.In h)(e:h.get? a=some (W.tabObj ps)):K.lookup a=none:=by
 cases q:K.lookup a with
 |none=>rfl
 |some o=>
  have e2:=X a o q;rw[e]at e2;cases e2;have h2:=List.all_eq_true.mp hK (a,_) (W.mem_of_lookupK q);exact absurd (show false=true from h2) Bool.false_ne_true
structure ClsM(K:Fg)(C:Addr)(m:Str):Prop where
 ga:W.specialIn K (.ref C) "__getattribute__"=some (some (.builtin "type.__getattribute__"))
 ex:∃(mc:Value) (f:Addr),W.readsIn K C mc=true/\W.findCls K (.ref C) mc m=some (.val (.ref f))/\W.findIn K (.ref C) m=some (some (.ref f))
section
variable{k:Nat}{E:XK}{p:Pos}{o:Expr}{t:TA}
theorem a2K{pl:Sem Bool}(he:PE X o (tC (.ref C)))(c:ClsM X.K C m)(G:aS X.prog X.w X.K X.mg X.base CX k C m ps sp)(hr:bV k X.A)(hx:iH CX X E)(ha:PA X (e::es) t)
 (hst:starEach (e::es) X.env=(false,eval e X.env)::starEach es X.env:=by rfl)(hpl:(backTo pos (starEach es X.env)).any (·.1)=false:=by rfl)
 (ht:eval (.Call (.Attribute o m apos) (e::es) [] pos) X.env=(do
  let ov<- eval o X.env
  standAt apos.atName
  let (f,first)<- holding [ov] (getMethod ov m pl)
  callWith pos f first (backTo pos (starEach (e::es) X.env)) (backToKw pos (keywordEach [] X.env))):=by rfl):
 PE X (.Call (.Attribute o m apos) (e::es) [] pos) (uG sp [] E t):=by
 obtain⟨f,fd,F,hm,hb⟩:=G.ex;intro ae s σ H Q I h;refine W.methodCall_KW (pl:=pl) (aT (he ae s σ H (fun v H1=>v= .ref C/\H1=H) I ⟨rfl,rfl⟩) ?_) ht;rintro u s1 ⟨x,H1,I1,rx,q⟩;refine ?_;obtain⟨rfl,rfl⟩:=q;obtain rfl:u=Value.ref C:=rx;obtain⟨mc,f',h1,h2,h3⟩:=c.ex;have e1:=hm.at_;rw[h3]at e1;cases e1;refine W.method_cls I1.kIn c.ga (W.cls_value I1.kIn h1 h2 rfl ?_);refine W.callWith_K (first:=[]) (h₀:=X.base) I.ok.mod.kin hm.kp (aT (ha pos ae _ σ _ _ (I1.tok _) h) ?_) hst hpl;rintro us s2 ⟨vs,H2,I2,r,q2⟩;refine⟨I2.kIn,?_⟩;exact sI (us:=us) (vs:=vs) F hr hb .nil hx I2 r q2
end
structure oZ(K:Fg)(mg:Str->Option Value)(x:Str)(st:Stmt)(z:Addr×Addr):Prop where
 ex:∃f fd,lM K x x st f fd/\mg x=some (.ref f)/\fd.code= .ref z.1
 tab:W.tabIn K x=some z
section
theorem a8b{c p:Addr}{wo:Value}{wd:Option Addr}{fd:FuncData}{osl ws:Array (Option Value)}{vs:Array Value}(a:W.nsIn K mainGlobals x=some (some (.ref f)))
 (l:K.lookup f=some ⟨oc,od,.func fd,osl⟩)(hc:fd.code= .ref c)(w:K.lookup c=some ⟨wo,wd,.fields vs,ws⟩)(h:vs[11]?=some (.ref p)):W.tabIn K x=some (c,p):=by
 unfold W.tabIn;rw[a];dsimp only;rw[l];dsimp only;rw[hc];dsimp only;rw[w];dsimp only;rw[h]
theorem a9i{st:Stmt}{c p:Addr}{wo:Value}{wd:Option Addr}{osl ws:Array (Option Value)}{kV:Value}{vs:Array Value}(X:K.In h)(G:h.Ns mainGlobals mg)(a:W.nsIn K mainGlobals x=some (some (.ref f)))
 (l:K.lookup f=some ⟨oc,od,.func (W.fnOf x x (jP st) (eZ st) (aL st) .none kV doc pm an (.ref c) ct),osl⟩)(hc:W.codeIn K (.ref c) x=true)(k:W.keepIn K (.ref f)=true)
 (w:K.lookup c=some ⟨wo,wd,.fields vs,ws⟩)(t:vs[11]?=some (.ref p)):oZ K mg x st (c,p):=
 ⟨⟨f,_,wW l hc k,W.mg_of X G a,rfl⟩,a8b a l rfl w t⟩
end
section
theorem op_inD(hu:X.A.units+ 64<cLine):dG X (compareOp .In) (fun x y H Q=>∃d ds,Dt X.K H x d/\Dt X.K H y (.list ds)/\d.canLay0=true/\(PyData.list ds).canLay0=true/\d.depth<=62/\Q (.bl (ds.any fun z=>PyData.eqv z d)) H):=by
 intro ae s σ H x y v u Q I rx ry h;obtain⟨d,ds,hx,hy,lx,ly,hd,q⟩:=h;obtain⟨as,ra⟩:=Dt.reads I hx rx lx;obtain⟨bs,rb⟩:=Dt.reads I hy ry ly;exact SeqAt.in_list_reads rb ra ly lx (by have:=Nat.min_le_right (PyData.depthAll ds) d.depth;omega) ⟨.bl _,H,I,rfl,q⟩
theorem a6E(hu:X.A.units+ 64<cLine):dG X (compareOp .NotIn) (fun x y H Q=>∃d ds,Dt X.K H x d/\Dt X.K H y (.list ds)/\d.canLay0=true/\(PyData.list ds).canLay0=true/\d.depth<=62/\Q (.bl (!ds.any fun z=>PyData.eqv z d)) H):=by
 intro ae s σ H x y v u Q I rx ry h;obtain⟨d,ds,hx,hy,lx,ly,hd,q⟩:=h;obtain⟨as,ra⟩:=Dt.reads I hx rx lx;obtain⟨bs,rb⟩:=Dt.reads I hy ry ly;exact SeqAt.notIn_list_reads rb ra ly lx (by have:=Nat.min_le_right (PyData.depthAll ds) d.depth;omega) ⟨.bl _,H,I,rfl,q⟩
end
abbrev iO(p:Str×Str):PyData:=.tuple [.str p.1,.str p.2]
theorem a4l(p q:Str×Str):PyData.eqv (iO p) (iO q)=decide (p=q):=by
 obtain⟨a,b⟩:=p;obtain⟨c,d⟩:=q;show(a==c&&(b==d&&true))=decide ((a,b)=(c,d));rw[Bool.and_true];by_cases h1:a=c
 ·by_cases h2:b=d
  ·subst h1;subst h2
   simp
  ·rw[decide_eq_false (fun e=>h2 (Prod.mk.inj e).2),beq_eq_false_iff_ne.mpr h2,Bool.and_false]
 ·rw[decide_eq_false (fun e=>h1 (Prod.mk.inj e).1),beq_eq_false_iff_ne.mpr h1,Bool.false_and]
theorem a3P(p:Str×Str):∀ps:List (Str×Str),((ps.map iO).any fun z=>PyData.eqv z (iO p))=decide (p∈ps)
 | []=>rfl
 |q::ps=>by
  rw[List.map_cons,List.any_cons,a3P p ps,a4l];by_cases h:p=q
  ·subst h;simp
  ·rw[decide_eq_false (fun e=>h e.symm),Bool.false_or]
   simp[h]
noncomputable def fA (ps:List (Str×Str)):List (Str×Str):=ps.foldl (fun acc p=>if p∈acc then acc else acc++ [p]) []
theorem b0h(ps:List (Str×Str))(p:Str×Str):fA (ps++ [p])=if p∈fA ps then fA ps else fA ps++ [p]:=by
 unfold fA;rw[List.foldl_append];rfl
theorem a1a:∀ps:List (Str×Str),(fA ps).length<=ps.length:=by
 suffices h:∀(ps acc:List (Str×Str)),(ps.foldl (fun acc p=>if p∈acc then acc else acc++ [p]) acc).length<=acc.length+ ps.length by
  intro ps;have:=h ps [];simpa [fA] using this
 intro ps
 induction ps with
 |nil=>intro acc;simp
 |cons p ps ih=>
  intro acc;rw[List.foldl_cons];refine Nat.le_trans (ih _) ?_;split
  ·simp
  ·simp;omega
theorem xC:∀{ps:List (Str×Str)} {p:Str×Str},p∈fA ps->p∈ps:=by
 suffices h:∀(ps acc:List (Str×Str)) (p:Str×Str),p∈ps.foldl (fun acc p=>if p∈acc then acc else acc++ [p]) acc->p∈acc\/ p∈ps by
  intro ps p hp
  rcases h ps [] p hp with h|h
  ·cases h
  ·exact h
 intro ps
 induction ps with
 |nil=>intro acc p h;exact .inl h
 |cons q ps ih=>
  intro acc p h;rw[List.foldl_cons]at h
  rcases ih _ p h with h|h
  ·split at h
   ·exact .inl h
   ·rcases List.mem_append.mp h with h|h
    ·exact .inl h
    ·exact .inr (by rw[List.mem_singleton.mp h];exact List.mem_cons_self)
  ·exact .inr (List.mem_cons_of_mem _ h)
def Fz(o:Obj):HO:=.frz o (.ext fun _=>True)
theorem a0h{o:Obj}(e:h.get? a=some o):cU P w H h a (Fz o):=⟨e,trivial,⟨o,e⟩,fun _ _ _ _=>trivial⟩
theorem lJ{o:Obj}(x:bX P w H h)(e:H a=some (Fz o)):h.get? a=some o:=(x a _ e).1
def a4L(q:Str)(o:Obj):Prop:=∃vs t,o.data= .fields vs/\vs[1]?=some (.str q t)
def eL(P:Addr)(S:List Addr):HO:=.ext fun h=>∃ps:Array Value,h.get? P=some (W.tabObj ps)/\TriplesOk ps.toList/\∀pos cv,codeAmong pos ps.toList=some cv->∃c∈S,cv= .ref c
def gM(q:Str)(H:Hp)(P:Addr):Prop:=∃S,H P=some (eL P S)/\∀c∈S,∃o,H c=some (Fz o)/\a4L q o
def gN(q:Str)(params:Arguments)(body:Expr)(ai:Scope)(clos:List (Str×Addr))(H:Hp)(fa:Addr):Prop:=
 ∃pm c ctv o,H fa=some (Fz (W.kla_obj "<lambda>" q params body ai clos pm c ctv))/\H c=some (Fz o)/\a4L q o
theorem a4r{ps:Array Value}{S:List Addr}(e:h.get? a=some (W.tabObj ps))(t:TriplesOk ps.toList)(c:∀pos cv,codeAmong pos ps.toList=some cv->∃c∈S,cv= .ref c):cU P w H h a (eL a S):=
 ⟨⟨ps,e,t,c⟩,⟨_,e⟩,fun h1 h2 ⟨qs,e1,t1⟩ k=>⟨qs,k _ e1,t1⟩⟩
theorem a18{pos:Pos}{l c:Nat}{a:Addr}{cv:Value}:∀{xs:List Value},TriplesOk xs->codeAmong pos (xs++ [rawInt l,rawInt c,.ref a])=some cv->codeAmong pos xs=some cv\/ cv= .ref a
 | [],_,h=>by
  right;simp only[List.nil_append,rawInt,codeAmong]at h;split at h
  ·exact(Option.some.inj h).symm
  ·cases h
 | .int x _:: .int y _::z::cH,t,h=>by
  simp only[List.cons_append,codeAmong]at h|-
  split at h
  ·rename_i e
   rw[if_pos e];exact .inl h
  ·rename_i e
   rw[if_neg e];exact a18 (xs:=cH) t h
theorem a1W{c:Addr}{o:Obj}(x:bX P w H h)(hn:H c=none)(e:h.get? c=some o):bX P w (upd H c (Fz o)) h:=fun b u q=>by
 by_cases hb:b=c
 ·subst hb;rw[aI]at q;cases q;exact a0h e
 ·rw[aH hb]at q
  exact(x b u q).stay (fun _ _ _ z=>z) (fun d z=>by rw[aH (aX z hn)];exact z) fun d xs z=>by rw[aH (aX z hn)];exact z
def pY(P:Addr)(H H':Hp):Prop:=∀b o,b≠P->H b=some o->H' b=some o
def a8F(P:Addr)(q:Str)(params:Arguments)(body:Expr)(ai:Scope)(clos:List (Str×Addr)):TE:=fun _ H Q=>gM q H P/\∀a H',H a=none->pY P H H'->gM q H' P->gN q params body ai clos H' a->Q (.ref a) H'
section
theorem rC{c P:Addr}(M:jQ X.mg X.base c P)(hc:X.env.code= .ref c)(hcl:closureFor ai X.env=pure clos)(hdef:defaultsOf params X.env=([],[])):
 PE X (.Lambda params body ai pos) (a8F P (X.env.qual++ "<lambda>") params body ai clos):=by
 intro ae s σ H Q I h;obtain⟨⟨S,hP,hS⟩,q⟩:=h;obtain⟨⟨ps,e,t,tc⟩,_,_⟩:=I.hok P _ hP;have hg:s.heap.Ns mainGlobals X.mg:=I.mod.glob.keeps I.bk;have C:=M.hd.keeps I.bk;have hb:s.heap.BuiltinsAt X.mg P:=let ⟨bm,o,b1,b2,b3,b4,b5,r⟩:=M.bt;⟨bm,o,b1,b2,b3,b4,I.bk _ _ b5,r⟩;have hgP:mainGlobals≠P:=fun z=>by
  obtain⟨o,es,ep,e1,hd,_⟩:=hg;rw[z,e]at e1;cases e1;cases hd
 refine W.kla_eval hdef ?_
 cases hf:codeAmong pos ps.toList with
 |none=>
  refine W.kla_makeFunction (mg:=X.mg) hcl I.ok.glob hg hc C e t hf hgP hb fun c' ctv h' tk hx hge hlt hrec htb=> ?_
  obtain⟨c1,oc,vs,tq,ec,goc,doc,dq⟩:=hrec
  obtain rfl:c'=c1:=by cases ec;rfl
  have nP:∀b,H b=none->b≠P:=fun b n z=>by rw[z,hP]at n;cases n
  have hPlt:P<s.heap.objs.size:=Heap.lt_size e;have goc':(h'.push (W.kla_obj "<lambda>" (X.env.qual++ "<lambda>") params body ai clos ((X.mg "__name__").getD .none) c' ctv)).get? c'=some oc:=Heap.get?_push_of_some _ goc;have cP:c'≠P:=Nat.ne_of_gt (Nat.lt_of_lt_of_le hPlt hge);have aP:h'.objs.size≠P:=Nat.ne_of_gt (Nat.lt_of_lt_of_le hPlt (Nat.le_of_lt (Nat.lt_of_le_of_lt hge hlt)));have ac:h'.objs.size≠c':=Nat.ne_of_gt hlt;have fr:∀b,s.heap.objs.size<=b->H b=none:=fun b z=>I.hok.fresh z
  have hk:∀b u,b≠P->s.heap.get? b=some u->(h'.push (W.kla_obj "<lambda>" (X.env.qual++ "<lambda>") params body ai clos ((X.mg "__name__").getD .none) c' ctv)).get? b=some u:=fun b u nb eb=>Heap.get?_push_of_some _ (hx b u nb eb)
  have hok1:bX X.prog X.w (upd H P (eL P (c'::S))) (h'.push (W.kla_obj "<lambda>" (X.env.qual++ "<lambda>") params body ai clos ((X.mg "__name__").getD .none) c' ctv)):=
   I.hok.write (x:=P) (e:=P) (by rw[hP];trivial) (.inl rfl) hk ⟨_,Heap.get?_push_of_some _ htb⟩ (a4r (Heap.get?_push_of_some _ htb) (a72 t) fun pos cv z=>by
    rw[Array.toList_append]at z
    rcases a18 t z with z|z
    ·obtain⟨d,hd,r⟩:=tc pos cv z
     exact⟨d,List.mem_cons_of_mem _ hd,r⟩
    ·exact⟨c',List.mem_cons_self,z⟩)
  have n1:upd H P (eL P (c'::S)) c'=none:=by rw[aH cP];exact fr _ hge
  have hok2:=a1W hok1 n1 goc'
  have n2:upd (upd H P (eL P (c'::S))) c' (Fz oc) h'.objs.size=none:=by rw[aH ac,aH aP];exact fr _ (Nat.le_of_lt (Nat.lt_of_le_of_lt hge hlt))
  have hok3:=a1W hok2 n2 (Heap.get?_push_size _ rfl);have sm:∀b,b≠P->H b≠none->upd (upd (upd H P (eL P (c'::S))) c' (Fz oc)) h'.objs.size (Fz (W.kla_obj "<lambda>" (X.env.qual++ "<lambda>") params body ai clos ((X.mg "__name__").getD .none) c' ctv)) b=H b:=fun b z1 z2=>by
   have y1:b≠h'.objs.size:=fun z=>z2 (by rw[z];exact fr _ (Nat.le_of_lt (Nat.lt_of_le_of_lt hge hlt)))
   have y2:b≠c':=fun z=>z2 (by rw[z];exact fr _ hge)
   rw[aH y1,aH y2,aH z1]
  have sv:∀b o,b≠P->H b=some o->upd (upd (upd H P (eL P (c'::S))) c' (Fz oc)) h'.objs.size (Fz (W.kla_obj "<lambda>" (X.env.qual++ "<lambda>") params body ai clos ((X.mg "__name__").getD .none) c' ctv)) b=some o:=fun b o z1 z2=>by
   rw[sm b z1 (by rw[z2];intro z;cases z)];exact z2
  have J:=I.step (h':=h'.push (W.kla_obj "<lambda>" (X.env.qual++ "<lambda>") params body ai clos ((X.mg "__name__").getD .none) c' ctv)) (g':=s.gens) (t':=tk) (d':=s.drawn) (ch:=[]) (fun _ z=>nomatch z)
   (fun b o _ _ _ eb n=>hk b o (nP b n) eb) (fun b o _ _ _ eb n=>⟨o.slots,hk b o (nP b n) eb⟩)
   (fun b o _ eb n=>by rw[aH (Nat.ne_of_lt (Nat.lt_of_lt_of_le (Heap.lt_size eb) (Nat.le_of_lt (Nat.lt_of_le_of_lt hge hlt)))),aH (Nat.ne_of_lt (Nat.lt_of_lt_of_le (Heap.lt_size eb) hge)),aH (nP b n)];exact n)
   (fun b o _ eb=>by
    by_cases z:b=P
    ·subst z;exact⟨_,Heap.get?_push_of_some _ htb⟩
    ·exact⟨o,hk b o z eb⟩)
   (fun b xs z=>sv b _ (fun y=>by rw[y,hP]at z;cases z) z) (fun b o u z=>sv b _ (fun y=>by rw[y,hP]at z;cases z) z) (fun b ps z=>⟨#[],by rw[sv b _ (fun y=>by rw[y,hP]at z;cases z) z];simp⟩)
   (fun m ⟨o,es,ep,ho,r⟩=>⟨o,es,ep,hk _ o (nP _ I.free) ho,r⟩) hok3 I.bare
  refine⟨.ref h'.objs.size,_,J,rfl,q _ _ (fr _ (Nat.le_of_lt (Nat.lt_of_le_of_lt hge hlt))) (fun b o z1 z2=>sv b o z1 z2) ⟨c'::S,?_,fun d hd=> ?_⟩ ⟨_,c',ctv,oc,aI,?_,vs,tq,doc,dq⟩⟩
  ·rw[aH (Ne.symm aP),aH (Ne.symm cP),aI]
  ·rcases List.mem_cons.mp hd with rfl|hd
   ·exact⟨oc,by rw[aH (Ne.symm ac),aI],vs,tq,doc,dq⟩
   ·obtain⟨o,e1,e2⟩:=hS d hd
    exact⟨o,sv d _ (fun y=>by rw[y,hP]at e1;cases e1) e1,e2⟩
  ·rw[aH (Ne.symm ac),aI]
 |some cv=>
  obtain⟨d,hd,rfl⟩:=tc _ _ hf;obtain⟨od,e1,e2⟩:=hS d hd;refine W.kla_makeFunctionHit (mg:=X.mg) hcl I.ok.glob hg hc C e t hf hb fun ctv h' tk hk hsz=> ?_
  have fr:H h'.objs.size=none:=I.hok.fresh hsz;have sv:∀b o,H b=some o->upd H h'.objs.size (Fz (W.kla_obj "<lambda>" (X.env.qual++ "<lambda>") params body ai clos ((X.mg "__name__").getD .none) d ctv)) b=some o:=fun b o z=>by
   rw[aH (aX z fr)];exact z
  refine⟨.ref h'.objs.size,_,I.laid (a:=h'.objs.size) (o:=Fz (W.kla_obj "<lambda>" (X.env.qual++ "<lambda>") params body ai clos ((X.mg "__name__").getD .none) d ctv)) (fun b o eb=>Heap.get?_push_of_some _ (hk b o eb)) hsz (a0h (Heap.get?_push_size _ rfl)),rfl,
   q _ _ fr (fun b o _ z=>sv b o z) ⟨S,sv _ _ hP,fun d' hd'=> ?_⟩ ⟨_,d,ctv,od,aI,sv _ _ e1,e2⟩⟩
  obtain⟨o,e3,e4⟩:=hS d' hd';exact⟨o,sv _ _ e3,e4⟩
end
abbrev eS:=Addr->Option Obj
noncomputable def dE (f:eS) (H:Hp):Hp:=fun b=>match f b with
 |some o=>some (Fz o)
 |none=>H b
noncomputable def dL (f:eS) (H:Hp):Hp:=fun b=>match f b with
 |some _=>none
 |none=>H b
theorem mL{f:eS}{o:Obj}(e:f b=some o):dE f H b=some (Fz o):=by unfold dE;rw[e]
theorem dM{f:eS}(e:f b=none):dE f H b=H b:=by unfold dE;rw[e]
theorem kJ{f:eS}{o:Obj}(e:f b=some o):dL f H b=none:=by unfold dL;rw[e]
theorem dO{f:eS}(e:f b=none):dL f H b=H b:=by unfold dL;rw[e]
theorem zB{f:eS}(h:∀b o,f b=some o->H b=none):dL f (dE f H)=H:=by
 funext b
 cases e:f b with
 |none=>rw[dO e,dM e]
 |some o=>rw[kJ e,h b o e]
section
variable{f:eS}{fs:List Addr}
theorem zL(x:bX P w H h)(hf:∀b o,f b=some o->H b=none/\h.get? b=some o):bX P w (dE f H) h:=fun b u q=>by
 have keep:∀c v,H c=some v->dE f H c=some v:=fun c v z=>by
  cases e:f c with
  |none=>rw[dM e];exact z
  |some o=>rw[(hf c o e).1]at z;cases z
 cases e:f b with
 |none=>
  rw[dM e]at q;exact(x b u q).stay (fun _ _ _ z=>z) (fun c z=>keep c _ z) fun c xs z=>keep c _ z
 |some o=>
  rw[mL e]at q;cases q;exact a0h (hf b o e).2
theorem a3X(x:bX P w H h)(hf:∀b o,f b=some o->H b=some (Fz o)):bX P w (dL f H) h:=fun b u q=>by
 cases e:f b with
 |some o=>rw[kJ e]at q;cases q
 |none=>
  rw[dO e]at q;refine(x b u q).stay (fun _ _ _ z=>z) (fun c z=> ?_) fun c xs z=> ?_
  ·cases e2:f c with
   |none=>rw[dO e2];exact z
   |some o=>rw[hf c o e2]at z;cases z
  ·cases e2:f c with
   |none=>rw[dO e2];exact z
   |some o=>rw[hf c o e2]at z;cases z
theorem a6M(hf:∀b o,f b=some o->H b=none/\h.get? b=some o)(u:Un fs [] (dE f H) H' h h')(hok:bX P w H' h'):Un fs [] H (dL f H') h h'/\bX P w (dL f H') h':=by
 have at':∀b o,f b=some o->H' b=some (Fz o):=fun b o e=>u.frzs b o _ (mL e)
 have nf:∀b v,H b=some v->f b=none:=fun b v z=>by
  cases e:f b with
  |none=>rfl
  |some o=>rw[(hf b o e).1]at z;cases z
 refine⟨⟨fun b o e n hb hx=> ?_,fun b o e n hb hx=> ?_,fun b o e n hx=> ?_,fun b o e hx=>u.there b o e hx,fun b xs z=> ?_,fun b o v z=> ?_,fun b ps z=> ?_⟩,a3X hok at'⟩
 ·cases e2:f b with
  |none=>exact u.keep b o e (by rw[dM e2];exact n) hb hx
  |some o2=>
   have:=(hf b o2 e2).2;rw[e]at this;cases this;exact lJ hok (at' b o e2)
 ·cases e2:f b with
  |none=>exact u.slot b o e (by rw[dM e2];exact n) hb hx
  |some o2=>
   have:=(hf b o2 e2).2;rw[e]at this;cases this;exact⟨o.slots,lJ hok (at' b o e2)⟩
 ·cases e2:f b with
  |none=>rw[dO e2];exact u.free b o e (by rw[dM e2];exact n) hx
  |some o2=>exact kJ e2
 ·rw[dO (nf b _ z)];exact u.tups b xs (by rw[dM (nf b _ z)];exact z)
 ·rw[dO (nf b _ z)];exact u.frzs b o v (by rw[dM (nf b _ z)];exact z)
 ·rw[dO (nf b _ z)];exact u.tbls b ps (by rw[dM (nf b _ z)];exact z)
theorem a5P(hf:∀b o,f b=some o->H b=some (Fz o))(hok0:bX P w H h)(hfs:∀b∈fs,H b=none)(u:Un fs [] (dL f H) H' h h')(hok:bX P w H' h'):Un fs [] H (dE f H') h h'/\bX P w (dE f H') h':=by
 have fr:∀b o,f b=some o->H' b=none/\h'.get? b=some o:=fun b o e=>by
  have g:=lJ hok0 (hf b o e);exact⟨u.free b o g (kJ e) (by simp),u.keep b o g (kJ e) (fun z=>by have:=hfs b z;rw[hf b o e]at this;cases this) (by simp)⟩
 have nf:∀b,H b=none->f b=none:=fun b z=>by
  cases e:f b with
  |none=>rfl
  |some o=>rw[hf b o e]at z;cases z
 have nz:∀b v,H b=some v->(∀o,v≠Fz o)->f b=none:=fun b v z ne=>by
  cases e:f b with
  |none=>rfl
  |some o=>rw[hf b o e]at z;exact absurd (Option.some.inj z).symm (ne o)
 refine⟨⟨fun b o e n hb hx=>u.keep b o e (by rw[dO (nf b n)];exact n) hb hx,fun b o e n hb hx=>u.slot b o e (by rw[dO (nf b n)];exact n) hb hx,fun b o e n hx=> ?_,fun b o e hx=>u.there b o e hx,fun b xs z=> ?_,fun b o v z=> ?_,fun b ps z=> ?_⟩,zL hok fr⟩
 ·rw[dM (nf b n)];exact u.free b o e (by rw[dO (nf b n)];exact n) hx
 ·have e:=nz b _ z (fun o q=>by cases q)
  rw[dM e];exact u.tups b xs (by rw[dO e];exact z)
 ·cases e:f b with
  |none=>rw[dM e];exact u.frzs b o v (by rw[dO e];exact z)
  |some o2=>rw[mL e,<- hf b o2 e];exact z
 ·have e:=nz b _ z (fun o q=>by cases q)
  rw[dM e];exact u.tbls b ps (by rw[dO e];exact z)
end
structure lL(X:Cx)(σ:St)(H:Hp)(f:eS):Prop where
 free:∀b o,f b=some o->H b=none
 cell:∀x c,X.env.cells.lookup x=some c->∃o v,f c=some o/\o.data= .cell v
 val:∀(i:Nat) x v,X.N[i]?=some x->σ[i]?=some (some v)->X.env.scope.names.lookup x=some .cell->∃c o u,X.env.cells.lookup x=some c/\f c=some o/\o.data= .cell (some u)/\aZ v u
 inj:∀x y c,X.env.cells.lookup x=some c->X.env.cells.lookup y=some c->x=y
theorem a8L{s:Shared}(I:aC X ae σ H s)(hfn:∀x,X.fn x=true):∃f:eS,lL X σ H f/\(∀b o,f b=some o->H b=none/\s.heap.get? b=some o/\X.base.get? b=none/\b∉gH X.stack):=by
 classical
 let f:eS:=fun b=>if(∃x,X.env.cells.lookup x=some b) then s.heap.get? b else none
 have fe:∀{b o},f b=some o->(∃x,X.env.cells.lookup x=some b)/\s.heap.get? b=some o:=fun{b o} e=>by
  by_cases z:∃x,X.env.cells.lookup x=some b
  ·exact⟨z,by rw[show f b=s.heap.get? b from if_pos z]at e;exact e⟩
  ·rw[show f b=none from if_neg z]at e;cases e
 have ff:∀{x c},X.env.cells.lookup x=some c->f c=s.heap.get? c:=fun{x c} e=>if_pos ⟨x,e⟩
 refine⟨f,⟨fun b o e=> ?_,fun x c e=> ?_,fun i x v e1 e2 e3=> ?_,I.ok.inj⟩,fun b o e=> ?_⟩
 ·obtain⟨⟨x,z⟩,_⟩:=fe e
  exact I.freeC x b z
 ·obtain⟨v,o,ho,hd⟩:=I.cell x c e
  exact⟨o,v,by rw[ff e];exact ho,hd⟩
 ·obtain⟨m,_,hl⟩:=I.loc
  obtain⟨u,r,l⟩:=hl i x v e1 e2 (.inr (.inl e3))
  rcases l with⟨k,_⟩|⟨_,c,ec,o,ho,hd⟩
  ·have k':X.env.scope.names.lookup x=some .local:=k
   rw[e3]at k';cases k'
  ·exact⟨c,o,u,ec,by rw[ff ec];exact ho,hd,r⟩
 ·obtain⟨⟨x,z⟩,g⟩:=fe e
  refine⟨I.freeC x b z,g,?_,fun hb=> ?_⟩
  ·exact Heap.get?_none_of_le (Nat.le_trans I.ok.bsz (I.ok.cab x b (hfn x) z))
  ·rcases List.mem_cons.mp (I.stkSub b hb)with e2|hb
   ·exact I.cne x b z e2
   ·obtain⟨_,ob,ho,_⟩:=I.ok.funs.mem hb
    exact absurd (Nat.lt_of_lt_of_le (Heap.lt_size ho) (I.ok.cab x b (hfn x) z)) (Nat.lt_irrefl _)
theorem a83{k:Nat}{fd:FuncData}{s:Shared}{Q:VK}(hfn:∀x,X.fn x=true)(F:fT X.prog X.w X.K X.mg X.base aD k fa fd ps sp)(hr:bV k X.A)(hb:iW X.K fd ps [])
 (I:aC X ae σ H s)(r:aW vs us)(h:∀f,lL X σ H f->sp vs (dE f H) (fun v H'=>Q v (dL f H')) E0):wpAny (model X.prog X.w) X.A (call (.ref fa) us) (EP X ae σ Q) X.xe s:=by
 obtain⟨f,L,hf⟩:=a8L I hfn;have q:=h f L
 have hl:(us++ []).length=ps.length:=by rw[List.append_nil,<- r.length];exact F.len _ _ _ _ q
 have e0:lG X.prog X.w X.K X.mg X.base X.A X.stack s (dE f H):=by
  have e:=I.env0;refine⟨e.frames,e.mod,fun b o z=>⟨(e.bs b o z).1,?_⟩,e.bsz,e.funs,fun b z=> ?_,zL e.hok fun b o z=>⟨(hf b o z).1,(hf b o z).2.1⟩,e.bare⟩
  ·cases q2:f b with
   |none=>rw[dM q2];exact(e.bs b o z).2
   |some ob=>rw[(hf b ob q2).2.2.1]at z;cases z
  ·cases q2:f b with
   |none=>rw[dM q2];exact e.frf b z
   |some ob=>exact absurd z (hf b ob q2).2.2.2
 have bd:=hb s us I.kIn hl;rw[List.append_nil]at bd;refine wpAny_call (codeAny_mono (F.run X.A X.stack s (dE f H) ⟨us,[]⟩ us vs _ E0 hr e0 bd r q) fun r s' hq=> ?_)
 cases r with
 |error e=>exact False.elim hq
 |ok fl=>
  cases fl with
  |ret u=>
   obtain⟨v,H',os,bare,un,hok,rv,qv⟩:=hq;obtain⟨u1,u2⟩:=a6M (fun b o z=>⟨(hf b o z).1,(hf b o z).2.1⟩) un hok;exact I.after ⟨v,_,os,bare,u1,u2,rv,qv⟩
  |next=>exact False.elim hq
  |brk=>exact False.elim hq
  |cont=>exact False.elim hq
structure eT(P:Program)(w:World)(K:Fg)(mg:Str->Option Value)(af:Heap)(k:Nat)(fa:Addr)(sp:Sp):Prop where
 fn:∀vs H Q E,sp vs H Q E->∃c d fd sl,H fa=some (Fz ⟨c,d,.func fd,sl⟩)
 run:∀(A:Around) (ag:List Env) (s:Shared) (H:Hp) (us:List Value) (vs:List V) (Q:VK) (E:XK),bV k A->lG P w K mg af A ag s H->aW vs us->sp vs H Q E->
  codeAny (model P w) A (.call (.ref fa) ⟨us,[]⟩) (CR aD ag P w H s Q E) s
theorem eT.mono{k:Nat}(F:eT P w K mg af j fa sp)(h:j<=k):eT P w K mg af k fa sp:=
 ⟨F.fn,fun A ag s H us vs Q E hr=>F.run A ag s H us vs Q E (hr.mono h)⟩
theorem eT.imp{k:Nat}{sp':Sp}(F:eT P w K mg af k fa sp)(h:∀vs H Q E,sp' vs H Q E->sp vs H Q E):eT P w K mg af k fa sp':=
 ⟨fun vs H Q E z=>F.fn vs H Q E (h _ _ _ _ z),fun A ag s H us vs Q E hr e0 r z=>F.run A ag s H us vs Q E hr e0 r (h _ _ _ _ z)⟩
def a6t(P:Program)(w:World)(K:Fg)(mg:Str->Option Value)(af:Heap)(k:Nat)(i:Nat)(t:TA):TE:=fun σ H Q=>∃fa sp,σ[i]?=some (some (.ref fa))/\eT P w K mg af k fa sp/\t σ H fun vs H1=>sp vs H1 Q E0
section
variable{k:Nat}{p:Pos}{t:TA}
theorem a4P(i:Nat)(hr:bV k X.A)(ha:PA X (e::es) t)(hN:X.N[i]?=some x:=by rfl)(hv:xQ X.env.scope x:=by first|exact Or.inl rfl|exact Or.inr (Or.inl rfl)|exact Or.inr (Or.inr rfl))(hd:(x==("__debug__":Str))=false:=by decide)
 (hcd:(x==("__classdict__":Str))=false:=by decide)(he:starEach (e::es) X.env=(false,eval e X.env)::starEach es X.env:=by rfl)(hpl:(backTo pos (starEach es X.env)).any (·.1)=false:=by rfl):
 PE X (.Call (.Name x p) (e::es) [] pos) (a6t X.prog X.w X.K X.mg X.base k i t):=by
 intro ae s σ H Q I h;obtain⟨fa,sp,e1,F,h⟩:=h;refine wpAny_Call_Name_kw (aT (a2q hN hv hd hcd ae s σ H (fun v H1=>v= .ref fa/\H1=H) I ⟨_,e1,rfl,rfl⟩) ?_);rintro u s1 ⟨v,H1,I1,rv,q⟩;refine ?_;obtain⟨rfl,rfl⟩:=q;obtain rfl:u=Value.ref fa:=rv;show wpAny _ _ (callWith pos (.ref fa) [] (backTo pos (starEach (e::es) X.env)) []) _ _ _;rw[he];refine W.callWith_of (P:=fun h=>∃c d fd sl,h.get? fa=some ⟨c,d,.func fd,sl⟩) (by show((false||(backTo pos (starEach es X.env)).any (·.1))||false)=false;rw[hpl];rfl)
  (fun h ⟨c,d,fd,sl,z⟩=>⟨.frame,.inl rfl,(W.Looks.ld (part:=none) z).andThen .now⟩) (Calls.evalArgs_plain ?_)
 have ha':=ha pos ae s1 σ H1 _ I1 h;rw[he]at ha';refine aT ha' ?_;rintro us s2 ⟨vs,H2,I2,r,q2⟩;refine ?_;obtain⟨c,d,fd,sl,z⟩:=F.fn _ _ _ _ q2;refine⟨⟨c,d,fd,sl,lJ I2.hok z⟩,?_⟩;refine wpAny_call (codeAny_mono (F.run X.A X.stack s2 H2 us vs Q E0 hr I2.env0 r q2) fun r s' hq=> ?_)
 cases r with
 |error e=>exact False.elim hq
 |ok fl=>
  cases fl with
  |ret u=>exact I2.after hq
  |next=>exact False.elim hq
  |brk=>exact False.elim hq
  |cont=>exact False.elim hq
end
theorem a2T{α:Type}{x:Str}{u:α}:∀{l:List (Str×α)},(l.map (·.1)).Nodup->(x,u)∈l->l.lookup x=some u
 |(y,v)::r,nd,h=>by
  rw[List.map_cons,List.nodup_cons]at nd;rw[List.lookup_cons]
  rcases List.mem_cons.mp h with e|h2
  ·cases e;rw[beq_self_eq_true]
  ·have:(x==y)=false:=by
    cases z:x==y with
    |false=>rfl
    |true=>
     have:x=y:=by simpa using z
     subst this;exact absurd (show x∈r.map (·.1) from List.mem_map.mpr ⟨(x,u),h2,rfl⟩) nd.1
   rw[this];exact a2T nd.2 h2
theorem a9E(nd:ps.Nodup)(hl:us.length=ps.length)(h1:ps[i]?=some x)(h2:us[i]?=some u):(ps.zip us).reverse.lookup x=some u:=by
 refine a2T ?_ ?_
 ·rw[List.map_reverse]
  refine List.pairwise_reverse.mpr ?_;rw[List.map_fst_zip (by omega)];exact nd.imp Ne.symm
 ·rw[List.mem_reverse]
  have:(ps.zip us)[i]?=some (x,u):=by rw[List.getElem?_zip_eq_some];exact⟨h1,h2⟩
  exact List.mem_of_getElem? this
noncomputable def sX (P:Program) (w:World) (K:Fg) (mg:Str->Option Value) (af:Heap) (N:List Str) (q:Str) (ai:Scope) (fa:Addr) (cd:Value) (clos:List (Str×Addr)) (A:Around) (ag:List Env) (s:Shared) (H:Hp):Cx where
 prog:=P
 w:=w
 K:=K
 mg:=mg
 base:=af
 A:=A.deeper (W.envX q ai s.heap.objs.size fa cd clos)
 N:=N
 s₀:=s
 H₀:=H
 env:=W.envX q ai s.heap.objs.size fa cd clos
 outer:=ag
 stack:=W.envX q ai s.heap.objs.size fa cd clos::ag
 ex:=[]
 calm:=true
 fn:=fun _=>false
 pn:=[]
 xe:=fun _ _=>False
inductive mY(fa:Addr)(f:eS)(q:Str)(params:Arguments)(body:Expr)(ai:Scope)(clos:List (Str×Addr))(n:Nat)(spB:List V->Hp->VK->Prop)(vs:List V)(H:Hp)(Q:VK)(E:XK):Prop
 |mk:vs.length=n->gN q params body ai clos H fa->(∀b o,f b=some o->H b=some (Fz o))->(spB vs (dL f H) fun v H'=>(∀b o,f b=some o->H' b=none)->Q v (dE f H'))->mY fa f q params body ai clos n spB vs H Q E
theorem a5m{H₁:Hp}{f:eS}{cv:List V}{k:Nat}{spB:List V->Hp->VK->Prop}(L:lL X σ H₁ f)
 (hcell:∀x,X.env.scope.names.lookup x=some .cell->∃c,X.env.cells.lookup x=some c)
 (hcv:cp.map (fun p=>σ[p.1]?)=cv.map fun v=>some (some v))
 (hcp:∀p∈cp,X.N[p.1]?=some p.2/\X.env.scope.names.lookup p.2=some .cell/\ai.names.lookup p.2=some .free)
 (free:∀y∈ai.names,y.2= .free->X.env.scope.names.lookup y.1=some .cell)
 (kind:ai.kind= .function)(co:ai.isCoroutine=false)(gen:ai.isGenerator=false)(nocell:∀y∈ai.names,y.2≠ .cell)(par:∀x∈ps,ai.names.lookup x=some .local)(nd:(ps++ cp.map (·.2)).Nodup)
 (hb:∀(pm ctv:Value) (c:Addr) (clos:List (Str×Addr)) (us:List Value),us.length=ps.length->bindArgs (W.kla_fn "<lambda>" q params body ai clos pm (.ref c) ctv) ⟨us,[]⟩=pure (ps.zip us))
 (hbody:∀(cd:Value) (A:Around) (ag:List Env) (s:Shared) (H:Hp) (vs:List V) (Q:VK),bV k (A.deeper (W.envX q ai s.heap.objs.size fa cd (fW X.env.cells ai.names [])))->spB vs H Q->
  ∃t,PE (sX X.prog X.w X.K X.mg X.base (ps++ cp.map (·.2)) q ai fa cd (fW X.env.cells ai.names []) A ag s H) body t/\t ((vs++ cv).map some) H Q):
 eT X.prog X.w X.K X.mg X.base (k+ 1) fa (mY fa f q params body ai (fW X.env.cells ai.names []) ps.length spB):=by
 have sub:=a0v (cells:=X.env.cells) (names:=ai.names) (acc:=[]) (fun y hy e=>hcell _ (free y hy e)) (fun x c e=>by cases e);refine⟨fun vs H Q E h=> ?_,fun A ag s H us vs Q E hr e0 r h=> ?_⟩
 ·obtain⟨_,⟨pm,c,ctv,o,e1,_⟩,_⟩:=h
  exact⟨_,_,_,_,e1⟩
 obtain⟨hl,⟨pm,c,ctv,o,e1,e2,ws,tq,e3,e4⟩,hf,hsp⟩:=h
 have hus:us.length=ps.length:=by rw[<- r.length];exact hl
 have hcd:s.heap.CodeRec (.ref c) q:=⟨c,o,ws,tq,rfl,lJ e0.hok e2,e3,e4⟩;have lim:s.heap.NoLimit:=e0.mod.nolimit.keeps fun b o e=>(e0.bs b o e).1
 refine W.kla_callFunE hr.depth (lJ e0.hok e1) rfl co gen rfl hcd ?_;rw[hb pm ctv c _ us hus];refine wpAny_pure (wpAny_newFunctionEnv nocell (fun y hy=>par y.1 (List.of_mem_zip hy).1) (fun h₁ hns hsb=>⟨lim.fresh _ hsb,?_⟩) kind);show codeAny _ _ (.expr body (W.envX q ai s.heap.objs.size fa (.ref c) (fW X.env.cells ai.names []))) _ _;have hk:∀b o,s.heap.get? b=some o->h₁.get? b=some o:=fun b o e=>hsb.extBut b o (Nat.ne_of_lt (Heap.lt_size e)) (Heap.get?_push_of_some _ e)
 obtain⟨t,ht,hq⟩:=hbody (.ref c) A ag s (dL f H) vs _ (hr.deeper _) hsp;have hok':bX X.prog X.w (dL f H) s.heap:=a3X e0.hok hf
 have hl2:(vs++ cv).length=(ps++ cp.map (·.2)).length:=by
  rw[List.length_append,List.length_append,List.length_map,hl];have:=congrArg List.length hcv;rw[List.length_map,List.length_map]at this;omega
 have cl:∀x c,(fW X.env.cells ai.names []).lookup x=some c->∃o v,f c=some o/\o.data= .cell v/\h₁.get? c=some o:=fun x c e=>by
  obtain⟨o,v,h1,h2⟩:=L.cell x c (sub x c e);exact⟨o,v,h1,h2,hk _ _ (lJ e0.hok (hf c o h1))⟩
 have unN:∀b,H b=none->dL f H b=none:=fun b z=>by
  cases e:f b with
  |none=>rw[dO e];exact z
  |some o=>exact kJ e
 have I:aC (sX X.prog X.w X.K X.mg X.base (ps++ cp.map (·.2)) q ai fa (.ref c) (fW X.env.cells ai.names []) A ag s (dL f H)) [] ((vs++ cv).map some) (dL f H) {s with heap:=h₁,toks:=s.toks+ (ps.zip us).length}:=by
  have noA:∀b:Addr,b∉(sX X.prog X.w X.K X.mg X.base (ps++ cp.map (·.2)) q ai fa (.ref c) (fW X.env.cells ai.names []) A ag s (dL f H)).ex:=fun b z=>absurd (show b∈([]:List Addr) from z) (by simp)
  refine⟨⟨e0.mod,kind,rfl,rfl,Nat.le_refl _,fun y z c h1 h2=>L.inj y z c (sub _ _ h1) (sub _ _ h2),fun y hy=> ?_,(fun y c z _=>by cases z),fun _=>hr.hd,Around.frames_deeper e0.frames,.inr ⟨rfl,rfl⟩,fun b z=>absurd z (noA b),fun b o z=>⟨(e0.bs b o z).1,unN b (e0.bs b o z).2⟩,e0.bsz,fun b _ _=>noA b,fun b z=>absurd z (noA b),e0.funs,fun b z=>unN b (e0.frf b z)⟩,
   rfl,e0.bare,Un.kept hk,⟨_,hns,fun i y v h1 h2 h3=> ?_⟩,fun y c h=> ?_,hok'.fresh (Nat.le_refl _),fun y c h=> ?_,fun p hp=>absurd (show p∈([]:List (Addr×Obj)) from hp) (by simp),hok'.kept hk,by rw[List.length_map];exact hl2⟩
  ·have hy':ai.names.lookup y=some .cell\/ ai.names.lookup y=some .free:=hy
   rcases hy' with hy'|hy'
   ·exact absurd rfl (nocell _ (PySem.mem_of_lookup hy'))
   ·exact tQ (PySem.mem_of_lookup hy')
  ·rw[List.getElem?_map]at h2
   have h2':(vs++ cv)[i]?=some v:=by
    cases z:(vs++ cv)[i]? with
    |none=>rw[z]at h2;cases h2
    |some v'=>rw[z]at h2;cases h2;rfl
   by_cases hi:i<ps.length
   ·have h1':ps[i]?=some y:=by
     have:(ps++ cp.map (·.2))[i]?=some y:=h1;rw[List.getElem?_append_left hi]at this;exact this
    rw[List.getElem?_append_left (by omega)]at h2';obtain⟨u,hu,ru⟩:=r.get h2';exact⟨u,ru,.inl ⟨par y (List.mem_of_getElem? h1'),a9E (List.nodup_append.mp nd).1 hus h1' hu⟩⟩
   ·have h1':(cp.map (·.2))[i- ps.length]?=some y:=by
     have:(ps++ cp.map (·.2))[i]?=some y:=h1;rw[List.getElem?_append_right (by omega)]at this;exact this
    rw[List.getElem?_append_right (by omega),hl]at h2';rw[List.getElem?_map]at h1'
    cases hp:cp[i- ps.length]? with
    |none=>rw[hp]at h1';cases h1'
    |some p=>
     rw[hp]at h1';cases h1'
     have h4:σ[p.1]?=some (some v):=by
      have:=congrArg (fun l=>l[i- ps.length]?) hcv;simp only[List.getElem?_map,hp,h2',Option.map_some]at this;exact Option.some.inj this
     obtain⟨g1,g2,g3⟩:=hcp p (List.mem_of_getElem? hp);obtain⟨c',o',u,k1,k2,k3,k4⟩:=L.val p.1 p.2 v g1 h4 g2;obtain⟨c2,k5⟩:=tQ (cells:=X.env.cells) (acc:=[]) (PySem.mem_of_lookup g3);have k6:=sub _ _ k5;rw[k1]at k6;cases k6;exact⟨u,k4,.inr ⟨.inr g3,c',k5,o',hk _ _ (lJ e0.hok (hf c' o' k2)),k3⟩⟩
  ·obtain⟨o,v,_,z1,z2⟩:=cl y c h
   exact⟨v,o,z2,z1⟩
  ·obtain⟨o,v,z,_⟩:=cl y c h
   exact kJ z
 refine W.kla_codeExpr (wpAny_mono (ht [] _ _ _ _ I hq) (?_) fun e s' hs=>False.elim hs);rintro u s' ⟨v,H',J,rv,qv⟩;refine ?_;obtain⟨u1,u2⟩:=a5P hf e0.hok e0.frf (show Un (gH ag) [] (dL f H) H' s.heap s'.heap from J.base) J.hok;exact⟨v,dE f H',J.os,J.bare,u1,u2,rv,qv fun b o e=>J.base.free b o (lJ e0.hok (hf b o e)) (kJ e) (by simp[sX])⟩
abbrev uN(tabs:List (Addr×Addr))(H:Hp):Prop:=∀z∈tabs,H z.2=some (eL z.2 [])
abbrev tK(tabs:List (Addr×Addr))(H:Hp):Prop:=∀z∈tabs,∃S,H z.2=some (eL z.2 S)
theorem a7O{mb:Str->Option Value}{k:Nat}{fd:FuncData}{s₁:Shared}{vs:List Value}{ns:List Int}{tabs:List (Addr×Addr)}
 (KX:K.In s₁.heap)(hns:s₁.heap.Ns mainGlobals mg)(hb:s₁.heap.Ns builtinsNs mb)(hbb:∀x:Str,x≠ "__name__" ->mb x=bootBuiltins x)(hlim:s₁.heap.NoLimit)(hg:s₁.gens= #[])
 (ha:s₁.heap.get? a=some {cls:=.type "list",data:=.seq vs.toArray})(hi:IntsAre vs ns)(hl:ns.length<=sizeLine)(hr:bV k callerA)
 (hT:∀z∈tabs,W.CodeHd s₁.heap z.1 z.2/\s₁.heap.get? z.2=some (W.tabObj #[])/\K.lookup z.2=none)
 (hbm:∃bm ob,mg "__builtins__"=some (.ref bm)/\bm≠builtinsNs/\s₁.heap.get? bm=some ob/\ob.cls= .type "module" /\ob.dict=some builtinsNs/\ob.data= .plain)
 (F:∀af:Heap,K.In af->af.Ns mainGlobals mg->(∀z∈tabs,jQ mg af z.1 z.2)->fT P w K mg af CX k fa fd [x] sp)(hbind:∀(s:Shared) (u:Value),BindsTo s fd ⟨[u],[]⟩ [(x,u)])
 (hsp:∀H:Hp,uN tabs H->aM K H a (ns.map V.int)->sp [.ref a] H (fun v H'=>v= .bl true/\tK tabs H') fun _ _ _=>False)
 (hCX:∀H e s',CX [] H s₁ (fun _ _ _=>False) e s'->False):
 codeAny (model P w) callerA (.call (.ref fa) ⟨[.ref a],[]⟩) (fun r s'=>r= .ok (.ret (.bool true))/\OldK s₁.heap s'.heap/\s'.os=s₁.os/\AllBare s'.gens) s₁:=by
 have rv:=a3j hi;have lenV:=hi.length;have neT:∀z∈tabs,z.2≠a:=fun z hz e=>by
  have e1:=(hT z hz).2.1;rw[e,ha]at e1;cases e1
 have core:∀H:Hp,uN tabs H->(∀b,H b=none\/ (b=a/\K.lookup a=none/\∃o xs,H b=some (.frz o (.lst xs)))\/ ∃z∈tabs,b=z.2)->aM K H a (ns.map V.int)->bX P w H s₁.heap->
  codeAny (model P w) callerA (.call (.ref fa) ⟨[.ref a],[]⟩) (fun r s'=>r= .ok (.ret (.bool true))/\OldK s₁.heap s'.heap/\s'.os=s₁.os/\AllBare s'.gens) s₁:=by
  intro H hTb hO hS hok;have base_of:∀{b:Addr} {o:Obj},s₁.heap.get? b=some o->H b=none->(lF s₁.heap H).get? b=some o:=fun e n=>a6C e n
  have free:∀{b:Addr} {o:Obj},s₁.heap.get? b=some o->o≠{cls:=.type "list",data:=.seq vs.toArray} ->o≠W.tabObj #[] ->H b=none:=fun{b o} e n1 n2=>by
   rcases hO b with z|⟨rfl,_,_⟩|⟨z,hz,rfl⟩
   ·exact z
   ·rw[ha]at e;exact absurd (Option.some.inj e).symm n1
   ·rw[(hT z hz).2.1]at e;exact absurd (Option.some.inj e).symm n2
  have noA:∀{b:Addr} {o:Obj} {es:Array DictEntry} {ep:Nat},s₁.heap.get? b=some o->o.data= .dict es ep->H b=none:=fun{b o es ep} e d=>
   free e (fun z=>by rw[z]at d;cases d) (fun z=>by rw[z]at d;cases d)
  have nsK:∀{b:Addr} {m:Str->Option Value},s₁.heap.Ns b m->(lF s₁.heap H).Ns b m:=fun{b m} ⟨o,es,ep,e,d,r⟩=>⟨o,es,ep,base_of e (noA e d),d,r⟩
  have hKb:K.In (lF s₁.heap H):=fun b o e=>base_of (KX b o e) (by
   rcases hO b with z|⟨rfl,z,_⟩|⟨z,hz,rfl⟩
   ·exact z
   ·rw[z]at e;cases e
   ·rw[(hT z hz).2.2]at e;cases e)
  have hM:Mod K mg (lF s₁.heap H):=⟨hKb,nsK hns,⟨mb,nsK hb,hbb⟩,let ⟨mc,h1,h2⟩:=hlim;⟨mc,nsK h1,h2⟩⟩;have e0:lG P w K mg (lF s₁.heap H) callerA [] s₁ H:=⟨rfl,hM,fun b o e=>a6R e,Nat.le_of_eq (a7s _ _),trivial,fun b hb=>absurd (show b∈([]:List Addr) from hb) (by simp),hok,.of_eq hg⟩;have hMk:∀z∈tabs,jQ mg (lF s₁.heap H) z.1 z.2:=fun z hz=>by
   obtain⟨⟨o,ws,file,tf,flags,tg,inF,text,tt,e1,e2,r⟩,e3,_⟩:=hT z hz;obtain⟨bm,ob,b1,b2,b3,b4,b5,b6⟩:=hbm;refine⟨⟨o,ws,file,tf,flags,tg,inF,text,tt,base_of e1 (free e1 (fun q=>by rw[q]at e2;exact absurd (Value.type.inj e2) (by decide)) (fun q=>by rw[q]at e2;cases e2)),e2,r⟩,bm,ob,b1,b2,fun q=> ?_,fun q=> ?_,base_of b3 (free b3 (fun q=>by rw[q]at b4;exact absurd (Value.type.inj b4) (by decide)) (fun q=>by rw[q]at b4;cases b4)),b4,b5,b6⟩
   ·obtain⟨o',es,ep,e',d',_⟩:=hns
    rw[q,e']at b3;cases b3;rw[d']at b6;cases b6
   ·rw[q,e3]at b3;cases b3;cases b4
  refine codeAny_mono ((F _ hKb (nsK hns) hMk).run callerA [] s₁ H ⟨[.ref a],[]⟩ [.ref a] [.ref a] _ _ hr e0 (hbind s₁ (.ref a)) (.cons rfl .nil) (hsp H hTb hS)) fun r s' h=> ?_
  cases r with
  |error e=>exact(hCX H e s' h).elim
  |ok fl=>
   cases fl with
   |next=>exact False.elim h
   |brk=>exact False.elim h
   |cont=>exact False.elim h
   |ret u=>
    obtain⟨v,H',os,bare,un,hok',r',q⟩:=h;obtain⟨q',hT'⟩:v= .bl true/\tK tabs H':=q;subst q';obtain rfl:u=Value.bool true:=r';refine⟨rfl,⟨fun b o e=> ?_,fun b o e=>un.there b o e (by simp)⟩,os,bare⟩
    rcases hO b with z|⟨rfl,_,ob,xs,z⟩|⟨z,hz,rfl⟩
    ·exact .inl (un.keep b o e z (by intro z;exact absurd (show b∈([]:List Addr) from z) (by simp)) (by simp))
    ·have z2:=un.frzs b ob _ z
     obtain⟨e1,_⟩:=hok b _ z;obtain⟨e2,_⟩:=hok' b _ z2;rw[e]at e1;cases e1;exact .inl e2
    ·obtain⟨S4,z4⟩:=hT' z hz
     obtain⟨⟨ps,e4,_⟩,_⟩:=hok' z.2 _ z4;have e3:=(hT z hz).2.1;rw[e3]at e;cases e;exact .inr (.inl ⟨((hT z hz).1.tab e3).isCodeTable,rfl,#[],ps,rfl,by rw[e4,Array.empty_append]⟩)
 have hTok:∀(H:Hp) (z:Addr×Addr),z∈tabs->cU P w H s₁.heap z.2 (eL z.2 []):=fun H z hz=>a4r (hT z hz).2.1 trivial fun pos cv e=>by cases e
 classical
 let Ht:Hp:=fun b=>if b∈tabs.map (·.2) then some (eL b []) else none
 have hHt:uN tabs Ht:=fun z hz=>if_pos (List.mem_map_of_mem hz)
 have ofHt:∀b u,Ht b=some u->∃z∈tabs,b=z.2/\u=eL z.2 []:=fun b u e=>by
  by_cases hb:b∈tabs.map (·.2)
  ·have e':=(if_pos hb).symm.trans e
   obtain⟨z,hz,rfl⟩:=List.mem_map.mp hb;exact⟨z,hz,rfl,(Option.some.inj e').symm⟩
  ·have e':=(if_neg hb).symm.trans e
   cases e'
 cases hk:K.lookup a with
 |some o=>
  have e:=KX a o hk;rw[ha]at e;cases e;refine core Ht hHt (fun b=> ?_) (.inr ⟨_,vs.toArray,_,hk,rfl,rfl,rfl,by rw[List.size_toArray,lenV];exact hl,by simpa using rv⟩) (fun b u z=> ?_)
  ·cases q:Ht b with
   |none=>exact .inl rfl
   |some u=>obtain⟨z,hz,e,_⟩:=ofHt b u q;exact .inr (.inr ⟨z,hz,e⟩)
  ·obtain⟨y,hy,rfl,rfl⟩:=ofHt b u z
   exact hTok _ y hy
 |none=>
  refine core (fun b=>if b=a then some (.frz {cls:=.type "list",data:=.seq vs.toArray} (.lst (ns.map V.int))) else Ht b) (fun z hz=> ?_) (fun b=> ?_) (.inl (.inr ⟨{cls:=.type "list",data:=.seq vs.toArray},if_pos rfl⟩)) (fun b u z=> ?_)
  ·exact(if_neg (neT z hz)).trans (hHt z hz)
  ·by_cases hb:b=a
   ·exact .inr (.inl ⟨hb,hk,_,_,if_pos hb⟩)
   ·cases q:Ht b with
    |none=>exact .inl (if_neg hb)
    |some u=>obtain⟨z,hz,e,_⟩:=ofHt b u q;exact .inr (.inr ⟨z,hz,e⟩)
  ·by_cases hb:b=a
   ·have z':=(if_pos hb).symm.trans z
    cases z';subst hb;exact⟨ha,by rw[List.length_map];exact hl,vs,_,rv,ha⟩
   ·have z':=(if_neg hb).symm.trans z
    obtain⟨y,hy,rfl,rfl⟩:=ofHt b u z';exact hTok _ y hy
def a8p(P:Program)(w:World)(K:Fg)(mg:Str->Option Value)(af:Heap)(k:Nat)(m:Str)(ta:TE)(t:TA):TE:=fun σ H Q=>ta σ H fun x H1=>∃a C dx fs fa sp,x= .ref a/\H1 a=some (.ins C dx fs)/\cG K C/\cE K C m/\fs.lookup m=some (.ref fa)/\eT P w K mg af k fa sp/\t σ H1 fun vs H2=>sp vs H2 Q E0
section
variable{k:Nat}{p:Pos}{o:Expr}{t:TA}
theorem a5H{pl:Sem Bool}(he:PE X o ta)(hr:bV k X.A)(ha:PA X (e::es) t)
 (hst:starEach (e::es) X.env=(false,eval e X.env)::starEach es X.env:=by rfl)(hpl:(backTo pos (starEach es X.env)).any (·.1)=false:=by rfl)
 (ht:eval (.Call (.Attribute o m apos) (e::es) [] pos) X.env=(do
  let ov<- eval o X.env
  standAt apos.atName
  let (f,first)<- holding [ov] (getMethod ov m pl)
  callWith pos f first (backTo pos (starEach (e::es) X.env)) (backToKw pos (keywordEach [] X.env))):=by rfl):
 PE X (.Call (.Attribute o m apos) (e::es) [] pos) (a8p X.prog X.w X.K X.mg X.base k m ta t):=by
 intro ae s σ H Q I h;refine W.methodCall_KW (pl:=pl) (aT (he ae s σ H _ I h) ?_) ht;rintro u s1 ⟨x,H1,I1,rx,a,C,dx,fs,fa,sp,ex,ea,c,n,l,F,q⟩;refine ?_;subst ex;obtain rfl:u=Value.ref a:=rx;obtain⟨mA,O,_,_,_,_⟩:=uK I1.hok ea;obtain⟨od,J,_⟩:=O.look;refine W.method_usual (r:=none) I1.kIn J (W.plainGet_of (c.get m)).1 (W.plainGet_of (c.get m)).2 n rfl ?_;refine a3m I1 ea c n l fun u2 s2 I2 ru=> ?_
 obtain rfl:u2=Value.ref fa:=ru;show wpAny _ _ (callWith pos (.ref fa) [] (backTo pos (starEach (e::es) X.env)) []) _ _ _;rw[hst];refine W.callWith_of (P:=fun h=>∃c d fd sl,h.get? fa=some ⟨c,d,.func fd,sl⟩) (by show((false||(backTo pos (starEach es X.env)).any (·.1))||false)=false;rw[hpl];rfl)
  (fun h ⟨c,d,fd,sl,z⟩=>⟨.frame,.inl rfl,(W.Looks.ld (part:=none) z).andThen .now⟩) (Calls.evalArgs_plain ?_)
 have ha':=ha pos ae s2 σ H1 _ I2 q;rw[hst]at ha';refine aT ha' ?_;rintro us s3 ⟨vs,H2,I3,r,q2⟩;refine ?_;obtain⟨c,d,fd,sl,z⟩:=F.fn _ _ _ _ q2;refine⟨⟨c,d,fd,sl,lJ I3.hok z⟩,?_⟩;refine wpAny_call (codeAny_mono (F.run X.A X.stack s3 H2 us vs Q E0 hr I3.env0 r q2) fun r s' hq=> ?_)
 cases r with
 |error e=>exact False.elim hq
 |ok fl=>
  cases fl with
  |ret u=>exact I3.after hq
  |next=>exact False.elim hq
  |brk=>exact False.elim hq
  |cont=>exact False.elim hq
end
structure vH where
 nx:St->Hp->Prop
 rt:V->St->Hp->Prop
abbrev rH:=vH->St->Hp->Prop
def SPR(X:Cx)(ae:List (Addr×Obj))(D:vH)(f:Flow)(s':Shared):Prop:=
 match f with
 | .next=>∃σ' H',aC X ae σ' H' s'/\D.nx σ' H'
 | .ret u=>∃v σ' H',aC X ae σ' H' s'/\aZ v u/\D.rt v σ' H'
 |_=>False
def PSR(X:Cx)(st:Stmt)(t:rH):Prop:=
 ∀(ae:List (Addr×Obj)) (s:Shared) (σ:St) (H:Hp) (D:vH),aC X ae σ H s->t D σ H->wpAny (model X.prog X.w) X.A (exec st X.env) (SPR X ae D) X.xe s
def uA(X:Cx)(st:List Stmt)(t:rH):Prop:=
 ∀(ae:List (Addr×Obj)) (s:Shared) (σ:St) (H:Hp) (D:vH),aC X ae σ H s->t D σ H->wpAny (model X.prog X.w) X.A (execs st X.env) (SPR X ae D) X.xe s
section
variable{st:Stmt}{cH:List Stmt}{t u:rH}
noncomputable def rSeq(t u:rH):rH:=fun D σ H=>t {D with nx:=u D} σ H
noncomputable def rOf (t:TS):rH:=fun D σ H=>t {nx:=D.nx,rt:=fun _ _=>False} σ H
theorem sQ(h1:PSR X st t)(h2:uA X cH u):uA X (st::cH) (rSeq t u):=by
 intro ae s σ H D I h;refine wpAny_execs_cons (aT (h1 ae s σ H {D with nx:=u D} I h) fun f s1 q=> ?_)
 cases f with
 |next=>
  obtain⟨σ',H',I',q⟩:=q;exact h2 ae s1 σ' H' D I' q
 |ret v=>exact q
 |brk=>exact q
 |cont=>exact q
theorem a9I(h1:PSR X st t):uA X [st] t:=by
 intro ae s σ H D I h;refine wpAny_execs_cons (aT (h1 ae s σ H D I h) fun f s1 q=> ?_)
 cases f with
 |next=>exact wpAny_execs_nil q
 |ret v=>exact q
 |brk=>exact q
 |cont=>exact q
theorem pQ{t:TS}(h1:PS X st t):PSR X st (rOf t):=by
 intro ae s σ H D I h;refine aT (h1 ae s σ H _ I h) fun f s1 q=> ?_
 cases f with
 |next=>exact q
 |ret v=>
  obtain⟨_,_,_,_,_,z⟩:=q;exact False.elim z
 |brk=>
  obtain⟨_,_,_,z⟩:=q;exact z
 |cont=>
  obtain⟨_,_,_,z⟩:=q;exact z
end
theorem a7r{s:Shared}(I:aC X ae σ H s):∃f:eS,lL X σ H f/\(∀b o,f b=some o->H b=none/\s.heap.get? b=some o/\∃x,X.env.cells.lookup x=some b):=by
 classical
 let f:eS:=fun b=>if(∃x,X.env.cells.lookup x=some b) then s.heap.get? b else none
 have fe:∀{b o},f b=some o->(∃x,X.env.cells.lookup x=some b)/\s.heap.get? b=some o:=fun{b o} e=>by
  by_cases z:∃x,X.env.cells.lookup x=some b
  ·exact⟨z,by rw[show f b=s.heap.get? b from if_pos z]at e;exact e⟩
  ·rw[show f b=none from if_neg z]at e;cases e
 have ff:∀{x c},X.env.cells.lookup x=some c->f c=s.heap.get? c:=fun{x c} e=>if_pos ⟨x,e⟩
 refine⟨f,⟨fun b o e=> ?_,fun x c e=> ?_,fun i x v e1 e2 e3=> ?_,I.ok.inj⟩,fun b o e=> ?_⟩
 ·obtain⟨⟨x,z⟩,_⟩:=fe e
  exact I.freeC x b z
 ·obtain⟨v,o,ho,hd⟩:=I.cell x c e
  exact⟨o,v,by rw[ff e];exact ho,hd⟩
 ·obtain⟨m,_,hl⟩:=I.loc
  obtain⟨u,r,l⟩:=hl i x v e1 e2 (.inr (.inl e3))
  rcases l with⟨k,_⟩|⟨_,c,ec,o,ho,hd⟩
  ·have k':X.env.scope.names.lookup x=some .local:=k
   rw[e3]at k';cases k'
  ·exact⟨c,o,u,ec,by rw[ff ec];exact ho,hd,r⟩
 ·obtain⟨⟨x,z⟩,g⟩:=fe e
  exact⟨I.freeC x b z,g,x,z⟩
structure gL(X:Cx)(e:Expr)(t:TE):Prop where
 run:PE X e t
structure jF(X:Cx)(es:List Expr)(t:TA):Prop where
 run:PA X es t
structure PTw(X:Cx)(e:Expr)(t:TT):Prop where
 run:PT X e t
structure wV(X:Cx)(st:Stmt)(t:TS):Prop where
 run:PS X st t
structure yC(X:Cx)(st:List Stmt)(t:TS):Prop where
 run:eV X st t
section
variable{t u:TA}
theorem pN:jF X [] jU:=⟨aG⟩
theorem a0O{elts:List Expr}{k:Nat}(ha:gL X (.Tuple elts k pos) te)(hr:jF X es t):jF X (.Tuple elts k pos::es) (lQ te t):=⟨aA ha.run hr.run rfl⟩
theorem a7X{elts:List Expr}(ha:gL X (.List elts pos) te)(hr:jF X es t):jF X (.List elts pos::es) (lQ te t):=⟨aA ha.run hr.run rfl⟩
theorem nI{c:Const}{k:Nat}(ha:gL X (.Constant c k pos) te)(hr:jF X es t):jF X (.Constant c k pos::es) (lQ te t):=⟨aA ha.run hr.run rfl⟩
theorem a0e{a b:Expr}{op:Operator}(ha:gL X (.BinOp a op b pos) te)(hr:jF X es t):jF X (.BinOp a op b pos::es) (lQ te t):=⟨aA ha.run hr.run rfl⟩
theorem a4N(ha:gL X (.Name x pos) te)(hr:jF X es t):jF X (.Name x pos::es) (lQ te t):=⟨aA ha.run hr.run rfl⟩
theorem a01{k:Nat}(h:jF X es t):gL X (.Tuple es k pos) (tTup t):=⟨fF h.run⟩
theorem a0o(h:jF X es t):gL X (.List es pos) (tLst t):=⟨fC h.run⟩
theorem pS{x j}:gL X (.Constant (.str x) j pos) (tC (.str x)):=⟨bT⟩
theorem nJ{i j}:gL X (.Constant (.int i) j pos) (tC (.int i)):=⟨bB⟩
theorem b0a{b j}:gL X (.Constant (.bool b) j pos) (tC (.bl b)):=⟨oE⟩
theorem a6e{j}:gL X (.Constant .none j pos) (tC .non):=⟨gT⟩
theorem pD{op:Operator}{a b:Expr}(ho:dG X (binaryOp op) r)(ha:gL X a ta)(hb:gL X b tb):gL X (.BinOp a op b pos) (rG r ta tb):=⟨bZ ho ha.run hb.run⟩
end
section
variable{st:Stmt}{cH:List Stmt}{t u:TS}
theorem a2f(hN:X.N.Nodup)(hi:X.N[i]?=some x)(hx:tN X.env.scope x)(he:gL X e te)(hs:swapsWith e (some (.Name x pos')) pos.line X.env=pure false:=by rfl)(hf:X.fn x=true\/ X.env.scope.names.lookup x=some .local:=by first|exact .inl rfl|exact .inr rfl|assumption):
 wV X (.Assign [.Name x pos'] e pos) (xT te (qW i)):=⟨cA hN hi hx he.run hs hf⟩
theorem a4G(h1:wV X st t)(h2:yC X cH u):yC X (st::cH) (tSeq t u):=⟨aJ h1.run h2.run⟩
theorem a8q(h1:wV X st t):yC X [st] t:=⟨aK h1.run⟩
end
def a7z(R:Addr->Sp->Prop)(m:Str)(E:XK)(ta:TE)(t:TA):TE:=fun σ H Q=>ta σ H fun x H1=>∃C sp a dx fs,R C sp/\x= .ref a/\H1 a=some (.ins C dx fs)/\fs.lookup m=none/\t σ H1 fun vs H2=>sp (x::vs) H2 Q E
def a8i(X:Cx)(R:Addr->Sp->Prop)(m:Str)(ta:TE)(t:TA):TE:=fun σ H Q=>ta σ H fun x H1=>∃C sp a dx fs,R C sp/\x= .ref a/\H1 a=some (.ins C dx fs)/\fs.lookup m=none/\
 t σ H1 fun vs H2=>∀f,lL X σ H2 f->sp (x::vs) (dE f H2) (fun v H'=>Q v (dL f H')) E0
section
variable{k:Nat}{R:Addr->Sp->Prop}{E:XK}{o:Expr}{t:TA}
theorem tJ{pl:Sem Bool}(he:PE X o ta)(hR:∀C sp,R C sp->cG X.K C/\aS X.prog X.w X.K X.mg X.base CX k C m ps sp)(hr:bV k X.A)(hx:iH CX X E)(ha:PA X (e::es) t)
 (hst:starEach (e::es) X.env=(false,eval e X.env)::starEach es X.env:=by rfl)(hpl:(backTo pos (starEach es X.env)).any (·.1)=false:=by rfl)
 (ht:eval (.Call (.Attribute o m apos) (e::es) [] pos) X.env=(do
  let ov<- eval o X.env
  standAt apos.atName
  let (f,first)<- holding [ov] (getMethod ov m pl)
  callWith pos f first (backTo pos (starEach (e::es) X.env)) (backToKw pos (keywordEach [] X.env))):=by rfl):
 PE X (.Call (.Attribute o m apos) (e::es) [] pos) (a7z R m E ta t):=by
 intro ae s σ H Q I h;refine W.methodCall_KW (pl:=pl) (aT (he ae s σ H _ I h) ?_) ht;rintro u s1 ⟨x,H1,I1,rx,C,sp,a,dx,fs,hC,ex,ea,l,q⟩;refine ?_;obtain⟨c,G⟩:=hR C sp hC;obtain⟨f,fd,F,hm,hb⟩:=G.ex;subst ex;obtain rfl:u=Value.ref a:=rx;refine rV I1 ea c hm l ?_;refine W.callWith_K (first:=[.ref a]) (h₀:=X.base) I.ok.mod.kin hm.kp (aT (ha pos ae s1 σ H1 _ I1 q) ?_) hst hpl;rintro us s2 ⟨vs,H2,I2,r,q2⟩;refine⟨I2.kIn,?_⟩;exact sI (us:=.ref a::us) (vs:=.ref a::vs) F hr hb .nil hx I2 (.cons rfl r) (by rw[List.append_nil];exact q2)
theorem a80{pl:Sem Bool}(he:PE X o ta)(hR:∀C sp,R C sp->cG X.K C/\aS X.prog X.w X.K X.mg X.base aD k C m ps sp)(hr:bV k X.A)(ha:PA X (e::es) t)(hfn:∀x,X.fn x=true:=by exact fun _=>rfl)
 (hst:starEach (e::es) X.env=(false,eval e X.env)::starEach es X.env:=by rfl)(hpl:(backTo pos (starEach es X.env)).any (·.1)=false:=by rfl)
 (ht:eval (.Call (.Attribute o m apos) (e::es) [] pos) X.env=(do
  let ov<- eval o X.env
  standAt apos.atName
  let (f,first)<- holding [ov] (getMethod ov m pl)
  callWith pos f first (backTo pos (starEach (e::es) X.env)) (backToKw pos (keywordEach [] X.env))):=by rfl):
 PE X (.Call (.Attribute o m apos) (e::es) [] pos) (a8i X R m ta t):=by
 intro ae s σ H Q I h;refine W.methodCall_KW (pl:=pl) (aT (he ae s σ H _ I h) ?_) ht;rintro u s1 ⟨x,H1,I1,rx,C,sp,a,dx,fs,hC,ex,ea,l,q⟩;refine ?_;obtain⟨c,G⟩:=hR C sp hC;obtain⟨f,fd,F,hm,hb⟩:=G.ex;subst ex;obtain rfl:u=Value.ref a:=rx;refine rV I1 ea c hm l ?_;refine W.callWith_K (first:=[.ref a]) (h₀:=X.base) I.ok.mod.kin hm.kp (aT (ha pos ae s1 σ H1 _ I1 q) ?_) hst hpl;rintro us s2 ⟨vs,H2,I2,r,q2⟩;refine⟨I2.kIn,?_⟩;exact a83 (us:=.ref a::us) (vs:=.ref a::vs) hfn F hr hb I2 (.cons rfl r) q2
end
theorem aS.le{k:Nat}(G:aS P w K mg af CX j C m ps sp)(h:j<=k):aS P w K mg af CX k C m ps sp:=by
 obtain⟨f,fd,F,hm,hb⟩:=G.ex;exact⟨f,fd,F.mono h,hm,hb⟩
structure PPw(X:Cx)(pos:Pos)(keys:List (Option Expr))(values:List Expr)(trs:List (TE×TE)):Prop where
 run:PPs X pos keys values trs
theorem boxS{st:List Stmt}{D:kB}(h:∃t,yC X st t/\t D σ H):∃t,eV X st t/\t D σ H:=let ⟨t,h1,h2⟩:=h;⟨t,h1.run,h2⟩
structure KDict(P:Params)(K:Fg)(p:Addr):Prop where
 ex:∃(es:Array DictEntry) (n:Nat),K.lookup p=some ⟨.type "dict",none,.dict es n,#[]⟩ /\W.KeysLit P es.toList
 lo:(p==sysModules)=false
structure FnV(P:Program)(w:World)(K:Fg)(mg:Str->Option Value)(af:Heap)(k:Nat)(fa:Addr)(sp:Sp):Prop where
 kp:W.keepIn K (.ref fa)=true
 run:∀(A:Around) (ag:List Env) (s:Shared) (H:Hp) (us:List Value) (vs:List V) (Q:VK) (E:XK),bV k A->lG P w K mg af A ag s H->K.In s.heap->aW vs us->sp vs H Q E->
  codeAny (model P w) A (.call (.ref fa) ⟨us,[]⟩) (CR aD ag P w H s Q E) s
theorem qJ(z:Str):∀zs:List Str,gQ (.str z) (zs.map V.str)=decide (z∈zs)
 | []=>rfl
 |y::r=>by
  have ih:=qJ z r
  unfold gQ at ih|-
  rw[List.map_cons,List.any_cons,ih]
  have e:lH (.str y) (.str z)=decide (y=z):=by
   by_cases h:y=z<;>simp[lH,h]
  rw[e,<- Bool.decide_or];congr 1;rw[List.mem_cons];exact propext ⟨fun h=>h.imp Eq.symm id,fun h=>h.imp Eq.symm id⟩
theorem oO:∀zs:List Str,(zs.map V.str).all lW=true
 | []=>rfl
 |y::r=>by
  rw[List.map_cons,List.all_cons,oO r];rfl
structure kO(K:Fg)(mg:Str->Option Value)(cls m qual:Str)(st:Stmt)(z:Addr×Addr):Prop where
 ex:∃C f fd,mg cls=some (.ref C)/\lM K m qual st f fd/\W.findIn K (.ref C) m=some (some (.ref f))/\W.isFn K (.ref f)=true/\fd.code= .ref z.1
 hd:W.codeHdIn K z.1 z.2=true
section
theorem a9B{cls:Str}{st:Stmt}{c p:Addr}{osl:Array (Option Value)}{kV:Value}(X:K.In h)(G:h.Ns mainGlobals mg)(n:W.nsIn K mainGlobals cls=some (some (.ref C)))(a:W.findIn K (.ref C) m=some (some (.ref f)))(i:W.isFn K (.ref f)=true)
 (l:K.lookup f=some ⟨oc,od,.func (W.fnOf m qual (jP st) (eZ st) (aL st) .none kV doc pm an (.ref c) ct),osl⟩)(hc:W.codeIn K (.ref c) qual=true)(k:W.keepIn K (.ref f)=true)(hd:W.codeHdIn K c p=true):kO K mg cls m qual st (c,p):=
 ⟨⟨C,f,_,W.mg_of X G n,wW l hc k,a,i,rfl⟩,hd⟩
theorem kO.known{cls:Str}{st:Stmt}{k:Nat}{z:Addr×Addr}(D:kO K mg cls m qual st z)(hC:mg cls=some (.ref C))(S:aY N ps (aL st))
 (hb:∀(kV doc pm:Value) (an:Option Addr) (ah ct:Value) (us:List Value),us.length=ps.length->bindArgs (W.fnOf m qual (jP st) (eZ st) (aL st) .none kV doc pm an ah ct) ⟨us,[]⟩=pure (ps.zip us))
 (len:∀vs H Q E,sp vs H Q E->vs.length=ps.length)
 (hbody:∀(f:Addr) (A:Around) (ag:List Env) (s:Shared) (H:Hp) (vs:List V) (Q:VK) (E:XK),bV k (A.deeper (envOfC qual (aL st) s.heap.objs.size f (.ref z.1)))->sp vs H Q E->
  ∃t,eV (dF aD P w K mg af N qual (aL st) f (.ref z.1) A ag s H E).nox (eZ st) t/\t {nx:=fun _ H'=>Q .non H',rt:=Q} (iA N vs) H):aS P w K mg af aD (k+ 1) C m ps sp:=by
 obtain⟨C',f,fd,hC',F,ha,hi,hc⟩:=D.ex;rw[hC]at hC';cases hC';refine⟨f,fd,?_,⟨ha,hi,F.kp⟩,F.binds hb⟩;obtain⟨oc,od,kV,doc,pm,an,ah,ct,osl,rfl,lk,hcd⟩:=F.ex;have e:ah= .ref z.1:=hc;subst e;refine a1B lk hcd S len fun A ag s H vs Q E hr hsp=> ?_
 obtain⟨t,h,q⟩:=hbody f A ag s H vs Q E hr hsp;exact⟨t,h.nox,q⟩
end
theorem a67{l:W.OpenLaw}{k:Nat}{q:Program}{loose:List Str}{XP:(Str->Option Value)->Heap->Prop}{YP:World->Heap->Prop}{d:DefRec}{K:Params->Fg}{CX:World->fG}{sp:World->List (Addr×Addr)->Sp}
 (hn:l.most=some n)(hn2:n<=sizeLine)(hdf:d.params.defaults= [])(hr:bV k callerA)
 (hY:∀(w:World) (h:Heap),YP w h->(K w.params).In h)
 (F:∀(w:World) (mg:Str->Option Value) (fa:Addr) (h:Heap),YP w h->(K w.params).In h->h.Ns mainGlobals mg->mg d.name=some (.ref fa)->
  W.noTabs (K w.params)=true/\∃tabs:List (Addr×Addr),(∀z∈tabs,a9l q (K w.params) z\/ (W.codeHdIn (K w.params) z.1 z.2=true/\h.get? z.2=some (W.tabObj #[])))/\∃fd:FuncData,(∀(s:Shared) (u:Value),BindsTo s fd ⟨[u],[]⟩ [(x,u)])/\
   ∀af:Heap,(K w.params).In af->af.Ns mainGlobals mg->(∀z∈tabs,jQ mg af z.1 z.2)->fT l.prog w (K w.params) mg af (CX w) k fa fd [x] (sp w tabs))
 (hsp:∀(w:World) (tabs:List (Addr×Addr)) (H:Hp) (a:Addr) (ns:List Int),ns.length<=n->uN tabs H->aM (K w.params) H a (ns.map V.int)->sp w tabs [.ref a] H (fun v H'=>v= .bl true/\tK tabs H') fun _ _ _=>False)
 (hCX:∀(w:World) (H:Hp) (s:Shared) (e:Value) (s':Shared),CX w [] H s (fun _ _ _=>False) e s'->False):
 W.WalkO q loose XP YP l.row.toRowW d [] (fun f vs=>PySem.call f vs):=by
 refine Att.attach_call hn hdf fun w s₀ s₁ mg mb fa o pm cd doc a vs ns G Y ho hd hcd hmg hobj hints hlen hg=> ?_
 have KX:=hY w _ Y;obtain⟨hnT,tabs,hTb,fd,hb,hF⟩:=F w mg fa _ Y KX G.T.g hmg;refine a7O KX G.T.g G.T.b G.T.builtins G.T.nolimit hg hobj hints (Nat.le_trans hlen hn2) hr (fun z hz=> ?_) G.T.bmain hF hb (fun H hO hS=>hsp w tabs H a ns hlen hO hS) fun H e s'=>hCX w H s₁ e s'
 rcases hTb z hz with t|⟨t1,t2⟩
 ·obtain⟨y,h1,h2⟩:=t.ex
  obtain⟨d',h1⟩:=Option.isSome_iff_exists.mp h1;obtain⟨t1,t2⟩:=W.tab_of G.T KX h1 h2;exact⟨t1,t2,a2v hnT KX t2⟩
 ·exact⟨W.codeHd_of_K KX t1,t2,a2v hnT KX t2⟩
theorem a1V:jM X (.builtin "isinstance") (fun xs H Q=>∃x T t k,xs= [x,.ty T] /\gZ X.K H x t/\W.kitOne X.K t (.type T)=some k/\Q (.bl k) H):=by
 intro ae s σ H xs us Q I r h;obtain⟨x,T,t,k,rfl,ty,e,q⟩:=h
 cases r with
 |cons r1 rr=>
  cases rr with
  |cons r2 rr=>
   cases rr;cases r2;exact a94 I r1 ty e fun tk=>⟨.bl k,H,I.tok tk,rfl,q⟩
structure LentC(X:Cx)(σ:St)(H:Hp)(f:eS):Prop extends lL X σ H f where
 only:∀b o,f b=some o->∃v,o.data= .cell v
section
variable{k:Nat}{p:Pos}{o:Expr}{t:TA}{E:XK}
theorem a52(G:eO X.prog X.w X.K X.mg X.base CX k C ps sp)(hr:bV (k+ 1) X.A)(hm:X.mg x=some (.ref C))(hx:iH CX X E)(hg:Gl X x:=by rfl)(hdb:(x==("__debug__":Str))=false:=by decide):
 PE X (.Call (.Name x p) [] [] pos) (wG C sp [] E jU):=by
 obtain⟨f,fd,F,M,hb⟩:=G.ex;exact a9p M F hr hg hm hb .nil hx hdb
end
def SetO(P:Program)(w:World)(D:Addr)(S:Str->Bool)(n:Nat):HO:=.ext fun h=>h.SetOf (strKind P w) D S n
end L2
namespace L2
open PySem PySem.W PyProof.Rows
noncomputable def bF {α:Type} (lt:Nat->Nat->Bool):KasT α->α
 | .ret a=>a
 | .ask i j k=>bF lt (k (lt i j))
theorem pK{α β:Type}{lt:Nat->Nat->Bool}{f:α->KasT β}:∀t:KasT α,bF lt (t.bind f)=bF lt (f (bF lt t))
 | .ret a=>rfl
 | .ask i j k=>pK (k (lt i j))
def OkK{α:Type}(n:Nat)(R:α->Prop):KasT α->Prop
 | .ret a=>R a
 | .ask i j k=>i<n/\j<n/\∀b,OkK n R (k b)
theorem OkK.bind{α β:Type}{n:Nat}{f:α->KasT β}{R:α->Prop}{R':β->Prop}:∀{t:KasT α},OkK n R t->(∀a,R a->OkK n R' (f a))->OkK n R' (t.bind f)
 | .ret a,h,hf=>hf a h
 | .ask i j k,⟨h1,h2,h3⟩,hf=>⟨h1,h2,fun b=>OkK.bind (h3 b) hf⟩
theorem OkK.wp{α:Type}{n:Nat}{R:α->Prop}{lt:Nat->Nat->Bool}{cmp:Nat->Nat->(Bool->Shared->Prop)->Shared->Prop}{J:Shared->Prop}(hc:∀i j C s,i<n->j<n->J s->(∀s',J s'->C (lt i j) s')->cmp i j C s){Q:α->Shared->Prop}:∀{t:KasT α} {s:Shared},OkK n R t->J s->(∀s',J s'->Q (bF lt t) s')->t.kasWp cmp Q s
 | .ret a,s,_,j,q=>q s j
 | .ask i j k,s,⟨h1,h2,h3⟩,js,q=>hc i j _ s h1 h2 js fun s' js'=>OkK.wp hc (h3 _) js' q
theorem nO{p:Array Nat}(h:i<=j)(hj:j<=p.size)(k:Nat):(kas_rev p i j).getD k 0=if i<=k/\k<j then p.getD (i+ j- 1- k) 0 else p.getD k 0:=by
 have e:=getElem?_mirror (i:=i) hj ((j- i)/ 2) (by omega) k;unfold kas_rev;rw[Array.getD_eq_getD_getElem?,e,Array.getD_eq_getD_getElem?,Array.getD_eq_getD_getElem?];by_cases h1:i<=k/\k<j
 ·rw[if_pos h1]
  by_cases h2:(i<=k/\k<i+ (j- i)/ 2)\/ (j- (j- i)/ 2<=k/\k<j)
  ·rw[if_pos h2]
  ·rw[if_neg h2]
   have:i+ j- 1- k=k:=by omega
   rw[this]
 ·rw[if_neg h1,if_neg (by omega)]
theorem a3L(p:Array Nat)(i j:Nat):(kas_rev p i j).size=p.size:=mirror_size _ _ _ _
theorem a9N(p:Array Nat)(i j:Nat):(kas_rev p i j).Perm p:=mirror_perm _ _ _ _
theorem a3t{p:Array Nat}{k l:Nat}(h:l<=k)(hk:k<p.size)(x:Nat):(bubble p k (k- l)).getD x 0=if x=l then p.getD k 0 else if l<x/\x<=k then p.getD (x- 1) 0 else p.getD x 0:=by
 have e:=getElem?_bubble hk (k- l) (by omega) x;rw[Array.getD_eq_getD_getElem?,e,show k- (k- l)=l by omega];simp only[Array.getD_eq_getD_getElem?];split
 ·rfl
 ·split<;>rfl
def Bl(n:Nat)(p:Array Nat):Prop:=p.size=n/\∀k,p.getD k 0<n
theorem Bl.rev{p:Array Nat}(h:Bl n p)(hij:i<=j)(hj:j<=n):Bl n (kas_rev p i j):=by
 refine⟨by rw[a3L];exact h.1,fun k=> ?_⟩;rw[nO hij (by rw[h.1];exact hj)];split<;>exact h.2 _
theorem Bl.bub{p:Array Nat}(h:Bl n p){k l:Nat}(hl:l<=k)(hk:k<n):Bl n (bubble p k (k- l)):=by
 refine⟨by rw[bubble_size];exact h.1,fun x=> ?_⟩;rw[a3t hl (by rw[h.1];exact hk)];split
 ·exact h.2 _
 ·split<;>exact h.2 _
theorem nH{n:Nat}{p:Array Nat}(h:Bl n p):∀(f m:Nat),OkK n (fun r=>m<=r/\r<=m+ f) (kas_asc p f m)
 |0,m=>⟨Nat.le_refl _,Nat.le_refl _⟩
 |f+ 1,m=>by
  refine⟨h.2 _,h.2 _,fun b=> ?_⟩
  cases b with
  |true=>exact⟨Nat.le_refl _,by omega⟩
  |false=>
   show OkK n _ (kas_asc p f (m+ 1));have:=nH h f (m+ 1);refine OkK.mono (fun r hr=> ?_) this;omega
where OkK.mono {α:Type} {n:Nat} {R R':α->Prop} (hR:∀a,R a->R' a):∀{t:KasT α},OkK n R t->OkK n R' t
 | .ret a,h=>hR a h
 | .ask i j k,⟨h1,h2,h3⟩=>⟨h1,h2,fun b=>OkK.mono hR (h3 b)⟩
theorem vN{n:Nat}:∀(f:Nat) (p:Array Nat) (m q:Nat),Bl n p->q+ 1<=m->m+ f<=n->OkK n (fun r=>Bl n r.1/\r.2.2+ 1<=r.2.1/\m<=r.2.1/\r.2.1<=n) (kas_desc f p m q)
 |0,p,m,q,h,hq,hm=>⟨h,hq,Nat.le_refl _,by omega⟩
 |f+ 1,p,m,q,h,hq,hm=>by
  refine⟨h.2 _,h.2 _,fun b=> ?_⟩
  cases b with
  |true=>
   show OkK n _ (if q>0 then kas_desc f (kas_rev p (m- (q+ 1)) m) (m+ 1) 0 else kas_desc f p (m+ 1) 0);by_cases h0:q>0
   ·rw[if_pos h0]
    exact nH.OkK.mono (fun r hr=>⟨hr.1,hr.2.1,by omega,hr.2.2.2⟩) (vN f _ (m+ 1) 0 (h.rev (by omega) (by omega)) (by omega) (by omega))
   ·rw[if_neg h0]
    exact nH.OkK.mono (fun r hr=>⟨hr.1,hr.2.1,by omega,hr.2.2.2⟩) (vN f p (m+ 1) 0 h (by omega) (by omega))
  |false=>
   refine⟨h.2 _,h.2 _,fun b=> ?_⟩
   cases b with
   |true=>exact⟨h,hq,Nat.le_refl _,(show m<=n by omega)⟩
   |false=>exact nH.OkK.mono (fun r hr=>⟨hr.1,hr.2.1,by omega,hr.2.2.2⟩) (vN f p (m+ 1) (q+ 1) h (by omega) (by omega))
theorem a39{m:Nat}{p:Array Nat}(h:Bl n p)(hm:m<=n):OkK n (fun r=>Bl n r.2/\r.1<=n) (kas_tail3 m n p):=
 OkK.bind (nH (h.rev (Nat.zero_le _) hm) _ _) fun r hr=>⟨h.rev (Nat.zero_le _) hm,(show r<=n by omega)⟩
theorem a09{m:Nat}{p:Array Nat}(h:Bl n p)(hm:m+ 1<=n):OkK n (fun r=>Bl n r.2/\r.1<=n) (kas_descPart m n p):=by
 refine OkK.bind (vN (n- (m+ 1)) p (m+ 1) 0 h (by omega) (by omega)) fun r hr=> ?_
 obtain⟨h1,h2,h3,h4⟩:=hr;show OkK n _ (if r.2.2>0 then _ else _);split
 ·exact a39 (h1.rev (by omega) h4) h4
 ·exact a39 h1 h4
theorem a5A{p:Array Nat}(h:Bl n p)(h1:1<=n):OkK n (fun r=>Bl n r.2/\r.1<=n) (kas_count n p):=by
 refine OkK.bind (nH h (n- 1) 1) fun m hm=> ?_
 show OkK n _ (if(m==n)=true then _ else _);by_cases e:m=n
 ·rw[if_pos (by simp[e])]
  exact⟨h,(show m<=n by omega)⟩
 rw[if_neg (by simp[e])];split
 ·refine⟨h.2 _,h.2 _,fun b=> ?_⟩
  cases b with
  |true=>exact⟨h,(show m<=n by omega)⟩
  |false=>exact a09 (h.rev (Nat.zero_le _) (by omega)) (by omega)
 ·exact a09 h (by omega)
theorem a0R{n k:Nat}{p:Array Nat}(h:Bl n p):∀(f l r:Nat),l<=r->OkK n (fun x=>l<=x/\x<=r) (kas_place p k f l r)
 |0,l,r,hl=>⟨Nat.le_refl _,hl⟩
 |f+ 1,l,r,hl=>by
  show OkK n _ (if l>=r then _ else _);by_cases e:l>=r
  ·rw[if_pos e];exact⟨Nat.le_refl _,hl⟩
  rw[if_neg e];refine⟨h.2 _,h.2 _,fun b=> ?_⟩
  cases b with
  |true=>exact nH.OkK.mono (fun x hx=>by omega) (a0R h f l ((l+ r)/ 2) (by omega))
  |false=>exact nH.OkK.mono (fun x hx=>by omega) (a0R h f ((l+ r)/ 2+ 1) r (by omega))
theorem a2z{n:Nat}:∀(f:Nat) (p:Array Nat) (k:Nat),Bl n p->k+ f<=n->OkK n (Bl n) (kas_bin f p k)
 |0,p,k,h,_=>h
 |f+ 1,p,k,h,hk=>OkK.bind (a0R h k 0 k (Nat.zero_le _)) fun l hl=>a2z f _ (k+ 1) (h.bub hl.2 (by omega)) (by omega)
theorem a7p(h:0<n):Bl n (List.toArray (List.range n)):=by
 refine⟨by simp,fun k=> ?_⟩;rw[Array.getD_eq_getD_getElem?];by_cases hk:k<n
 ·simp[hk]
 ·simp[hk];exact h
theorem a7i(h:0<n):OkK n (Bl n) (kas_sort n):=by
 refine OkK.bind (a5A (a7p h) h) fun r hr=> ?_
 show OkK n _ (if r.1<n then _ else _);split
 ·exact a2z _ _ _ hr.1 (by omega)
 ·exact hr.1
section
variable{lt:Nat->Nat->Bool}
structure fY(lt:Nat->Nat->Bool):Prop where
 as:∀{i j},lt i j=true->lt j i=false
 tr:∀{i j k},lt j i=false->lt k j=false->lt k i=false
def SK(lt:Nat->Nat->Bool)(i j:Nat):Prop:=lt j i=false/\(lt i j=true\/ i<j)
theorem fY.lt_le(O:fY lt){a b c:Nat}(h1:lt a b=true)(h2:lt c b=false):lt a c=true:=by
 cases e:lt a c with
 |true=>rfl
 |false=>
  have:=O.tr h2 e;rw[h1]at this;cases this
theorem fY.le_lt(O:fY lt){a b c:Nat}(h1:lt b a=false)(h2:lt b c=true):lt a c=true:=by
 cases e:lt a c with
 |true=>rfl
 |false=>
  have:=O.tr e h1;rw[h2]at this;cases this
structure Pf(n:Nat)(p:Array Nat)(a:Nat):Prop where
 sz:p.size=n
 pm:p.Perm (List.toArray (List.range n))
 un:∀k,a<=k->k<n->p.getD k 0=k
 pr:∀k,k<a->p.getD k 0<a
def Sd(lt:Nat->Nat->Bool)(p:Array Nat)(a:Nat):Prop:=∀i j,i<j->j<a->SK lt (p.getD i 0) (p.getD j 0)
def Dd(lt:Nat->Nat->Bool)(p:Array Nat)(a:Nat):Prop:=∀i j,i<j->j<a->SK lt (p.getD j 0) (p.getD i 0)
theorem Pf.up{a:Nat}{p:Array Nat}(h:Pf n p a){b:Nat}(hab:a<=b)(hb:b<=n):Pf n p b:=by
 refine⟨h.sz,h.pm,fun k h1 h2=>h.un k (by omega) h2,fun k hk=> ?_⟩
 rcases Nat.lt_or_ge k a with h1|h1
 ·have:=h.pr k h1;omega
 ·rw[h.un k h1 (by omega)];exact hk
theorem Pf.rev{a:Nat}{p:Array Nat}(h:Pf n p a)(ha:a<=n)(hi:i<=a):Pf n (kas_rev p i a) a:=by
 refine⟨by rw[a3L];exact h.sz,(a9N _ _ _).trans h.pm,fun k h1 h2=> ?_,fun k hk=> ?_⟩
 ·rw[nO hi (by rw[h.sz];exact ha),if_neg (by omega)]
  exact h.un k h1 h2
 ·rw[nO hi (by rw[h.sz];exact ha)]
  split
  ·exact h.pr _ (by omega)
  ·exact h.pr _ hk
theorem a0j{p:Array Nat}:∀(f m:Nat),m<=bF lt (kas_asc p f m)/\bF lt (kas_asc p f m)<=m+ f/\(∀k,m<=k->k<bF lt (kas_asc p f m)->lt (p.getD k 0) (p.getD (k- 1) 0)=false)/\(bF lt (kas_asc p f m)<m+ f->lt (p.getD (bF lt (kas_asc p f m)) 0) (p.getD (bF lt (kas_asc p f m)- 1) 0)=true)
 |0,m=>⟨Nat.le_refl _,Nat.le_refl _,fun k h1 h2=>absurd h2 (Nat.not_lt.mpr h1),fun h=>absurd h (Nat.lt_irrefl _)⟩
 |f+ 1,m=>by
  have e:bF lt (kas_asc p (f+ 1) m)=bF lt (if lt (p.getD m 0) (p.getD (m- 1) 0)=true then KasT.ret m else kas_asc p f (m+ 1)):=rfl;rw[e];by_cases h:lt (p.getD m 0) (p.getD (m- 1) 0)=true
  ·rw[if_pos h]
   exact⟨Nat.le_refl _,(show m<=m+ (f+ 1)by omega),fun k h1 h2=>absurd h2 (Nat.not_lt.mpr h1),fun _=>h⟩
  ·rw[if_neg h]
   obtain⟨h1,h2,h3,h4⟩:=a0j (p:=p) f (m+ 1);refine⟨by omega,by omega,fun k a b=> ?_,fun a=>h4 (by omega)⟩
   rcases Nat.lt_or_ge m k with c|c
   ·exact h3 k (by omega) b
   ·have:k=m:=by omega
    rw[this]
    cases e2:lt (p.getD m 0) (p.getD (m- 1) 0)with
    |false=>rfl
    |true=>exact absurd e2 h
theorem Sd.asc(O:fY lt){p:Array Nat}{a:Nat}(hp:Pf n p a)(h:Sd lt p a)(h1:1<=a):∀m,a<=m->m<=n->(∀k,a<=k->k<m->lt (p.getD k 0) (p.getD (k- 1) 0)=false)->Sd lt p m:=by
 intro m hm;obtain⟨d,rfl⟩:=Nat.exists_eq_add_of_le hm;clear hm
 induction d with
 |zero=>exact fun _ _=>h
 |succ d ih=>
  intro hn hs i j hij hj;have ihm:=ih (by omega) fun k x y=>hs k x (by omega)
  rw[show a+ (d+ 1)=(a+ d)+ 1 by omega]at hs hn hj
  have hm:a<=a+ d:=by omega
  generalize a+ d=m at ihm hs hn hj hm
  rcases Nat.lt_or_ge j m with c|c
  ·exact ihm i j hij c
  ·have ej:j=m:=by omega
   subst ej;have hl:=hs j hm (by omega);have hpm:=(hp.up hm (by omega)).pr i (by omega);have ej:=hp.un j hm (by omega);refine⟨?_,.inr (by rw[ej];exact hpm)⟩
   rcases Nat.lt_or_ge i (j- 1)with d|d
   ·exact O.tr (ihm i (j- 1) d (by omega)).1 hl
   ·have:i=j- 1:=by omega
    rw[this];exact hl
structure Dn(lt:Nat->Nat->Bool)(n:Nat)(p:Array Nat)(m q:Nat):Prop where
 qm:q+ 1<=m
 mn:m<=n
 f:Pf n p (m- (q+ 1))
 d:Dd lt p (m- q)
 e:∀k,m- q<=k->k<m->lt k (k- 1)=false/\lt (k- 1) k=false
theorem a5k(O:fY lt){b q:Nat}(e:∀k,b+ 1<=k->k<b+ (q+ 1)->lt k (k- 1)=false/\lt (k- 1) k=false)(d:Nat):d<=q->lt (b+ d) b=false/\lt b (b+ d)=false:=by
 induction d with
 |zero=>
  intro _
  have:lt b b=false:=by
   cases e:lt b b with
   |false=>rfl
   |true=>have:=O.as e;rw[e]at this;exact this
  exact⟨this,this⟩
 |succ d ih=>
  intro hd;have h1:=ih (Nat.le_of_succ_le hd);have h2:=e (b+ (d+ 1)) (by omega) (by omega);have h2:lt (b+ (d+ 1)) (b+ d)=false/\lt (b+ d) (b+ (d+ 1))=false:=h2;exact⟨O.tr h1.1 h2.1,O.tr h2.2 h1.2⟩
theorem Dn.flush(O:fY lt){p:Array Nat}{m q:Nat}(D:Dn lt n p m q){p':Array Nat}(hp:p'=if q>0 then kas_rev p (m- (q+ 1)) m else p):Pf n p' m/\Dd lt p' m/\lt (p'.getD (m- 1) 0) (m- 1)=false/\lt (m- 1) (p'.getD (m- 1) 0)=false:=by
 obtain⟨qm,mn,f,d,e⟩:=D;obtain⟨b,rfl⟩:∃b,m=b+ (q+ 1):=⟨m- (q+ 1),(Nat.sub_add_cancel qm).symm⟩;rw[Nat.add_sub_cancel]at f hp;rw[show b+ (q+ 1)- q=b+ 1 by omega]at d e;have ee:=a5k O e;have fm:=f.up (Nat.le_add_right _ _) mn;have un:∀t,t<=q->p.getD (b+ t) 0=b+ t:=fun t ht=>f.un _ (Nat.le_add_right _ _) (Nat.lt_of_lt_of_le (Nat.add_lt_add_left (Nat.lt_succ_of_le ht) b) mn)
 by_cases h0:q>0
 ·rw[if_pos h0]at hp
  subst hp;have r:=fun k=>nO (p:=p) (k:=k) (Nat.le_add_right b (q+ 1)) (by rw[f.sz];exact mn)
  have u:∀t,t<=q->(kas_rev p b (b+ (q+ 1))).getD (b+ t) 0=b+ (q- t):=fun t ht=>by
   rw[r,if_pos ⟨Nat.le_add_right _ _,Nat.add_lt_add_left (Nat.lt_succ_of_le ht) b⟩,show b+ (b+ (q+ 1))- 1- (b+ t)=b+ (q- t)by omega,un _ (Nat.sub_le _ _)]
  have g:∀k,k<b->(kas_rev p b (b+ (q+ 1))).getD k 0=p.getD k 0:=fun k hk=>by
   rw[r,if_neg (fun h=>absurd h.1 (Nat.not_le.mpr hk))]
  refine⟨fm.rev mn (Nat.le_add_right _ _),fun i j hij hj=> ?_,?_⟩
  ·rcases Nat.lt_or_ge j b with c|c
   ·rw[g j c,g i (Nat.lt_trans hij c)]
    exact d i j hij (Nat.lt_succ_of_lt c)
   ·obtain⟨t,rfl⟩:=Nat.exists_eq_add_of_le c
    have ht:t<=q:=Nat.le_of_lt_succ (Nat.lt_of_add_lt_add_left hj);rw[u t ht];have e1:=ee (q- t) (Nat.sub_le _ _)
    rcases Nat.lt_or_ge i b with x|x
    ·rw[g i x]
     have s:=d i b x (Nat.lt_succ_self b);rw[show p.getD b 0=b from un 0 (Nat.zero_le _)]at s;have l:lt b (p.getD i 0)=true:=s.2.resolve_right (fun h=>absurd (Nat.lt_trans h (f.pr i x)) (Nat.lt_irrefl _));exact⟨O.as (O.le_lt e1.2 l),.inl (O.le_lt e1.2 l)⟩
    ·obtain⟨t',rfl⟩:=Nat.exists_eq_add_of_le x
     have tt:=Nat.lt_of_add_lt_add_left hij;rw[u t' (Nat.le_trans (Nat.le_of_lt tt) ht)];exact⟨O.tr e1.2 (ee (q- t') (Nat.sub_le _ _)).1,.inr (by omega)⟩
  ·have e:=ee q (Nat.le_refl _)
   show lt ((kas_rev p b (b+ (q+ 1))).getD (b+ q) 0) (b+ q)=false/\lt (b+ q) ((kas_rev p b (b+ (q+ 1))).getD (b+ q) 0)=false;rw[u q (Nat.le_refl _),Nat.sub_self];exact⟨e.2,e.1⟩
 ·rw[if_neg h0]at hp
  subst hp;have q0:q=0:=Nat.eq_zero_of_not_pos h0;subst q0;have e:=ee 0 (Nat.le_refl _);refine⟨fm,d,?_⟩;show lt (p'.getD (b+ 0) 0) (b+ 0)=false/\lt (b+ 0) (p'.getD (b+ 0) 0)=false;rw[un 0 (Nat.le_refl _)];exact⟨e.1,e.2⟩
theorem wS(O:fY lt){n:Nat}:∀(f:Nat) (p:Array Nat) (m q:Nat),Dn lt n p m q->m+ f=n->Dn lt n (bF lt (kas_desc f p m q)).1 (bF lt (kas_desc f p m q)).2.1 (bF lt (kas_desc f p m q)).2.2
 |0,p,m,q,D,_=>D
 |f+ 1,p,m,q,D,hf=>by
  obtain⟨c,rfl⟩:∃c,m=c+ 1:=⟨m- 1,by have:=D.qm;omega⟩
  have cn:c+ 1<n:=by omega
  have hf':c+ 1+ 1+ f=n:=by omega
  have um:=D.f.un (c+ 1) (Nat.sub_le _ _) cn;have ul:p.getD (c+ 1- 1) 0=c:=D.f.un c (by rw[Nat.add_sub_add_right];exact Nat.sub_le _ _) (Nat.lt_of_succ_lt cn);have e:bF lt (kas_desc (f+ 1) p (c+ 1) q)=bF lt (if lt (p.getD (c+ 1) 0) (p.getD (c+ 1- 1) 0)=true then(if q>0 then kas_desc f (kas_rev p (c+ 1- (q+ 1)) (c+ 1)) (c+ 1+ 1) 0 else kas_desc f p (c+ 1+ 1) 0) else .ask (p.getD (c+ 1- 1) 0) (p.getD (c+ 1) 0) fun d=>if d=true then .ret (p,c+ 1,q) else kas_desc f p (c+ 1+ 1) (q+ 1)):=rfl;rw[e,um,ul];by_cases h:lt (c+ 1) c=true
  ·rw[if_pos h]
   have key:∀p',(p'=if q>0 then kas_rev p (c+ 1- (q+ 1)) (c+ 1) else p)->Dn lt n p' (c+ 1+ 1) 0:=fun p' hp=>by
    obtain⟨a1,a2,a3,a4⟩:=D.flush O hp;have a3:lt (p'.getD c 0) c=false:=a3;refine⟨Nat.le_add_left _ _,cn,a1,fun i j hij hj=> ?_,fun k h1 h2=>absurd h2 (Nat.not_lt.mpr h1)⟩
    rcases Nat.lt_or_ge j (c+ 1)with x|x
    ·exact a2 i j hij x
    ·have ej:j=c+ 1:=Nat.le_antisymm (Nat.le_of_lt_succ hj) x
     subst ej;rw[a1.un _ (Nat.le_refl _) cn];have l0:lt (c+ 1) (p'.getD c 0)=true:=O.lt_le h a3
     have l:lt (c+ 1) (p'.getD i 0)=true:=by
      rcases Nat.lt_or_ge i c with d|d
      ·exact O.lt_le l0 (a2 i c d (Nat.lt_succ_self c)).1
      ·rw[Nat.le_antisymm (Nat.le_of_lt_succ hij) d];exact l0
     exact⟨O.as l,.inl l⟩
   by_cases h0:q>0
   ·rw[if_pos h0]
    exact wS O f _ _ 0 (key _ (by rw[if_pos h0])) hf'
   ·rw[if_neg h0]
    exact wS O f _ _ 0 (key _ (by rw[if_neg h0])) hf'
  ·rw[if_neg h]
   have e2:bF lt (.ask c (c+ 1) fun d=>if d=true then KasT.ret (p,c+ 1,q) else kas_desc f p (c+ 1+ 1) (q+ 1))=bF lt (if lt c (c+ 1)=true then KasT.ret (p,c+ 1,q) else kas_desc f p (c+ 1+ 1) (q+ 1)):=rfl;rw[e2];by_cases h2:lt c (c+ 1)=true
   ·rw[if_pos h2];exact D
   ·rw[if_neg h2]
    refine wS O f p (c+ 1+ 1) (q+ 1) ⟨Nat.succ_le_succ D.qm,cn,by rw[Nat.add_sub_add_right];exact D.f,by rw[Nat.add_sub_add_right];exact D.d,fun k a b=> ?_⟩ hf'
    rcases Nat.lt_or_ge k (c+ 1)with x|x
    ·exact D.e k (by rw[Nat.add_sub_add_right]at a;exact a) x
    ·rw[Nat.le_antisymm (Nat.le_of_lt_succ b) x]
     exact⟨Bool.eq_false_iff.mpr h,Bool.eq_false_iff.mpr h2⟩
theorem a6d(O:fY lt){m:Nat}{p:Array Nat}(hp:Pf n p m)(hd:Dd lt p m)(h1:1<=m)(hm:m<=n):Pf n (bF lt (kas_tail3 m n p)).2 (bF lt (kas_tail3 m n p)).1/\Sd lt (bF lt (kas_tail3 m n p)).2 (bF lt (kas_tail3 m n p)).1/\1<=(bF lt (kas_tail3 m n p)).1/\(bF lt (kas_tail3 m n p)).1<=n:=by
 unfold kas_tail3;rw[pK];have f:=hp.rev hm (Nat.zero_le _);have s:Sd lt (kas_rev p 0 m) m:=fun i j hij hj=>by
  rw[nO (Nat.zero_le _) (by rw[hp.sz];exact hm),if_pos ⟨Nat.zero_le _,by omega⟩,nO (Nat.zero_le _) (by rw[hp.sz];exact hm),if_pos ⟨Nat.zero_le _,hj⟩];exact hd _ _ (by omega) (by omega)
 obtain⟨a1,a2,a3,_⟩:=a0j (lt:=lt) (p:=kas_rev p 0 m) (n- m) m;show Pf n (kas_rev p 0 m) (bF lt (kas_asc (kas_rev p 0 m) (n- m) m))/\Sd lt (kas_rev p 0 m) (bF lt (kas_asc (kas_rev p 0 m) (n- m) m))/\_;exact⟨f.up a1 (by omega),s.asc O f h1 _ a1 (by omega) a3,(show 1<=bF lt (kas_asc (kas_rev p 0 m) (n- m) m)by omega),(show bF lt (kas_asc (kas_rev p 0 m) (n- m) m)<=n by omega)⟩
theorem a3b(O:fY lt){m:Nat}{p:Array Nat}(D:Dn lt n p (m+ 1) 0)(hm:m+ 1<=n):Pf n (bF lt (kas_descPart m n p)).2 (bF lt (kas_descPart m n p)).1/\Sd lt (bF lt (kas_descPart m n p)).2 (bF lt (kas_descPart m n p)).1/\1<=(bF lt (kas_descPart m n p)).1/\(bF lt (kas_descPart m n p)).1<=n:=by
 unfold kas_descPart;rw[pK];have D':=wS O (n- (m+ 1)) p (m+ 1) 0 D (by omega);generalize bF lt (kas_desc (n- (m+ 1)) p (m+ 1) 0)=r at D';obtain⟨p',m',q'⟩:=r;have D':Dn lt n p' m' q':=D'
 have e:(if q'>0 then kas_tail3 m' n (kas_rev p' (m'- (q'+ 1)) m') else kas_tail3 m' n p')=kas_tail3 m' n (if q'>0 then kas_rev p' (m'- (q'+ 1)) m' else p'):=by split<;>rfl
 show Pf n (bF lt (if q'>0 then kas_tail3 m' n (kas_rev p' (m'- (q'+ 1)) m') else kas_tail3 m' n p')).2 _/\_;rw[e];obtain⟨a1,a2,_⟩:=D'.flush O rfl;exact a6d O a1 a2 (by have:=D'.qm;omega) D'.mn
theorem a5j:Pf n (List.toArray (List.range n)) 0:=by
 refine⟨by simp,Array.Perm.refl _,fun k _ hk=> ?_,fun k hk=>by omega⟩;rw[Array.getD_eq_getD_getElem?];simp[hk]
theorem a84(O:fY lt)(h1:1<=n):Pf n (bF lt (kas_count n (List.toArray (List.range n)))).2 (bF lt (kas_count n (List.toArray (List.range n)))).1/\Sd lt (bF lt (kas_count n (List.toArray (List.range n)))).2 (bF lt (kas_count n (List.toArray (List.range n)))).1/\1<=(bF lt (kas_count n (List.toArray (List.range n)))).1/\(bF lt (kas_count n (List.toArray (List.range n)))).1<=n:=by
 unfold kas_count;rw[pK];have f0:Pf n (List.toArray (List.range n)) 0:=a5j;generalize List.toArray (List.range n)=p at f0;have f1:=f0.up (show 0<=1 by decide) h1;have s1:Sd lt p 1:=fun i j hij hj=>by omega
 obtain⟨a1,a2,a3,a4⟩:=a0j (lt:=lt) (p:=p) (n- 1) 1;generalize bF lt (kas_asc p (n- 1) 1)=m at a1 a2 a3 a4;obtain⟨c,rfl⟩:∃c,m=c+ 1:=⟨m- 1,by omega⟩
 have mn:c+ 1<=n:=by omega
 have sm:=s1.asc O f1 (Nat.le_refl _) (c+ 1) a1 mn a3;have fm:=f1.up a1 mn;have g:∀k,k<n->p.getD k 0=k:=fun k hk=>f0.un k (Nat.zero_le _) hk
 by_cases e:c+ 1=n
 ·rw[if_pos (by simp[e])]
  exact⟨fm,sm,a1,mn⟩
 rw[if_neg (by simp[e])];have cn:c+ 1<n:=Nat.lt_of_le_of_ne mn e;have c0:c<n:=Nat.lt_of_succ_lt cn;have hl:=a4 (by omega);rw[Nat.add_sub_cancel,g _ cn,g c c0]at hl;by_cases hm:c+ 1>1
 ·rw[if_pos hm]
  have e2:∀T,bF lt (.ask (p.getD 0 0) (p.getD (c+ 1- 1) 0) fun d=>if d=true then KasT.ret (c+ 1,p) else T)=bF lt (if lt (p.getD 0 0) (p.getD (c+ 1- 1) 0)=true then KasT.ret (c+ 1,p) else T):=fun T=>rfl
  rw[e2,Nat.add_sub_cancel,g 0 h1,g c c0];by_cases hc:lt 0 c=true
  ·rw[if_pos hc]
   exact⟨fm,sm,a1,mn⟩
  ·rw[if_neg hc]
   have hc:lt 0 c=false:=Bool.eq_false_iff.mpr hc;have all:∀k,k<c+ 1->lt k 0=false/\lt 0 k=false:=fun k hk=>by
    have kn:=Nat.lt_trans hk cn
    have l0:lt k 0=false:=by
     rcases Nat.eq_zero_or_pos k with h0|h0
     ·subst h0
      cases e:lt 0 0 with
      |false=>rfl
      |true=>have:=O.as e;rw[e]at this;exact this
     ·have:=(sm 0 k h0 hk).1
      rw[g k kn,g 0 h1]at this;exact this
    refine⟨l0,?_⟩
    rcases Nat.lt_or_ge k c with d|d
    ·have:=(sm k c d (Nat.lt_succ_self c)).1
     rw[g k kn,g c c0]at this;exact O.tr this hc
    ·rw[Nat.le_antisymm (Nat.le_of_lt_succ hk) d];exact hc
   have cs:∀k,c- k<c+ 1:=fun k=>Nat.lt_succ_of_le (Nat.sub_le _ _)
   have gr:∀k,k<c+ 1->(kas_rev p 0 (c+ 1)).getD k 0=c- k:=fun k hk=>by
    rw[nO (Nat.zero_le _) (by rw[f0.sz];exact mn),if_pos ⟨Nat.zero_le _,hk⟩,Nat.zero_add,Nat.add_sub_cancel,g _ (Nat.lt_trans (cs k) cn)]
   have fr:=fm.rev mn (Nat.zero_le _);refine a3b O ⟨Nat.le_add_left _ _,cn,by rw[Nat.zero_add,Nat.add_sub_cancel];exact fr,fun i j hij hj=> ?_,fun k h1 h2=>absurd h2 (Nat.not_lt.mpr h1)⟩ cn
   rcases Nat.lt_or_ge j (c+ 1)with x|x
   ·rw[gr j x,gr i (Nat.lt_trans hij x)]
    exact⟨O.tr (all _ (cs j)).2 (all _ (cs i)).1,.inr (by omega)⟩
   ·have ej:j=c+ 1:=Nat.le_antisymm (Nat.le_of_lt_succ hj) x
    subst ej;rw[fr.un _ (Nat.le_refl _) cn,gr i hij];have l:lt (c+ 1) (c- i)=true:=O.lt_le (O.lt_le hl (all c (Nat.lt_succ_self c)).2) (all _ (cs i)).1;exact⟨O.as l,.inl l⟩
 ·rw[if_neg hm]
  have em:c=0:=by omega
  subst em;refine a3b O ⟨Nat.le_add_left _ _,cn,f1,fun i j hij hj=> ?_,fun k h1 h2=>absurd h2 (Nat.not_lt.mpr h1)⟩ cn
  have ej:i=0/\j=1:=by omega
  obtain⟨rfl,rfl⟩:=ej;rw[g 1 cn,g 0 h1];exact⟨O.as hl,.inl hl⟩
theorem yD(O:fY lt){p:Array Nat}{k:Nat}(hs:Sd lt p k):∀(f l r:Nat),l<=r->r<=k->r- l<=f->(∀j,j<l->lt (p.getD k 0) (p.getD j 0)=false)->(∀j,r<=j->j<k->lt (p.getD k 0) (p.getD j 0)=true)->
 bF lt (kas_place p k f l r)<=k/\(∀j,j<bF lt (kas_place p k f l r)->lt (p.getD k 0) (p.getD j 0)=false)/\∀j,bF lt (kas_place p k f l r)<=j->j<k->lt (p.getD k 0) (p.getD j 0)=true
 |0,l,r,h1,h2,h3,h4,h5=>by
  have:l=r:=by omega
  subst this;exact⟨h2,h4,h5⟩
 |f+ 1,l,r,h1,h2,h3,h4,h5=>by
  have e:bF lt (kas_place p k (f+ 1) l r)=bF lt (if l>=r then KasT.ret l else .ask (p.getD k 0) (p.getD ((l+ r)/ 2) 0) fun c=>if c=true then kas_place p k f l ((l+ r)/ 2) else kas_place p k f ((l+ r)/ 2+ 1) r):=rfl;rw[e];by_cases hlr:l>=r
  ·rw[if_pos hlr]
   have:l=r:=by omega
   subst this;exact⟨h2,h4,h5⟩
  rw[if_neg hlr];have e2:bF lt (.ask (p.getD k 0) (p.getD ((l+ r)/ 2) 0) fun c=>if c=true then kas_place p k f l ((l+ r)/ 2) else kas_place p k f ((l+ r)/ 2+ 1) r)=bF lt (if lt (p.getD k 0) (p.getD ((l+ r)/ 2) 0)=true then kas_place p k f l ((l+ r)/ 2) else kas_place p k f ((l+ r)/ 2+ 1) r):=rfl;rw[e2];by_cases hc:lt (p.getD k 0) (p.getD ((l+ r)/ 2) 0)=true
  ·rw[if_pos hc]
   refine yD O hs f l ((l+ r)/ 2) (by omega) (by omega) (by omega) h4 fun j a b=> ?_
   rcases Nat.lt_or_ge ((l+ r)/ 2) j with d|d
   ·exact O.lt_le hc (hs _ j d b).1
   ·have:j=(l+ r)/ 2:=by omega
    rw[this];exact hc
  ·rw[if_neg hc]
   have hc:lt (p.getD k 0) (p.getD ((l+ r)/ 2) 0)=false:=Bool.eq_false_iff.mpr hc;refine yD O hs f ((l+ r)/ 2+ 1) r (by omega) h2 (by omega) (fun j a=> ?_) h5
   rcases Nat.lt_or_ge j ((l+ r)/ 2)with d|d
   ·cases e3:lt (p.getD k 0) (p.getD j 0)with
    |false=>rfl
    |true=>
     have:=O.lt_le e3 (hs j ((l+ r)/ 2) d (by omega)).1;rw[hc]at this;cases this
   ·have:j=(l+ r)/ 2:=by omega
    rw[this];exact hc
theorem a21(O:fY lt){n:Nat}:∀(f:Nat) (p:Array Nat) (k:Nat),Pf n p k->Sd lt p k->k+ f=n->Pf n (bF lt (kas_bin f p k)) n/\Sd lt (bF lt (kas_bin f p k)) n
 |0,p,k,hp,hs,hk=>by
  have:k=n:=by omega
  subst this;exact⟨hp,hs⟩
 |f+ 1,p,k,hp,hs,hk=>by
  have e:bF lt (kas_bin (f+ 1) p k)=bF lt (kas_bin f (bubble p k (k- bF lt (kas_place p k k 0 k))) (k+ 1)):=pK _;rw[e];obtain⟨b1,b2,b3⟩:=yD O hs k 0 k (Nat.zero_le _) (Nat.le_refl _) (by omega) (fun j h=>by omega) (fun j h1 h2=>by omega);generalize bF lt (kas_place p k k 0 k)=l at b1 b2 b3
  have g:∀x,(bubble p k (k- l)).getD x 0=if x=l then p.getD k 0 else if l<x/\x<=k then p.getD (x- 1) 0 else p.getD x 0:=a3t b1 (by rw[hp.sz];omega)
  have uk:=hp.un k (Nat.le_refl _) (by omega);refine a21 O f _ (k+ 1) ⟨by rw[bubble_size];exact hp.sz,(bubble_perm _ _ _).trans hp.pm,fun x h1 h2=> ?_,fun x hx=> ?_⟩ (fun i j hij hj=> ?_) (by omega)
  ·rw[g,if_neg (by omega),if_neg (by omega)]
   exact hp.un x (by omega) h2
  ·rw[g]
   split
   ·rw[uk];omega
   ·split
    ·have:=hp.pr (x- 1) (by omega);omega
    ·have:=hp.pr x (by omega);omega
  ·rw[g i,g j]
   by_cases c1:i=l
   ·rw[if_pos c1,if_neg (by omega),if_pos (by omega)]
    have l1:=b3 (j- 1) (by omega) (by omega);exact⟨O.as l1,.inl l1⟩
   rw[if_neg c1];by_cases c2:j=l
   ·rw[if_pos c2,if_neg (by omega)]
    have:=hp.pr i (by omega);exact⟨b2 i (by omega),.inr (by rw[uk];exact this)⟩
   rw[if_neg c2];by_cases c3:l<i/\i<=k
   ·rw[if_pos c3,if_pos (by omega)]
    exact hs (i- 1) (j- 1) (by omega) (by omega)
   rw[if_neg c3];by_cases c4:l<j/\j<=k
   ·rw[if_pos c4]
    rcases Nat.lt_or_ge i (j- 1)with d|d
    ·exact hs i (j- 1) d (by omega)
    ·omega
   ·rw[if_neg c4]
    exact hs i j hij (by omega)
theorem a63(O:fY lt)(h:0<n):(bF lt (kas_sort n)).size=n/\(bF lt (kas_sort n)).Perm (List.toArray (List.range n))/\Sd lt (bF lt (kas_sort n)) n:=by
 unfold kas_sort;rw[pK];obtain⟨a1,a2,a3,a4⟩:=a84 O h;generalize bF lt (kas_count n (List.toArray (List.range n)))=r at a1 a2 a3 a4;by_cases hr:r.1<n
 ·rw[if_pos hr]
  have:max r.1 1=r.1:=by omega
  rw[this];obtain⟨b1,b2⟩:=a21 O (n- r.1) r.2 r.1 a1 a2 (by omega);exact⟨b1.sz,b1.pm,b2⟩
 ·rw[if_neg hr]
  have:r.1=n:=by omega
  rw[this]at a1 a2;exact⟨a1.sz,a1.pm,a2⟩
end
end L2
namespace L2
open PySem PySem.Spec PySem.W PyProof.Rows
section
variable{s:Shared}
structure uT(prog:Program)(w:World)(A:Around)(s:Shared)(vs:List Value)(κ:SortKind)(lt:Nat->Nat->Bool):Prop where
 kind:2<=vs.length->∀(h':Heap) (tk:Nat),(∀b o,s.heap.get? b=some o->h'.get? b=some o)->∀Q':SortKind->Shared->Prop,(∀tk',Q' κ {s with heap:=h',toks:=tk'})->wpAny (model prog w) A (keyKind' vs.toArray) Q' (fun _ _=>False) {s with heap:=h',toks:=tk}
 ask:∀(h':Heap) (tk:Nat),(∀b o,s.heap.get? b=some o->h'.get? b=some o)->∀(i j:Nat) (C:Bool->Shared->Prop),i<vs.length->j<vs.length->(∀tk',C (lt i j) {s with heap:=h',toks:=tk'})->kas_ask prog w A κ vs i j C {s with heap:=h',toks:=tk}
theorem a8U{vs:List Value}{κ:SortKind}{lt:Nat->Nat->Bool}{P:PySem.Fin->Shared->Prop}(ho:s.heap.get? a=some (seqObj "list" vs.toArray n))(h64:vs.length<64)(O:fY lt){h0:Heap}(k0:∀b o,h0.get? b=some o->b≠a/\s.heap.get? b=some o)(C:uT prog w A {s with heap:=h0} vs κ lt)
 (hP:∀(h':Heap) (tk:Nat) (p:Array Nat) (e:Nat),p.size=vs.length->p.Perm (List.toArray (List.range vs.length))->Sd lt p vs.length->h'.get? a=some (seqObj "list" (List.toArray (p.toList.map fun i=>vs.getD i Value.none)) e)->(∀b o,b≠a->s.heap.get? b=some o->h'.get? b=some o)->P (.done (.ret .none)) {s with heap:=h',toks:=tk}):
 wpAny (model prog w) A (Builtin.«list.sort» ⟨[.ref a],[]⟩) P E s:=by
 have ha:a<s.heap.objs.size:=Heap.lt_size ho;have s1:=Heap.SameBut.update s.heap a (Obj.mapSeq fun _=>(#[]:Array Value));obtain⟨e1,ho1⟩:∃e1,(s.heap.update a (Obj.mapSeq fun _=>(#[]:Array Value))).get? a=some (seqObj "list" #[] e1):=⟨_,get?_update_seq ho fun _=> #[]⟩;have keep:∀b o,b≠a->s.heap.get? b=some o->(((s.heap.update a (Obj.mapSeq fun _=>(#[]:Array Value))).push (seqObj "tuple" vs.toArray 0)).push (seqObj "list" #[] 0)).get? b=some o:=fun b o n q=>Heap.get?_push_of_some _ (Heap.get?_push_of_some _ ((s1.2 b n).trans q))
 have oa:(((s.heap.update a (Obj.mapSeq fun _=>(#[]:Array Value))).push (seqObj "tuple" vs.toArray 0)).push (seqObj "list" #[] 0)).get? a=some (seqObj "list" #[] e1):=Heap.get?_push_of_some _ (Heap.get?_push_of_some _ ho1);rw[list_sort_plain];refine wpAny_bind (listItems_at ho rfl ?_);refine wpAny_bind (listUpdate_at ho rfl ?_ (by rw[List.size_toArray,sizeLine_eq];omega) (Nat.zero_le _));refine wpAny_bind (seqEpoch_at ho1 rfl ?_);refine wpAny_bind (wpAny_newTuple ?_ (by show vs.length<=_;rw[sizeLine_eq];omega));refine wpAny_bind (wpAny_newList ?_ (Nat.zero_le _));refine wpAny_holding ?_;show wpAny (model prog w) A _ P E {s with heap:=((s.heap.update a (Obj.mapSeq fun _=>(#[]:Array Value))).push (seqObj "tuple" vs.toArray 0)).push (seqObj "list" #[] 0)}
 generalize ((s.heap.update a (Obj.mapSeq fun _=>(#[]:Array Value))).push (seqObj "tuple" vs.toArray 0)).push (seqObj "list" #[] 0)=h1 at keep oa|-
 dsimp only;have fin:∀(st':SortSt) (tk:Nat) (p:Array Nat),p.size=vs.length->p.Perm (List.toArray (List.range vs.length))->Sd lt p vs.length->(arrOf st').map (·.2)=List.toArray (p.toList.map fun i=>vs.getD i Value.none)->failedOf st'=none->
  wpAny (model prog w) A (do
   let touched:=(<- seqEpoch a) !=e1
   Builtin.List.listUpdate (.ref a) fun _=>(arrOf st').map (·.2)
   if let some e:=failedOf st' then rule "list.sort.comparison-raised";throw e
   if touched then rule "list.sort.modified";raiseError "ValueError" "list modified during sort"
   ret .none) P E {s with heap:=h1,toks:=tk}:=fun st' tk p z1 z2 z3 hout hf=>by
  have hsz:(List.toArray (p.toList.map fun i=>vs.getD i Value.none)).size=vs.length:=by rw[List.size_toArray,List.length_map,Array.length_toList,z1]
  rw[hout];have s2:=Heap.SameBut.update h1 a (Obj.mapSeq fun _=>List.toArray (p.toList.map fun i=>vs.getD i Value.none));obtain⟨c2,hc2⟩:∃c2,(h1.update a (Obj.mapSeq fun _=>List.toArray (p.toList.map fun i=>vs.getD i Value.none))).get? a=some (seqObj "list" (List.toArray (p.toList.map fun i=>vs.getD i Value.none)) c2):=⟨_,get?_update_seq oa fun _=>List.toArray (p.toList.map fun i=>vs.getD i Value.none)⟩;refine wpAny_bind (seqEpoch_at (s:={s with heap:=h1,toks:=tk}) oa rfl ?_);refine wpAny_bind (listUpdate_at (s:={s with heap:=h1,toks:=tk}) oa rfl ?_ (Nat.zero_le _) (Nat.le_trans (Nat.le_of_eq hsz) (by rw[sizeLine_eq];omega)));rw[hf];simp only[bne_self_eq_false,Bool.false_eq_true,if_false];refine wpAny_pure (hP _ tk p c2 z1 z2 z3 hc2 fun b o n q=>(s2.2 b n).trans (keep b o n q))
 by_cases h2:vs.toArray.size<2
 ·rw[if_pos h2,if_pos h2]
  have hl:vs.length<2:=by rw[List.size_toArray]at h2;exact h2
  refine wpAny_bind (wpAny_pure ?_);refine wpAny_bind (wpAny_pure ?_);refine fin _ s.toks (List.toArray (List.range vs.length)) (by simp) (Array.Perm.refl _) (fun i j hij hj=>by omega) ?_ rfl;show((vs.toArray.zip vs.toArray).map (·.2))=_
  cases vs with
  |nil=>simp
  |cons v t=>
   cases t with
   |nil=>simp
   |cons _ _=>exact absurd hl (by rw[List.length_cons,List.length_cons];omega)
 ·rw[if_neg h2,if_neg h2]
  have h2:2<=vs.length:=by rw[List.size_toArray]at h2;omega
  have kk:∀b o,h0.get? b=some o->h1.get? b=some o:=fun b o q=>keep b o (k0 b o q).1 (k0 b o q).2
  refine wpAny_bind (wpAny_mono (C.kind h2 h1 s.toks kk (fun κ' s'=>κ'=κ/\∃tk,s'={s with heap:=h1,toks:=tk}) fun tk'=>⟨rfl,tk',rfl⟩) ?_ fun _ _ e=>e.elim);rintro κ' s' ⟨rfl,tk,rfl⟩
  have est:SortSt.mk' κ' (vs.toArray.zip vs.toArray) #[] 7 none=kas_st κ' (pairsOf vs) (List.toArray (List.range vs.length)):=by
   have e:=kas_range (pairsOf vs);rw[pairsOf_size]at e;show SortSt.mk' κ' (pairsOf vs) #[] 7 none=SortSt.mk' κ' ((List.toArray (List.range vs.length)).map (kas_item (pairsOf vs))) #[] 7 none;rw[e]
  have ask:(kas_sort vs.length).kasWp (kas_ask prog w A κ' vs) (fun p s'=>p=bF lt (kas_sort vs.length)/\∃tk,s'={s with heap:=h1,toks:=tk}) {s with heap:=h1,toks:=tk}:=by
   refine OkK.wp (J:=fun s'=>∃tk,s'={s with heap:=h1,toks:=tk}) (lt:=lt) (n:=vs.length) (fun i j C' s' hi hj js hC=> ?_) (a7i (by omega)) ⟨tk,rfl⟩ fun s' js=>⟨rfl,js⟩
   obtain⟨tk2,rfl⟩:=js;exact C.ask h1 tk2 kk i j C' hi hj fun tk3=>hC _ ⟨tk3,rfl⟩
  rw[kas_ask_eq]at ask;have run:=kas_runs (E:=E) (Q:=fun _ st' s'=>∃p:Array Nat,p.size=vs.length/\arrOf st'=p.map (kas_item (pairsOf vs))/\failedOf st'=none/\p=bF lt (kas_sort vs.length)/\∃tk,s'={s with heap:=h1,toks:=tk})
   h2 h64 (fun p' st' s' a1 a2 a3 a4=>⟨p',a1,a2,a3,a4⟩) ask
  rw[<- est]at run;refine wpAny_bind (wpAny_mono run ?_ fun _ _ e=>e);rintro⟨⟨⟩,st'⟩ s' ⟨p,hp,har,hf,hrun,tk3,rfl⟩
  have hout:(arrOf st').map (·.2)=List.toArray (p.toList.map fun i=>vs.getD i Value.none):=by
   apply Array.toList_inj.mp;rw[har,Array.map_map,Array.toList_map];exact List.map_congr_left fun i _=>by show(kas_item (pairsOf vs) i).2=_;rw[kas_item_eq]
  obtain⟨b1,b2,b3⟩:=a63 O (n:=vs.length) (by omega);exact fin st' tk3 p hp (by rw[hrun];exact b2) (by rw[hrun];exact b3) hout hf
theorem a8T{vs:List Value}{κ:SortKind}{lt:Nat->Nat->Bool}(hl:s.heap.IsList l vs.toArray)(h64:vs.length<64)(O:fY lt)(C:uT prog w A.in1.in1 s vs κ lt)
 (hQ:∀(h':Heap) (tk:Nat) (p:Array Nat) (D:Addr) (e:Nat),s.heap.objs.size<=D->p.size=vs.length->p.Perm (List.toArray (List.range vs.length))->Sd lt p vs.length->h'.get? D=some (seqObj "list" (List.toArray (p.toList.map fun i=>vs.getD i Value.none)) e)->(∀b o,s.heap.get? b=some o->h'.get? b=some o)->Q (.ref D) {s with heap:=h',toks:=tk}):
 wpAny (model prog w) A (call (.builtin "sorted") [.ref l]) Q E s:=by
 refine Calls.call_function_entry kind_sorted plain_sorted entry_sorted (args_sorted1 _) ?_;unfold Builtin.«sorted»;refine wpAny_bind (m:=checkCount "sorted" 1 1 _) (wpAny_pure ?_);refine wpAny_bind (collect_list hl ?_ (by rw[sizeLine_eq];omega));refine wpAny_bind (wpAny_newList ?_ (by rw[sizeLine_eq];omega))
 have hsz:((s.heap.push (seqObj "list" #[] 0)).update s.heap.objs.size (Obj.mapSeq (· ++ vs.toArray))).objs.size=s.heap.objs.size+ 1:=by
  rw[Heap.size_update,size_push']
 have hoL:(((s.heap.push (seqObj "list" #[] 0)).update s.heap.objs.size (Obj.mapSeq (· ++ vs.toArray))).push (seqObj "list" vs.toArray 0)).get? (s.heap.objs.size+ 1)=some (seqObj "list" vs.toArray 0):=by
  rw[<- hsz];exact Heap.get?_push_size _ rfl
 have keep:∀b o,s.heap.get? b=some o->(((s.heap.push (seqObj "list" #[] 0)).update s.heap.objs.size (Obj.mapSeq (· ++ vs.toArray))).push (seqObj "list" vs.toArray 0)).get? b=some o:=fun b o q=>by
  have hlt:b<s.heap.objs.size:=Heap.lt_size q;rw[Heap.get?_push_ne _ _ _ (by rw[hsz];exact Nat.ne_of_lt (Nat.lt_succ_of_lt hlt)),Heap.get?_update_ne _ _ _ _ (Nat.ne_of_lt hlt),Heap.get?_push_ne _ _ _ (Nat.ne_of_lt hlt)];exact q
 show wpAny _ _ _ _ _ {s with heap:=((s.heap.push (seqObj "list" #[] 0)).update s.heap.objs.size (Obj.mapSeq (· ++ vs.toArray))).push (seqObj "list" vs.toArray 0)};rw[hsz]
 generalize ((s.heap.push (seqObj "list" #[] 0)).update s.heap.objs.size (Obj.mapSeq (· ++ vs.toArray))).push (seqObj "list" vs.toArray 0)=h1 at hoL keep|-
 refine wpAny_bind (wpAny_holding (wpAny_call_entry slot_list_sort ⟨_,hoL,rfl⟩ entry_list_sort ?body (args_list_sort _)))
 case body=>
  refine a8U (s:={s with heap:=h1}) (h0:=s.heap) hoL h64 O (fun b o q=>⟨Nat.ne_of_lt (Nat.lt_succ_of_lt (Heap.lt_size q)),keep b o q⟩) C fun h' tk p e z1 z2 z3 z4 z5=> ?_
  exact⟨_,rfl,wpAny_pure ⟨_,rfl,hQ h' tk p _ e (Nat.le_succ _) z1 z2 z3 z4 fun b o q=>z5 b o (Nat.ne_of_lt (Nat.lt_succ_of_lt (Heap.lt_size q))) (keep b o q)⟩⟩
end
section
theorem zH:∀{ys:List V} {us:List Value} {i:Nat},aW ys us->i<ys.length->aZ (ys.getD i .non) (us.getD i Value.none)
 |_,_,0,.cons h _,_=>h
 |_,_,i+ 1,.cons _ t,h=>by simpa using zH t (Nat.lt_of_succ_lt_succ h)
theorem a4m{ys:List V}{us:List Value}(r:aW ys us):∀{is:List Nat},(∀i∈is,i<ys.length)->aW (is.map fun i=>ys.getD i .non) (is.map fun i=>us.getD i Value.none)
 | [],_=> .nil
 |i::is,h=> .cons (zH r (h i List.mem_cons_self)) (a4m r fun j hj=>h j (List.mem_cons_of_mem _ hj))
theorem xK{p:Array Nat}(h:p.Perm (List.toArray (List.range n)))(hi:i∈p.toList):i<n:=by
 have:=h.toList.mem_iff.mp hi;simpa using this
theorem a70{κ:SortKind}{R:List V->Hp->(Nat->Nat->Bool)->Prop}(hR:∀(ae:List (Addr×Obj)) (s:Shared) (σ:St) (H:Hp) (ys:List V) (us:List Value) (lt:Nat->Nat->Bool),aC X ae σ H s->aW ys us->R ys H lt->uT X.prog X.w X.A.in1.in1 s us κ lt):
 jM X (.builtin "sorted") (fun xs H Q=>∃(l:Addr) (ys:List V) (lt:Nat->Nat->Bool),xs= [.ref l] /\aM X.K H l ys/\ys.length<64/\fY lt/\R ys H lt/\∀(D:Addr) (p:Array Nat),H D=none->p.size=ys.length->p.Perm (List.toArray (List.range ys.length))->Sd lt p ys.length->Q (.ref D) (upd H D (.lst (p.toList.map fun i=>ys.getD i .non)))):=by
 intro ae s σ H xs us Q I r h;obtain⟨l,ys,lt,rfl,hq,h64,O,hr,q⟩:=h;obtain⟨u,rfl,ru⟩:=r.one;cases ru;obtain⟨its,rv,pl,hz⟩:=I.list hq;have hl:ys.length=its.length:=rv.length;refine a8T pl.isList (by omega) O (hR ae s σ H ys its lt I rv hr) fun h' tk p D e hD z1 z2 z3 z4 z5=> ?_
 have hDn:H D=none:=I.hok.fresh hD;rw[<- hl]at z1 z2 z3;refine⟨.ref D,_,I.laid (t':=tk) (o:=.lst (p.toList.map fun i=>ys.getD i .non)) z5 hD ?_,rfl,q D p hDn z1 z2 z3⟩
 have lp:p.toList.length=ys.length:=by rw[Array.length_toList,z1]
 exact⟨by rw[List.length_map,lp];exact Nat.le_trans (Nat.le_of_lt h64) (by rw[sizeLine_eq];decide),_,e,a4m rv fun i hi=>xK z2 hi,z4⟩
end
theorem a11:bootBuiltins "sorted"=some (.builtin "sorted"):=by kernel_rfl
section
open PySem.SeqAt
open PySem.AutoSeq1 (wpAny_loadPart')
open PySem.MeetsSeq PySem.MeetsSeq2 PySem.MeetsSeq3
theorem a4k{ns:List Int}{x:Int}(h:ns[i]?=some x):ns.drop i=x::ns.drop (i+ 1):=by
 obtain⟨h1,h2⟩:=List.getElem?_eq_some_iff.mp h;rw[<- h2];exact List.drop_eq_getElem_cons h1
end
section
variable{s:Shared}
theorem a5M{Q:Bool->Shared->Prop}(h:Q true s):wpAny (model prog w) A (eqBool u u) Q E s:=by
 unfold eqBool;refine wpAny_holding ?_;show wpAny _ _ (if(u==u)=true then _ else _) Q E s;rw[if_pos (by simp)];exact wpAny_bind (wpAny_rule (wpAny_pure h))
end
noncomputable def mB (ss:List Str) (i j:Nat):Bool:=decide ((ss.getD i "").cps.toList<(ss.getD j "").cps.toList)
theorem a30(ss:List Str):fY (mB ss):=by
 refine⟨fun h=> ?_,fun h1 h2=> ?_⟩
 ·unfold mB at h|-
  rw[decide_eq_true_eq]at h;rw[decide_eq_false_iff_not];exact List.lt_asymm h
 ·unfold mB at h1 h2|-
  rw[decide_eq_false_iff_not]at h1 h2|-
  exact List.not_lt.mpr (List.le_trans (List.not_lt.mp h1) (List.not_lt.mp h2))
def qU(K:Fg)(H:Hp):List V->List Str->Prop:=Paired fun x m=>∃a v,x= .ref a/\bR K H a [.str m,v]
theorem a4w{K:Fg}{H:Hp}:∀{ys:List V} {ms:List Str} {i:Nat},qU K H ys ms->i<ys.length->∃a v,ys.getD i .non= .ref a/\bR K H a [.str (ms.getD i ""),v]
 |_,_,0,.cons h _,_=>h
 |_,_,i+ 1,.cons _ t,h=>by simpa using a4w t (Nat.lt_of_succ_lt_succ h)
section
theorem a4h{s:Shared}(I:aC X ae σ H s){v:V}(h:bR X.K H a [.str m,v]):∃(o:Obj) (t:Tok) (u:Value) (n:Nat),s.heap.get? a=some o/\o.cls= .type "tuple" /\o.data= .seq #[.str m t,u] n:=by
 obtain⟨its,rv,⟨o,ho,hc,n,hd⟩,_⟩:=I.tuple h;obtain⟨p,u,rfl,rp,ru⟩:=rv.two;obtain⟨t,rfl⟩:=rp;exact⟨o,t,u,n,ho,hc,hd⟩
theorem a4i{ae:List (Addr×Obj)}{s:Shared}{σ:St}{H:Hp}(I:aC X ae σ H s){h':Heap}(kk:∀b o,s.heap.get? b=some o->h'.get? b=some o):∀{ys:List V} {us:List Value} {ms:List Str},aW ys us->qU X.K H ys ms->∃fs,KatTups h' us fs/\(∀f∈fs,∃m t,f=Value.str m t)/\fs.length=us.length
 |_,_,_,.nil,.nil=>⟨[],.nil,fun _ h=>(by cases h),rfl⟩
 |_,_,_,.cons r t,.cons h hs=>by
  obtain⟨a,v,rfl,h⟩:=h;cases r;obtain⟨o,tk,u,n,ho,hc,hd⟩:=a4h I h;obtain⟨fs,h1,h2,h3⟩:=a4i I kk t hs;refine⟨_::fs,.cons (kk _ _ ho) hc hd rfl h1,fun f hf=> ?_,by simp[h3]⟩
  rcases List.mem_cons.mp hf with rfl|hf
  ·exact⟨_,tk,rfl⟩
  ·exact h2 f hf
theorem a9h{s:Shared}(I:aC X ae σ H s)(r:aW ys us){ms:List Str}(nd:ms.Nodup)(h:qU X.K H ys ms):uT X.prog X.w X.A.in1.in1 s us (tuples' true) (mB ms):=by
 have hl:ys.length=us.length:=r.length;have hm:ys.length=ms.length:=Paired.length h;have key:∀i,i<us.length->∃a o t u n,us.getD i Value.none= .ref a/\s.heap.get? a=some o/\o.cls= .type "tuple" /\o.data= .seq #[.str (ms.getD i "") t,u] n:=fun i hi=>by
  obtain⟨a,v,e1,e2⟩:=a4w h (i:=i) (by omega);have rr:=zH r (i:=i) (by omega);rw[e1]at rr;obtain⟨o,t,u,n,e3,e4,e5⟩:=a4h I e2;exact⟨a,o,t,u,n,rr,e3,e4,e5⟩
 refine⟨fun h2 h' tk kk Q' hq=> ?_,fun h' tk kk i j C hi hj hC=> ?_⟩
 ·obtain⟨fs,h1,h3,h4⟩:=a4i I kk r h
  refine kat_kind (T:=.type "str") (s:={s with heap:=h',toks:=tk}) h1 (by omega) (fun v hv=> ?_) (by decide) (hq tk);obtain⟨n,t,rfl⟩:=h3 v hv;exact .now
 ·obtain⟨a,o,t,u,n,e1,e2,_,e3⟩:=key i hi
  unfold kas_ask;by_cases e:i=j
  ·subst e
   rw[e1];refine kat_lt (kk _ _ e2) e3 (kk _ _ e2) e3 (kat_cons (eqBool_str ?_));rw[beq_self_eq_true];refine kat_yes (kat_cons (a5M (kat_yes (kat_nil ?_))));have:=hC tk;unfold mB at this;rw[decide_eq_false (List.lt_irrefl _)]at this;simpa using this
  ·obtain⟨b,o',t',u',n',f1,f2,_,f3⟩:=key j hj
   rw[e1,f1];have ne:ms.getD i ""≠ms.getD j "":=fun y=>by
    rw[List.getD_eq_getElem?_getD,List.getD_eq_getElem?_getD,List.getElem?_eq_getElem (show i<ms.length by omega),List.getElem?_eq_getElem (show j<ms.length by omega)]at y;exact e ((List.getElem_inj nd).mp y)
   refine kat_lt (kk _ _ e2) e3 (kk _ _ f2) f3 (kat_cons (eqBool_str ?_));rw[show (ms.getD i ""==ms.getD j "")=false by simpa using ne];exact kat_no (oneLt_str (hC tk))
theorem a22:jM X (.builtin "sorted") (fun xs H Q=>∃(l:Addr) (ys:List V) (lt:Nat->Nat->Bool),xs= [.ref l] /\aM X.K H l ys/\ys.length<64/\fY lt/\(∃ms:List Str,ms.Nodup/\qU X.K H ys ms/\lt=mB ms)/\∀(D:Addr) (p:Array Nat),H D=none->p.size=ys.length->p.Perm (List.toArray (List.range ys.length))->Sd lt p ys.length->Q (.ref D) (upd H D (.lst (p.toList.map fun i=>ys.getD i .non)))):=
 a70 (R:=fun ys H lt=>∃ms:List Str,ms.Nodup/\qU X.K H ys ms/\lt=mB ms) (κ:=tuples' true) fun ae s σ H ys us lt I r ⟨ms,e0,e1,e2⟩=>by
  subst e2;exact a9h I r e0 e1
end
end L2
open PySem
namespace L2
open PySem PySem.Spec PyProof.Rows
theorem a9Z{k:Nat}{name:Str}{body:List Stmt}{dV kV:Value}
 {osl:Array (Option Value)}(lk:K.lookup f=some ⟨oc,od,.func (W.fnOf name qual params body ai dV kV doc pm an ah ct),osl⟩)(hcd:W.codeIn K ah qual=true)(S:aY N ps ai)
 (len:∀vs H Q E,sp vs H Q E->vs.length=ps.length)
 (hbody:∀(A:Around) (ag:List Env) (s:Shared) (H:Hp) (vs:List V) (Q:VK) (E:XK),bV k (A.deeper (envOfC qual ai s.heap.objs.size f ah))->sp vs H Q E->
  ∃t,uA (dF aD P w K mg af N qual ai f ah A ag s H E).nox body t/\t {nx:=fun σ H'=>∀g,lL (dF aD P w K mg af N qual ai f ah A ag s H E).nox σ H' g->Q .non (dE g H'),rt:=fun _ _ _=>False} (iA N vs) H):
 fT P w K mg af aD (k+ 1) f (W.fnOf name qual params body ai dV kV doc pm an ah ct) ps sp:=by
 refine⟨len,fun A ag s H args us vs Q E hr e0 hb r hsp=> ?_⟩;have hl:=len _ _ _ _ hsp;have KX:K.In s.heap:=e0.mod.kin.keeps fun b o e=>(e0.bs b o e).1
 have lim:s.heap.NoLimit:=e0.mod.nolimit.keeps fun b o e=>(e0.bs b o e).1
 have hkind:∀y∈ps.zip us,ai.names.lookup y.1=some .local\/ (ai.names.lookup y.1=some .cell/\((cellsFrom (s.heap.objs.size+ 1) ai.names []).lookup y.1).isSome=true):=fun⟨n,v⟩ hy=>by
  rcases S.par n (List.of_mem_zip hy).1 with q|q
  ·exact .inl q
  ·exact .inr ⟨q,W.cellsFrom_some _ _ _ (.inl q)⟩
 refine codeAny_call_function hr.depth (KX _ _ lk) rfl S.co S.gen rfl (W.codeRec_of KX hcd) (hb _ _ _ _ ?_);refine wpAny_newFunctionEnv_cells S.kind hkind fun env he s1 x=> ?_
 subst he;refine⟨lim.keeps x.toInCall.keep,codeAny_func ?_⟩;obtain⟨t,ht,hq⟩:=hbody A ag s H vs Q E (hr.deeper _) hsp;have I0:aC (dF aD P w K mg af N qual ai f ah A ag s H E) [] (iA N vs) H s1:=a2a S hr.hd e0 hl r x;have I:aC (dF aD P w K mg af N qual ai f ah A ag s H E).nox [] (iA N vs) H s1:=⟨⟨I0.ok.mod,I0.ok.kind,I0.ok.glob,I0.ok.blt,I0.ok.above,I0.ok.inj,I0.ok.has,I0.ok.cab,I0.ok.hd,I0.ok.frames,I0.ok.stk,I0.ok.exf,I0.ok.bs,I0.ok.bsz,I0.ok.noex,I0.ok.exfs,I0.ok.funs,I0.ok.frf⟩,I0.os,I0.bare,I0.base,I0.loc,I0.cell,I0.free,I0.freeC,I0.pin,I0.hok,I0.len⟩;refine wpAny_mono (ht [] s1 (iA N vs) H _ I hq) (fun fl s' hs=> ?_) fun e s' hs=>False.elim hs
 cases fl with
 |ret u=>
  obtain⟨_,_,_,_,_,q⟩:=hs;exact False.elim q
 |next=>
  obtain⟨σ',H',J,q⟩:=hs;obtain⟨g,L,hg⟩:=a7r J;have hnew:∀b o,s.heap.get? b=some o->g b=none:=fun b o e=>by
   cases z:g b with
   |none=>rfl
   |some ob=>
    exfalso;obtain⟨x',hx'⟩:∃y,(dF aD P w K mg af N qual ai f ah A ag s H E).nox.env.cells.lookup y=some b:=(hg b ob z).2.2;exact absurd (Nat.lt_of_lt_of_le (Heap.lt_size e) (J.ok.cab x' b rfl hx')) (Nat.lt_irrefl _)
  have hB:Un (gH ag) [] H H' s.heap s'.heap:=J.base;refine⟨.non,dE g H',J.os,J.bare,⟨hB.keep,hB.slot,fun b o e n hx=> ?_,hB.there,fun b xs z=> ?_,fun b o xs z=> ?_,fun b ps z=> ?_⟩,zL J.hok fun b o z=>⟨(hg b o z).1,(hg b o z).2.1⟩,rfl,q g L⟩
  ·rw[dM (hnew b o e)]
   exact hB.free b o e n hx
  ·have:=hB.tups b xs z
   cases y:g b with
   |none=>rw[dM y];exact this
   |some ob=>rw[(hg b ob y).1]at this;cases this
  ·have:=hB.frzs b o xs z
   cases y:g b with
   |none=>rw[dM y];exact this
   |some ob=>rw[(hg b ob y).1]at this;cases this
  ·obtain⟨more,this⟩:=hB.tbls b ps z
   refine⟨more,?_⟩
   cases y:g b with
   |none=>rw[dM y];exact this
   |some ob=>rw[(hg b ob y).1]at this;cases this
 |brk=>exact False.elim hs
 |cont=>exact False.elim hs
theorem oZ.knownN{st:Stmt}{k:Nat}{z:Addr×Addr}(D:oZ K mg x st z)(S:aY N ps (aL st))
 (hb:∀(kV doc pm:Value) (an:Option Addr) (ah ct:Value) (us:List Value),us.length=ps.length->bindArgs (W.fnOf x x (jP st) (eZ st) (aL st) .none kV doc pm an ah ct) ⟨us,[]⟩=pure (ps.zip us))
 (len:∀vs H Q E,sp vs H Q E->vs.length=ps.length)
 (hbody:∀(f:Addr) (A:Around) (ag:List Env) (s:Shared) (H:Hp) (vs:List V) (Q:VK) (E:XK),bV k (A.deeper (envOfC x (aL st) s.heap.objs.size f (.ref z.1)))->sp vs H Q E->
  ∃t,uA (dF aD P w K mg af N x (aL st) f (.ref z.1) A ag s H E).nox (eZ st) t/\t {nx:=fun σ H'=>∀g,lL (dF aD P w K mg af N x (aL st) f (.ref z.1) A ag s H E).nox σ H' g->Q .non (dE g H'),rt:=fun _ _ _=>False} (iA N vs) H):bD P w K mg af aD (k+ 1) x ps sp:=by
 obtain⟨f,fd,F,hm,hc⟩:=D.ex;refine⟨f,fd,?_,hm,F.kp,F.binds hb⟩;obtain⟨oc,od,kV,doc,pm,an,ah,ct,osl,rfl,lk,hcd⟩:=F.ex;have e:ah= .ref z.1:=hc;subst e;exact a9Z lk hcd S len fun A ag s H vs Q E hr hsp=>hbody f A ag s H vs Q E hr hsp
section
theorem na{a:Str}(h:W.findIn K (.ref C) a=some none):cE K C a:=h
theorem a3I{a b:Str}{p:Addr}{t0 t1:Tok}{m:Nat}{sl':Array (Option Value)}(X:K.In h)(G:h.Ns mainGlobals mg)(i:W.nsIn K mainGlobals x=some (some (.ref p)))(j:K.lookup p=some ⟨.type "tuple",od,.seq #[Value.str a t0,Value.str b t1] m,sl'⟩):∃p,mg x=some (.ref p)/\∀H,bR K H p [V.str a,V.str b]:=
 ⟨p,W.mg_of X G i,fun H=> .inr ⟨_,_,_,j,rfl,rfl,sl (by simp),.cons ⟨_,rfl⟩ (.cons ⟨_,rfl⟩ .nil)⟩⟩
theorem a6P{cls:Str}{st:Stmt}{c p:Addr}{wo:Value}{wd:Option Addr}{osl ws:Array (Option Value)}{kV:Value}{vs:Array Value}(X:K.In h)(G:h.Ns mainGlobals mg)(n:W.nsIn K mainGlobals cls=some (some (.ref C)))(a:W.findIn K (.ref C) m=some (some (.ref f)))(i:W.isFn K (.ref f)=true)
 (l:K.lookup f=some ⟨oc,od,.func (W.fnOf m qual (jP st) (eZ st) (aL st) .none kV doc pm an (.ref c) ct),osl⟩)(hc:W.codeIn K (.ref c) qual=true)(k:W.keepIn K (.ref f)=true)(w:K.lookup c=some ⟨wo,wd,.fields vs,ws⟩)(t:vs[11]?=some (.ref p))(hd:W.codeHdIn K c p=true):kO K mg cls m qual st (c,p):=a9B X G n a i l hc k hd
end
end L2
namespace My
open PySem L2
def aU(i:Nat):Stmt:=PySem.Challenge.pw_lazycols_k30_faults_and_mends.main.body.getD i (.Pass ⟨0,0,0,0⟩)
abbrev a1Z:Stmt:=aU 16
abbrev a4K:Stmt:=aU 17
abbrev a1d:Stmt:=aU 18
abbrev a4v:Stmt:=aU 19
abbrev a2g:Stmt:=aU 20
abbrev a1G:Stmt:=aU 21
abbrev a1o:Stmt:=aU 25
abbrev a4S:Stmt:=aU 26
abbrev a4z:Stmt:=aU 27
abbrev a3G:Stmt:=aU 28
abbrev a1Y:Stmt:=aU 36
abbrev a7n:Stmt:=aU 37
abbrev a3y:Stmt:=aU 46
abbrev a1x:Stmt:=aU 47
abbrev a4E:Stmt:=aU 48
abbrev a4a:Stmt:=aU 49
abbrev xA:Stmt:=aU 54
abbrev a1f:Stmt:=aU 55
abbrev a1D:Stmt:=aU 56
abbrev a2y:Stmt:=aU 57
abbrev a05:Stmt:=aU 58
abbrev a3V:Stmt:=aU 59
abbrev a4e:Stmt:=aU 60
abbrev gC:Stmt:=aU 61
abbrev lR:Stmt:=aU 62
abbrev a4U:Stmt:=bO (aU 29) 0
abbrev a3W:Stmt:=bO (aU 29) 1
abbrev a7M:Stmt:=bO (aU 29) 2
abbrev a8g:Stmt:=bO (aU 29) 3
abbrev vU:Stmt:=bO (aU 29) 4
abbrev a6L:Stmt:=bO (aU 29) 5
abbrev a1w:Stmt:=bO (aU 29) 6
abbrev a1O:Stmt:=bO (aU 29) 7
abbrev a3z:Stmt:=bO (aU 29) 11
abbrev a3F:Stmt:=bO (aU 29) 13
abbrev a4t:Stmt:=bO (aU 31) 0
abbrev a1c:Stmt:=bO (aU 31) 1
abbrev a4u:Stmt:=bO (aU 31) 2
abbrev a2Q:Stmt:=bO (aU 31) 3
abbrev a1n:Stmt:=bO (aU 31) 4
abbrev wK:Stmt:=bO (aU 31) 5
abbrev a2N:Stmt:=bO (aU 32) 0
abbrev a31:Stmt:=bO (aU 32) 1
abbrev a2J:Stmt:=bO (aU 33) 0
abbrev a2m:Stmt:=bO (aU 33) 1
abbrev a3w:Stmt:=bO (aU 34) 0
abbrev a4M:Stmt:=bO (aU 34) 1
abbrev a3O:Stmt:=bO (aU 41) 0
abbrev a3Y:Stmt:=bO (aU 41) 1
abbrev a2A:Stmt:=bO (aU 42) 0
abbrev a2k:Stmt:=bO (aU 42) 1
abbrev zP:Stmt:=bO (aU 42) 2
abbrev iI:Stmt:=bO (aU 42) 3
abbrev a14:Stmt:=bO (aU 42) 4
abbrev a3v:Stmt:=bO (aU 42) 5
abbrev a1r:Stmt:=bO (aU 43) 0
abbrev a1i:Stmt:=bO (aU 43) 1
abbrev a03:Stmt:=bO (aU 43) 2
abbrev a1F:Stmt:=bO (aU 43) 3
abbrev a2U:Stmt:=bO (aU 43) 4
abbrev a9b:Stmt:=bO (aU 43) 8
abbrev a47:Stmt:=bO (aU 43) 9
abbrev a6n:Stmt:=bO (aU 43) 11
abbrev a1P:Stmt:=bO (aU 43) 12
abbrev a1C:Stmt:=bO (aU 43) 16
abbrev a1z:Stmt:=bO (aU 43) 17
abbrev a4C:Stmt:=bO (aU 43) 18
abbrev a3g:Stmt:=bO (aU 43) 19
abbrev a2V:Stmt:=bO (aU 43) 20
abbrev a2E:Stmt:=bO (aU 43) 21
abbrev a3c:Stmt:=bO (aU 43) 22
abbrev a32:Stmt:=bO (aU 50) 0
abbrev tS:Stmt:=bO (aU 50) 1
abbrev a4O:Stmt:=bO (aU 51) 0
abbrev rW:Stmt:=bO (aU 51) 1
abbrev sN:Stmt:=bO (aU 51) 2
abbrev a3Z:Stmt:=bO (aU 52) 0
abbrev a3D:Stmt:=bO (aU 52) 1
abbrev a3N:Stmt:=bO (aU 52) 2
structure dQ(K:Fg)(mg:Str->Option Value)(C:Addr):Prop where
 c:mg "Table"=some (.ref C)
 cl:cG K C
 mks:W.makesIn K C=true
 kc:W.keepIn K (.ref C)=true
 hc:W.findIn K (.ref C) "__class__"=some (some (.builtin "object.__class__"))
 n_row_numbers:cE K C "row_numbers"
 n_fresh_number:cE K C "fresh_number"
 n_kept:cE K C "kept"
 m_init:bJ K C "__init__" "Table.__init__" a4U
 m_many:bJ K C "many" "Table.many" a3W
 m_numbers:bJ K C "numbers" "Table.numbers" a7M
 m_columns:bJ K C "columns" "Table.columns" a8g
 m_give:bJ K C "give" "Table.give" vU
 m_drop:bJ K C "drop" "Table.drop" a6L
 m_put:bJ K C "put" "Table.put" a1w
 m_at:bJ K C "at" "Table.at" a1O
 m_number_at:bJ K C "number_at" "Table.number_at" a3z
 m_check_column:bJ K C "check_column" "Table.check_column" a3F
structure cY(K:Fg)(mg:Str->Option Value)(C:Addr):Prop where
 c:mg "Board"=some (.ref C)
 cl:cG K C
 mks:W.makesIn K C=true
 kc:W.keepIn K (.ref C)=true
 hc:W.findIn K (.ref C) "__class__"=some (some (.builtin "object.__class__"))
 n_given:cE K C "given"
 n_rules:cE K C "rules"
 n_memory:cE K C "memory"
 n_order:cE K C "order"
 m_init:bJ K C "__init__" "Board.__init__" a4t
 m_has_column:bJ K C "has_column" "Board.has_column" a1c
 m_content:bJ K C "content" "Board.content" a4u
 m_set_column:bJ K C "set_column" "Board.set_column" a2Q
 m_empty_column:bJ K C "empty_column" "Board.empty_column" a1n
 m_outcome:bJ K C "outcome" "Board.outcome" wK
structure tX(K:Fg)(mg:Str->Option Value)(C:Addr):Prop where
 c:mg "TableTold"=some (.ref C)
 cl:cG K C
 mks:W.makesIn K C=true
 kc:W.keepIn K (.ref C)=true
 hc:W.findIn K (.ref C) "__class__"=some (some (.builtin "object.__class__"))
 n_boards:cE K C "boards"
 n_name:cE K C "name"
 n_size:cE K C "size"
 m_init:bJ K C "__init__" "TableTold.__init__" a2N
 m_take:bJ K C "take" "TableTold.take" a31
structure qZ(K:Fg)(mg:Str->Option Value)(C:Addr):Prop where
 c:mg "ColumnSet"=some (.ref C)
 cl:cG K C
 mks:W.makesIn K C=true
 kc:W.keepIn K (.ref C)=true
 hc:W.findIn K (.ref C) "__class__"=some (some (.builtin "object.__class__"))
 n_board:cE K C "board"
 n_column:cE K C "column"
 n_after:cE K C "after"
 n_before:cE K C "before"
 m_init:bJ K C "__init__" "ColumnSet.__init__" a2J
 m_take:bJ K C "take" "ColumnSet.take" a2m
structure uH(K:Fg)(mg:Str->Option Value)(C:Addr):Prop where
 c:mg "ValuePut"=some (.ref C)
 cl:cG K C
 mks:W.makesIn K C=true
 kc:W.keepIn K (.ref C)=true
 hc:W.findIn K (.ref C) "__class__"=some (some (.builtin "object.__class__"))
 n_board:cE K C "board"
 n_column:cE K C "column"
 n_place:cE K C "place"
 n_after:cE K C "after"
 n_before:cE K C "before"
 m_init:bJ K C "__init__" "ValuePut.__init__" a3w
 m_take:bJ K C "take" "ValuePut.take" a4M
structure mR(K:Fg)(mg:Str->Option Value)(C:Addr):Prop where
 c:mg "Trial"=some (.ref C)
 cl:cG K C
 mks:W.makesIn K C=true
 kc:W.keepIn K (.ref C)=true
 hc:W.findIn K (.ref C) "__class__"=some (some (.builtin "object.__class__"))
 n_finder:cE K C "finder"
 n_looked:cE K C "looked"
 n_lacking:cE K C "lacking"
 m_init:bJ K C "__init__" "Trial.__init__" a3O
 m_look:bJ K C "look" "Trial.look" a3Y
structure fO(K:Fg)(mg:Str->Option Value)(C:Addr):Prop where
 c:mg "Finder"=some (.ref C)
 cl:cG K C
 mks:W.makesIn K C=true
 kc:W.keepIn K (.ref C)=true
 hc:W.findIn K (.ref C) "__class__"=some (some (.builtin "object.__class__"))
 n_boards:cE K C "boards"
 n_found:cE K C "found"
 n_looked:cE K C "looked"
 m_init:bJ K C "__init__" "Finder.__init__" a2A
 m_value_of:bJ K C "value_of" "Finder.value_of" a2k
 m_attempt:bJ K C "attempt" "Finder.attempt" zP
 m_gathered:bJ K C "gathered" "Finder.gathered" iI
 m_settle:bJ K C "settle" "Finder.settle" a14
 m_knows:bJ K C "knows" "Finder.knows" a3v
structure gR(K:Fg)(mg:Str->Option Value)(C:Addr):Prop where
 c:mg "Sheet"=some (.ref C)
 cl:cG K C
 mks:W.makesIn K C=true
 kc:W.keepIn K (.ref C)=true
 hc:W.findIn K (.ref C) "__class__"=some (some (.builtin "object.__class__"))
 n_boards:cE K C "boards"
 n_changes:cE K C "changes"
 n_finder:cE K C "finder"
 m_init:bJ K C "__init__" "Sheet.__init__" a1r
 m_table:bJ K C "table" "Sheet.table" a1i
 m_give:bJ K C "give" "Sheet.give" a03
 m_rule:bJ K C "rule" "Sheet.rule" a1F
 m_put:bJ K C "put" "Sheet.put" a2U
 m_tables:bJ K C "tables" "Sheet.tables" a9b
 m_columns:bJ K C "columns" "Sheet.columns" a47
 m_many:bJ K C "many" "Sheet.many" a6n
 m_cell:bJ K C "cell" "Sheet.cell" a1P
 m_make:bJ K C "make" "Sheet.make" a1C
 m_board_of:bJ K C "board_of" "Sheet.board_of" a1z
 m_board_with:bJ K C "board_with" "Sheet.board_with" a4C
 m_board_for:bJ K C "board_for" "Sheet.board_for" a3g
 m_check_cell:bJ K C "check_cell" "Sheet.check_cell" a2V
 m_check_leans:bJ K C "check_leans" "Sheet.check_leans" a2E
 m_check_ring:bJ K C "check_ring" "Sheet.check_ring" a3c
structure tP(K:Fg)(mg:Str->Option Value)(C:Addr):Prop where
 c:mg "Rule"=some (.ref C)
 cl:cG K C
 mks:W.makesIn K C=true
 kc:W.keepIn K (.ref C)=true
 hc:W.findIn K (.ref C) "__class__"=some (some (.builtin "object.__class__"))
 n_function:cE K C "function"
 m_init:bJ K C "__init__" "Rule.__init__" a32
 v_init:ClsM K C "__init__"
 m_reckon:bJ K C "reckon" "Rule.reckon" tS
structure kN(K:Fg)(mg:Str->Option Value)(C:Addr):Prop where
 c:mg "Cells"=some (.ref C)
 cl:cG K C
 mks:W.makesIn K C=true
 kc:W.keepIn K (.ref C)=true
 hc:W.findIn K (.ref C) "__class__"=some (some (.builtin "object.__class__"))
 n_function:cE K C "function"
 n_names:cE K C "names"
 m_init:bJ K C "__init__" "Cells.__init__" a4O
 m_leans:bJ K C "leans" "Cells.leans" rW
 m_gather:bJ K C "gather" "Cells.gather" sN
 m_reckon:bJ K C "reckon" "Rule.reckon" tS
 isl:W.kitOne K (.ref C) (.type "list")=some false
 own:W.mroIn K C (.type "object")=some true/\W.specialIn K (.builtin "object.__class__") "__get__"=some (some (.builtin "getset_descriptor.__get__"))/\W.takesIn K (.builtin "object.__class__")=some true
structure kG(K:Fg)(mg:Str->Option Value)(C:Addr):Prop where
 c:mg "Mend"=some (.ref C)
 cl:cG K C
 mks:W.makesIn K C=true
 kc:W.keepIn K (.ref C)=true
 hc:W.findIn K (.ref C) "__class__"=some (some (.builtin "object.__class__"))
 n_function:cE K C "function"
 n_name:cE K C "name"
 m_init:bJ K C "__init__" "Mend.__init__" a3Z
 m_leans:bJ K C "leans" "Mend.leans" a3D
 m_gather:bJ K C "gather" "Mend.gather" a3N
 m_reckon:bJ K C "reckon" "Rule.reckon" tS
 isl:W.kitOne K (.ref C) (.type "list")=some false
 own:W.mroIn K C (.type "object")=some true/\W.specialIn K (.builtin "object.__class__") "__get__"=some (some (.builtin "getset_descriptor.__get__"))/\W.takesIn K (.builtin "object.__class__")=some true
structure bA(K:Fg)(mg:Str->Option Value):Prop where
 len:mg "len"=none
 isinstance:mg "isinstance"=none
 int:mg "int"=none
 bool:mg "bool"=none
 str:mg "str"=none
 all:mg "all"=none
 range:mg "range"=none
 abs:mg "abs"=none
 list:mg "list"=none
 tuple:mg "tuple"=none
 sorted:mg "sorted"=none
 reversed:mg "reversed"=none
 ValueError:mg "ValueError"=none
 g_LETTERS:∃t,mg "LETTERS"=some (.str ("abcdefghijklmnopqrstuvwxyz":Str) t)
 g_MOST_LETTERS:∃t,mg "MOST_LETTERS"=some (.int 8 t)
 g_ODD:∃p,mg "ODD"=some (.ref p)/\∀H,bR K H p [V.str ("fault":Str),V.str ("odd":Str)]
 g_MOST_ROWS:∃t,mg "MOST_ROWS"=some (.int 30 t)
 g_MOST_COLUMNS:∃t,mg "MOST_COLUMNS"=some (.int 8 t)
 g_MOST_TABLES:∃t,mg "MOST_TABLES"=some (.int 4 t)
 g_UNKNOWN:∃p,mg "UNKNOWN"=some (.ref p)/\∀H,bR K H p [V.str ("fault":Str),V.str ("unknown":Str)]
 g_MOST_NAMES:∃t,mg "MOST_NAMES"=some (.int 6 t)
 d_is_whole:dX K mg "is_whole" a1Z
 d_is_number:dX K mg "is_number" a4K
 d_is_name:dX K mg "is_name" a1d
 d_is_fault:dX K mg "is_fault" a4v
 d_is_value:dX K mg "is_value" a2g
 d_settled:dX K mg "settled" a1G
 d_check_size:dX K mg "check_size" a1o
 d_check_place:dX K mg "check_place" a4S
 d_check_value:dX K mg "check_value" a4z
 d_check_values:dX K mg "check_values" a3G
 d_ring_from:dX K mg "ring_from" a1Y
 d_way_to:dX K mg "way_to" a7n
 d_check_name:dX K mg "check_name" a3y
 d_checked_names:dX K mg "checked_names" a1x
 d_each_once:dX K mg "each_once" a4E
 d_look_in_turn:dX K mg "look_in_turn" a4a
 d_law_mixed:dX K mg "_law_mixed" xA
 d_law_value:dX K mg "_law_value" a1f
 d_law_strange:dX K mg "_law_strange" a1D
 d_law_settled:dX K mg "_law_settled" a2y
 d_law_noted:dX K mg "_law_noted" a05
 d_law_call:dX K mg "_law_call" a3V
 d_law_cell:dX K mg "_law_cell" a4e
 d_law_built:dX K mg "_law_built" gC
 d_law:dX K mg "law" lR
 notabs:W.noTabs K=true
 t_Table:∃C,dQ K mg C
 t_Board:∃C,cY K mg C
 t_TableTold:∃C,tX K mg C
 t_ColumnSet:∃C,qZ K mg C
 t_ValuePut:∃C,uH K mg C
 t_Trial:∃C,mR K mg C
 t_Finder:∃C,fO K mg C
 t_Sheet:∃C,gR K mg C
 t_Rule:∃C,tP K mg C
 t_Cells:∃C,kN K mg C
 t_Mend:∃C,kG K mg C
structure Tbs(h:Heap)(K:Fg)(mg:Str->Option Value):Prop where
 bs:∃z_law_built z_Finder_gathered:Addr×Addr,oZ K mg "_law_built" gC z_law_built/\kO K mg "Finder" "gathered" "Finder.gathered" iI z_Finder_gathered/\z_law_built.2≠z_Finder_gathered.2/\h.get? z_Finder_gathered.2=some (W.tabObj #[])
abbrev uF:Str:= "abcdefghijklmnopqrstuvwxyz"
def mC(c:Nat):Bool:= !(Builtin.Str.occurrences uF ⟨#[c]⟩ 0 uF.length 1).isEmpty
def mG(t:Str):Bool:=decide ((1:Int)<=t.length)&&decide ((t.length:Int)<=8)&&t.cps.toList.all mC
noncomputable def nQ:PyData->Bool
 | .int _=>true
 |_=>false
def iF:PyData->Bool
 | .int i=>decide ((if i<0 then-i else i)<10^ (60:Int).toNat)
 |_=>false
def fZ:PyData->Bool
 | .str t=>mG t
 |_=>false
def jW:PyData->Bool
 | .tuple [.str z,d]=>decide (z= "fault")&&fZ d
 |_=>false
def mE(d:PyData):Bool:=iF d||jW d
def wJ(d:PyData):Prop:=∀t,d= .str t->t.length<=1000
def iK(d:PyData):Prop:=∀ds,d= .tuple ds->∀e∈ds,wJ e
theorem lV{t:Str}(h:t.length<=1000):wJ (.str t):=fun z e=>by cases e;exact h
theorem a8e(h:gX d≠ .tup):iK d:=fun z e=>by subst e;exact absurd rfl h
theorem a5b(h:∀e∈ds,wJ e):iK (.tuple ds):=fun z e=>by cases e;exact h
section
inductive tG(K:Fg)(vs:List V)(H:Hp)(Q:VK)(E:XK):Prop
 |mk (x:_) (d:_):vs= [x] ->Dt K H x d->Q (.bl (nQ d)) H->tG K vs H Q E
theorem a5U:aY ["thing"] ["thing"] (aL a1Z):={}
theorem zE(T:bA K mg):bD P w K mg af aD 1 "is_whole" ["thing"] (tG K):=by
 refine T.d_is_whole.known a5U (fun _ _ _ _ _ _ us hl=>eU (fun _=>rfl) us hl) (fun vs H Q E h=> ?_) (fun f ah A ag s H vs Q E hr h=> ?_)
 ·obtain⟨x,a,rfl,_⟩:=h
  rfl
 ·obtain⟨x,d,rfl,hd,q⟩:=h
  refine⟨_,(aK (bH (qC (dC jZ rfl T.isinstance iM (aA (pv 0) (aA (iP T.int a5d) aG))) (qL (a5C (dC jZ rfl T.isinstance iM (aA (pv 0) (aA (iP T.bool a25) aG)))))))),?_⟩;refine⟨_,rfl,x,"int",d,_,rfl,hd,a5t K _,_,rfl,?_⟩;refine bY (fun h1=> ?_) (fun h1=> ?_)
  ·refine⟨_,rfl,x,"bool",d,_,rfl,hd,a3l K _,_,rfl,?_⟩
   have e:(!decide (gX d=Kd.bl))=nQ d:=by cases d<;>simp[gX,nQ]at h1|-
   show Q (.bl (!decide (gX d=Kd.bl))) H;rw[e];exact q
  ·have e:false=nQ d:=by cases d<;>simp[gX,nQ]at h1|-
   show Q (.bl false) H;rw[e];exact q
inductive lN(K:Fg)(vs:List V)(H:Hp)(Q:VK)(E:XK):Prop
 |mk (x:_) (d:_):vs= [x] ->Dt K H x d->wJ d->(∀H',aF H H'->Q (.bl (fZ d)) H')->lN K vs H Q E
theorem a8f:aY ["thing"] ["thing"] (aL a1d):={}
theorem nF(T:bA K mg):bD P w K mg af aD 1 "is_name" ["thing"] (lN K):=by
 refine T.d_is_name.known a8f (fun _ _ _ _ _ _ us hl=>eU (fun _=>rfl) us hl) (fun vs H Q E h=> ?_) (fun f ah A ag s H vs Q E hr h=> ?_)
 ·obtain⟨x,a,rfl,_⟩:=h
  rfl
 ·obtain⟨x,d,rfl,hd,hsh,q⟩:=h
  refine⟨_,(aJ (bI (PW.pt (iN (fS (dH (dC jZ rfl T.isinstance iM (aA (pv 0) (aA (iP T.str a13) aG))) (fun _=>rfl))) (kE (fS (a0Z rR rR bB (dC jX rfl T.len iR (aA (pv 0) aG)) (qD T.g_MOST_LETTERS)))))) (aK (bH oE)) bL)
   (aK (bH (dC (a1H rfl) rfl T.all a4I (aA (vV a4H rfl rfl (by decide) (a8W (pv 0)) (fun _ _ _ _ _=>rZ) (fun _ _ _ _ _=>(wH a6b (pv 0) (a45 T.g_LETTERS) (by with_unfolding_all rfl)))) aG))))),?_⟩
  refine⟨_,rfl,x,"str",d,_,rfl,hd,a1p K _,_,rfl,?_⟩;by_cases hk:gX d= .str
  ·obtain⟨t,rfl⟩:∃t,d= .str t:=by cases d<;>simp[gX]at hk|-
   cases hd;have ht:t.length<=1000:=hsh t rfl;refine bG ?_;refine⟨_,rfl,_,_,rfl,⟨sl ht,rfl⟩,_,_,rfl,rfl,_,rfl,?_⟩;refine bY (fun h1=> ?_) (fun h1=> ?_)
   ·refine⟨_,_,rfl,rfl,_,rfl,?_⟩
    refine bY (fun h2=> ?_) (fun h2=> ?_)
    ·have e:fZ (.str t)=false:=by
      show mG t=false;unfold mG
      have:decide ((t.length:Int)<=8)=false:=by simpa using h2
      rw[this,Bool.and_false,Bool.false_and]
     rw[<- e];exact q H (aF.refl H)
    ·have h8:t.cps.size<=8:=by
      have:(t.length:Int)<=8:=by simpa using h2
      show t.length<=8;omega
     refine⟨_,rfl,t,rfl,fun D hD=> ?_⟩;refine a9s (x:=t) (fun i ys H2=>ys=(t.cps.toList.take i).map (fun c=>V.bl (mC c))/\aF H H2) ⟨rfl,aF.new hD⟩ ?_ ?_
     ·rintro i c ys H2 hc h2D ⟨rfl,s2⟩
      have hi:i<t.cps.size:=(Array.getElem?_eq_some_iff.mp hc).1;refine⟨_,rfl,_,_,rfl,rfl,h2D,?_,?_,s2.on hD⟩
      ·rw[List.length_map,List.length_take,Array.length_toList]
       exact eD (by omega)
      ·rw[List.take_add_one,List.map_append,Array.getElem?_toList,hc]
       rfl
     ·rintro ys H2 h2D ⟨rfl,s2⟩
      refine⟨D,t.cps.toList.map mC,rfl,aM.of ?_,?_⟩
      ·rw[h2D,List.take_of_length_le (by simp),List.map_map]
       rfl
      ·have e:fZ (.str t)=(t.cps.toList.map mC).all id:=by
        show mG t=_;unfold mG;have e1:decide ((1:Int)<=t.length)=true:=h1
        have e2:decide ((t.length:Int)<=8)=true:=by simpa using h2
        rw[e1,e2,Bool.true_and,Bool.true_and,List.all_map];rfl
       rw[<- e];exact q H2 s2
   ·refine⟨_,rfl,?_⟩
    refine cI ?_
    have e:fZ (.str t)=false:=by
     show mG t=false;unfold mG
     have:decide ((1:Int)<=t.length)=false:=by simpa using h1
     rw[this,Bool.false_and,Bool.false_and]
    rw[<- e];exact q H (aF.refl H)
  ·rw[decide_eq_false hk]
   refine cI (cI ?_)
   have e:fZ d=false:=by cases d<;>simp[gX]at hk<;>rfl
   rw[<- e];exact q H (aF.refl H)
inductive a0b(K:Fg)(vs:List V)(H:Hp)(Q:VK)(E:XK):Prop
 |mk (x:_) (d:_):vs= [x] ->Dt K H x d->Q (.bl (iF d)) H->a0b K vs H Q E
theorem a81:aY ["thing"] ["thing"] (aL a4K):={}
theorem a9O(T:bA K mg):bD P w K mg af aD 2 "is_number" ["thing"] (a0b K):=by
 have G_is_whole:bD P w K mg af aD 1 "is_whole" ["thing"] (tG K):=zE T;refine T.d_is_number.known a81 (fun _ _ _ _ _ _ us hl=>eU (fun _=>rfl) us hl) (fun vs H Q E h=> ?_) (fun f ah A ag s H vs Q E hr h=> ?_)
 ·obtain⟨x,a,rfl,_⟩:=h
  rfl
 ·obtain⟨x,d,rfl,hd,q⟩:=h
  refine⟨_,(aK (bH (qC (bK G_is_whole hr.mn aO (aA (pv 0) aG)) (qL (wH zG (dC b0f rfl T.abs a7F (aA (pv 0) aG)) (bZ rT bB bB) (dA _)))))),?_⟩;refine⟨_,rfl,x,d,rfl,hd,_,rfl,?_⟩;refine bY (fun h1=> ?_) (fun h1=> ?_)
  ·obtain⟨i,rfl⟩:∃i,d= .int i:=by cases d<;>simp[nQ]at h1|-
   cases hd;exact⟨_,rfl,i,rfl,_,_,rfl,rfl,⟨by decide,by decide,by decide⟩,_,_,rfl,rfl,q⟩
  ·have e:iF d=false:=by cases d<;>simp[nQ]at h1<;>rfl
   show Q (.bl false) H;rw[<- e];exact q
inductive tW(K:Fg)(vs:List V)(H:Hp)(Q:VK)(E:XK):Prop
 |mk (x:_) (d:_):vs= [x] ->Dt K H x d->iK d->(∀H',aF H H'->Q (.bl (jW d)) H')->tW K vs H Q E
theorem a6c:aY ["thing"] ["thing"] (aL a4v):={}
theorem a7A(h:ds.length≠2):jW (.tuple ds)=false:=by
 match ds,h with
 | [],_=>rfl
 | [a],_=>cases a<;>rfl
 | [a,b],h=>exact absurd rfl h
 |a::b::c::r,_=>cases a<;>rfl
theorem a4W(h:dI K H xs ds)(l:xs.length=2):∃y z d1 d2,xs= [y,z] /\ds= [d1,d2] /\Dt K H y d1/\Dt K H z d2:=by
 cases h with
 |nil=>cases l
 |cons h2 t=>
  cases t with
  |nil=>cases l
  |cons h3 t2=>
   cases t2 with
   |nil=>exact⟨_,_,_,_,rfl,rfl,h2,h3⟩
   |cons _ _=>exact absurd l (by rw[List.length_cons,List.length_cons,List.length_cons];omega)
theorem a0q(T:bA K mg):bD P w K mg af aD 2 "is_fault" ["thing"] (tW K):=by
 have G_is_name:bD P w K mg af aD 1 "is_name" ["thing"] (lN K):=nF T;refine T.d_is_fault.known a6c (fun _ _ _ _ _ _ us hl=>eU (fun _=>rfl) us hl) (fun vs H Q E h=> ?_) (fun f ah A ag s H vs Q E hr h=> ?_)
 ·obtain⟨x,a,rfl,_⟩:=h
  rfl
 ·obtain⟨x,d,rfl,hd,hsh,q⟩:=h
  refine⟨_,(aJ (bI (PW.pt (iN (fS (dH (dC jZ rfl T.isinstance iM (aA (pv 0) (aA (iP T.tuple sC) aG))) (fun _=>rfl))) (kE (cR a4B (dC jX rfl T.len iR (aA (pv 0) aG)) bB (dA _))))) (aK (bH oE)) bL)
   (aK (bH (qC (dC jZ rfl T.isinstance iM (aA (cW fQ (pv 0) bB (fun _ _=>rfl)) (aA (iP T.str a13) aG))) (qC (wH lC (cW fQ (pv 0) bB (fun _ _=>rfl)) bT (dA _)) (qL (bK G_is_name hr.mn aO (aA (cW fQ (pv 0) bB (fun _ _=>rfl)) aG)))))))),?_⟩
  refine⟨_,rfl,x,"tuple",d,_,rfl,hd,tH K _,_,rfl,?_⟩;by_cases hk:gX d= .tup
  ·obtain⟨ds,rfl⟩:∃ds,d= .tuple ds:=by cases d<;>simp[gX]at hk|-
   cases hd with
   | @tup a xs _ hq hall=>
    refine bG ?_;refine⟨_,rfl,_,_,rfl,.inr ⟨_,hq,rfl⟩,rfl,_,rfl,?_⟩;have hl:=hall.length;refine bY (fun h1=> ?_) (fun h1=> ?_)
    ·have h1':xs.length≠2:=by
      intro z;rw[z]at h1;exact absurd h1 (by decide)
     have e:=a7A (ds:=ds) (by rw[<- hl];exact h1');rw[<- e];exact q H (aF.refl H)
    ·have h1':xs.length=2:=by
      have z:¬(!decide (V.int (xs.length:Int)=V.int 2))=true:=h1
      have z2:(xs.length:Int)=2:=by simpa using z
      omega
     obtain⟨y,z,d1,d2,rfl,rfl,h2,h3⟩:=a4W hall h1';have a0:cL [y,z] 0=some y:=rfl;have a1:cL [y,z] 1=some z:=rfl;refine⟨_,rfl,_,_,_,_,rfl,rfl,hq,a0,y,"str",d1,_,rfl,h2,a1p K _,_,rfl,?_⟩;refine bY (fun h4=> ?_) (fun h4=> ?_)
     ·obtain⟨t,rfl⟩:∃t,d1= .str t:=by cases d1<;>simp[gX]at h4|-
      cases h2;refine⟨_,rfl,_,_,_,_,rfl,rfl,hq,a0,rfl,_,rfl,?_⟩;refine bY (fun h5=> ?_) (fun h5=> ?_)
      ·have h5':t= "fault":=by
        have z5:V.str t=V.str "fault":=by simpa using h5
        exact V.str.inj z5
       refine⟨_,rfl,_,_,_,_,rfl,rfl,hq,a1,z,d2,rfl,h3,hsh _ rfl _ (List.mem_cons_of_mem _ List.mem_cons_self),fun H' s'=> ?_⟩
       ·have e:jW (.tuple [.str t,d2])=fZ d2:=by
         show(decide (t= "fault")&&fZ d2)=fZ d2;rw[decide_eq_true h5',Bool.true_and]
        rw[<- e];exact q H' s'
      ·have h5':t≠ "fault":=fun z5=>h5 (by rw[z5];rfl)
       have e:jW (.tuple [.str t,d2])=false:=by
        show(decide (t= "fault")&&fZ d2)=false;rw[decide_eq_false h5',Bool.false_and]
       show Q (.bl false) H;rw[<- e];exact q H (aF.refl H)
     ·have e:jW (.tuple [d1,d2])=false:=by cases d1<;>simp[gX]at h4<;>rfl
      show Q (.bl false) H;rw[<- e];exact q H (aF.refl H)
  ·rw[decide_eq_false hk]
   refine cI (cI ?_)
   have e:jW d=false:=by cases d<;>simp[gX]at hk<;>rfl
   rw[<- e];exact q H (aF.refl H)
inductive sZ(K:Fg)(vs:List V)(H:Hp)(Q:VK)(E:XK):Prop
 |mk (x:_) (d:_):vs= [x] ->Dt K H x d->iK d->(∀H',aF H H'->Q (.bl (mE d)) H')->sZ K vs H Q E
theorem a79:aY ["thing"] ["thing"] (aL a2g):={}
theorem a0D(T:bA K mg):bD P w K mg af aD 3 "is_value" ["thing"] (sZ K):=by
 have G_is_number:bD P w K mg af aD 2 "is_number" ["thing"] (a0b K):=a9O T;have G_is_fault:bD P w K mg af aD 2 "is_fault" ["thing"] (tW K):=a0q T;refine T.d_is_value.known a79 (fun _ _ _ _ _ _ us hl=>eU (fun _=>rfl) us hl) (fun vs H Q E h=> ?_) (fun f ah A ag s H vs Q E hr h=> ?_)
 ·obtain⟨x,a,rfl,_⟩:=h
  rfl
 ·obtain⟨x,d,rfl,hd,hsh,q⟩:=h
  refine⟨_,(aK (bH (a8j (bK G_is_number hr.mn aO (aA (pv 0) aG)) (qL (bK G_is_fault hr.mn aO (aA (pv 0) aG)))))),?_⟩;refine⟨_,rfl,x,d,rfl,hd,_,rfl,?_⟩;refine bY (fun h1=> ?_) (fun h1=> ?_)
  ·have e:mE d=true:=by unfold mE;rw[h1,Bool.true_or]
   show Q (.bl true) H;rw[<- e];exact q H (aF.refl H)
  ·refine⟨_,rfl,x,d,rfl,hd,hsh,fun H' s'=> ?_⟩
   have e:mE d=jW d:=by
    unfold mE
    have:iF d=false:=by simpa using h1
    rw[this,Bool.false_or]
   rw[<- e];exact q H' s'
end
def Nl(t:Str):Prop:=1<=t.length/\t.length<=8/\∀c∈t.cps.toList,c∈uF.cps.toList
theorem Nl.name{t:Str}(h:Nl t):mG t=true:=by
 unfold mG
 have a1:decide ((1:Int)<=t.length)=true:=by rw[decide_eq_true_eq];have:=h.1;omega
 have a2:decide ((t.length:Int)<=8)=true:=by rw[decide_eq_true_eq];have:=h.2.1;omega
 have a3:t.cps.toList.all mC=true:=by
  rw[List.all_eq_true];intro c hc
  have:∀c∈uF.cps.toList,mC c=true:=by decide+kernel
  exact this c (h.2.2 c hc)
 rw[a1,a2,a3];rfl
theorem Nl.lay{z:Str}(h:Nl z):PyData.canLay0 (.str z)=true:=by
 obtain⟨⟨l⟩⟩:=z
 have:∀c∈uF.cps.toList,c<128:=by decide+kernel
 exact a91 fun c hc=>this c (h.2.2 c hc)
theorem a0N{p:Str×Str}(h1:Nl p.1)(h2:Nl p.2):(iO p).canLay0=true:=by
 show PyData.canLayAll0 [.str p.1,.str p.2]=true;show(PyData.canLay0 (.str p.1)&&(PyData.canLay0 (.str p.2)&&true))=true;rw[h1.lay,h2.lay];rfl
theorem a3k:∀{ps:List (Str×Str)},(∀p∈ps,Nl p.1/\Nl p.2)->(PyData.list (ps.map iO)).canLay0=true
 | [],_=>rfl
 |p::ps,h=>by
  show((iO p).canLay0&&PyData.canLayAll0 (ps.map iO))=true;have e:PyData.canLayAll0 (ps.map iO)=true:=a3k fun q hq=>h q (List.mem_cons_of_mem _ hq)
  rw[e,a0N (h p List.mem_cons_self).1 (h p List.mem_cons_self).2];rfl
section
inductive uP(vs:List V)(H:Hp)(Q:VK)(E:XK):Prop
 |mk (z:Str):vs= [.str z] ->Nl z->(∀H',aF H H'->Q .non H')->uP vs H Q E
theorem a8x:aY ["name"] ["name"] (aL a3y):={}
theorem a1N(T:bA K mg):bD P w K mg af aD 2 "check_name" ["name"] uP:=by
 have G_is_name:bD P w K mg af aD 1 "is_name" ["thing"] (lN K):=nF T;refine T.d_check_name.known a8x (fun _ _ _ _ _ _ us hl=>eU (fun _=>rfl) us hl) (fun vs H Q E h=> ?_) (fun f ah A ag s H vs Q E hr h=> ?_)
 ·obtain⟨z,rfl,_⟩:=h
  rfl
 ·obtain⟨z,rfl,hz,q⟩:=h
  refine⟨_,(aK (bI (fS (dH (bK G_is_name hr.mn aO (aA (pv 0) aG)) (fun _=>rfl))) (aK cJ) bL)),?_⟩;have h8:=hz.2.1;refine⟨_,rfl,_,_,rfl,.str z,lV (by omega),fun H' s'=>⟨_,rfl,?_⟩⟩;rw[show fZ (.str z)=true from hz.name];exact bG (q H' s')
inductive yX(K:Fg)(vs:List V)(H:Hp)(Q:VK)(E:XK):Prop
 |mk (a:Addr) (zs:List Str):vs= [.ref a] ->aM K H a (zs.map V.str)->zs.length<=6->(∀z∈zs,Nl z)->(∀H' l,aF H H'->H l=none->H' l=some (.lst (zs.map V.str))->Q (.ref l) H')->yX K vs H Q E
theorem wP{K:Fg}{H:Hp}:∀zs:List Str,dI K H (zs.map V.str) (zs.map PyData.str)
 | []=> .nil
 |z::zs=> .cons (.str z) (wP zs)
theorem a29:aY ["names","name"] ["names"] (aL a1x):={}
theorem a9m(T:bA K mg):bD P w K mg af aD 3 "checked_names" ["names"] (yX K):=by
 have G_check_name:bD P w K mg af aD 2 "check_name" ["name"] uP:=a1N T;refine T.d_checked_names.known a29 (fun _ _ _ _ _ _ us hl=>eU (fun _=>rfl) us hl) (fun vs H Q E h=> ?_) (fun f ah A ag s H vs Q E hr h=> ?_)
 ·obtain⟨a,zs,rfl,_⟩:=h
  rfl
 ·obtain⟨a,zs,rfl,hq,h6,hz,q⟩:=h
  refine⟨_,(aJ (bI (PW.pt (iN (fS (dH (dC jZ rfl T.isinstance iM (aA (pv 0) (aA (iP T.list lD) aG))) (fun _=>rfl))) (kE (cR a1g (dC jX rfl T.len iR (aA (pv 0) aG)) (qD T.g_MOST_NAMES) (dA _))))) (aK cJ) bL)
   (aJ (nM PassesOwn.never rfl (mJ (pv 0)) (iG (i:=1) a29.nd rfl (Or.inl rfl)) (aK (bW (bK G_check_name hr.mn aO (aA (pv 1) aG)))))
   (aK (bH (nT sP rfl T.list lD (aA (pv 0) aG)))))),?_⟩
  refine⟨_,rfl,_,"list",_,_,rfl,Dt.lst hq (wP zs),a0p K _,_,rfl,bG ?_⟩;refine⟨_,rfl,_,_,rfl,.inl ⟨_,hq,rfl⟩,_,_,rfl,rfl,_,rfl,?_⟩;rw[List.length_map,decide_eq_false (by omega)];refine bG ?_;refine⟨_,rfl,a,rfl,⟨_,hq⟩,?_⟩;refine pF (K:=K) (a:=a) (xs:=zs.map V.str) (fun i σ H2=>∃o,σ= [some (.ref a),o] /\aF H H2) ⟨_,rfl,aF.refl H⟩ (fun i σ H2 _ ⟨_,_,s2⟩=>s2.seq hq) ?_ ?_
  ·rintro i x σ H2 hx ⟨o,rfl,s2⟩
   rw[List.getElem?_map]at hx
   cases e:zs[i]? with
   |none=>rw[e]at hx;cases hx
   |some z=>
    rw[e]at hx;cases hx;exact⟨_,rfl,z,rfl,hz z (List.mem_of_getElem? e),fun H3 s3=>⟨_,rfl,s2.trans s3⟩⟩
  ·rintro σ H2 ⟨o,rfl,s2⟩
   refine⟨_,rfl,a,_,rfl,.inl (s2.seq hq),fun l hl=> ?_⟩
   have hl':H l=none:=by
    cases e:H l with
    |none=>rfl
    |some u=>rw[s2 _ _ e]at hl;cases hl
   exact q _ l (s2.trans (aF.new hl)) hl' aI
theorem a0m:aY ["spots","found","spot"] ["spots"] (aL a4E):={}
end
def kU(r:Addr)(n:Int)(d:Addr):List (Str×V):=[("row_numbers",V.ref r),("fresh_number",V.int n),("kept",V.ref d)]
theorem a3r(r:Addr)(n:Int)(d:Addr):(kU r n d).lookup ("row_numbers":Str)=some (.ref r):=rfl
theorem flds_fresh(r:Addr)(n:Int)(d:Addr):(kU r n d).lookup ("fresh_number":Str)=some (.int n):=by
 show(match (("fresh_number":Str)==("row_numbers":Str))with|true=>some (V.ref r)|false=>_)=_;rw[show (("fresh_number":Str)==("row_numbers":Str))=false by decide+kernel];rfl
theorem qO(r:Addr)(n:Int)(d:Addr):(kU r n d).lookup ("kept":Str)=some (.ref d):=by
 show(match (("kept":Str)==("row_numbers":Str))with|true=>some (V.ref r)|false=>(match (("kept":Str)==("fresh_number":Str))with|true=>some (V.int n)|false=>_))=_;rw[show (("kept":Str)==("row_numbers":Str))=false by decide+kernel,show(("kept":Str)==("fresh_number":Str))=false by decide+kernel];rfl
theorem iS{r:Addr}{n:Int}{d:Addr}(h:(m==("row_numbers":Str)||m==("fresh_number":Str)||m==("kept":Str))=false:=by decide+kernel):(kU r n d).lookup m=none:=by
 simp only[Bool.or_eq_false_iff]at h;obtain⟨⟨h1,h2⟩,h3⟩:=h;show(match (m==("row_numbers":Str))with|true=>some (V.ref r)|false=>(match (m==("fresh_number":Str))with|true=>some (V.int n)|false=>(match (m==("kept":Str))with|true=>some (V.ref d)|false=>none)))=none;rw[h1,h2,h3]
theorem a54(r:Addr)(n:Int)(d:Addr):aN "kept" (.ref d) (aN "fresh_number" (.int n) (aN "row_numbers" (.ref r) []))=kU r n d:=by
 show aN "kept" (.ref d) (if("row_numbers":Str)= "fresh_number" then _ else _)=_;rw[if_neg (by decide+kernel)];show(if("row_numbers":Str)= "kept" then _ else _::(if("fresh_number":Str)= "kept" then _ else _))=_;rw[if_neg (by decide+kernel),if_neg (by decide+kernel)];rfl
structure jA(C:Addr)(H:Hp)(p r d:Addr)(xs:List V)(n:Int)(kvs:List (aB×V)):Prop where
 at_:∃dx,H p=some (.ins C dx (kU r n d))
 rows:H r=some (.lst xs)
 kept:H d=some (.dK kvs)
theorem jA.same{p r d:Addr}{n:Int}{kvs:List (aB×V)}(T:jA C H p r d xs n kvs)(s:aF H H'):jA C H' p r d xs n kvs:=by
 obtain⟨dx,h⟩:=T.at_;exact⟨⟨dx,s _ _ h⟩,s _ _ T.rows,s _ _ T.kept⟩
def Pv(K:Fg)(H:Hp)(v:V)(d:PyData):Prop:=(∃i,v= .int i/\d= .int i/\iF (.int i)=true)\/ ∃a y,v= .ref a/\H a=some (.tup [.str ("fault":Str),.str y])/\d= .tuple [.str "fault",.str y] /\Nl y
def Vd(d:PyData):Prop:=(∃i,d= .int i/\iF (.int i)=true)\/ ∃y,d= .tuple [.str "fault",.str y] /\Nl y
theorem Pv.dt{v:V}(h:Pv K H v d):Dt K H v d:=by
 rcases h with⟨i,rfl,rfl,_⟩|⟨a,y,rfl,h,rfl,_⟩
 ·exact .int i
 ·exact .tup (bR.of h) (.cons (.str _) (.cons (.str _) .nil))
theorem Pv.vd{v:V}(h:Pv K H v d):Vd d:=by
 rcases h with⟨i,rfl,rfl,hb⟩|⟨a,y,rfl,h,rfl,hy⟩
 ·exact .inl ⟨i,rfl,hb⟩
 ·exact .inr ⟨y,rfl,hy⟩
def bQ(H H':Hp):Prop:=∀a xs,H a=some (.tup xs)->H' a=some (.tup xs)
theorem bQ.of(s:aF H H'):bQ H H':=fun a xs e=>s _ _ e
theorem bQ.upd{o':HO}(h:H l=some o)(n:∀xs,o≠ .tup xs):bQ H (L2.upd H l o'):=fun a xs e=>by
 rw[aH (fun z=>by rw[z,h]at e;exact n _ (Option.some.inj e))];exact e
theorem Pv.keep{v:V}(s:bQ H H')(h:Pv K H v d):Pv K H' v d:=by
 rcases h with h|⟨a,y,rfl,h,rfl,hy⟩
 ·exact .inl h
 ·exact .inr ⟨a,y,rfl,s _ _ h,rfl,hy⟩
theorem Pv.same{v:V}(h:Pv K H v d)(s:aF H H'):Pv K H' v d:=h.keep (bQ.of s)
theorem Vd.short(h:Vd d):iK d/\mE d=true:=by
 rcases h with⟨i,rfl,hb⟩|⟨y,rfl,hy⟩
 ·refine⟨a8e (by intro z;cases z),?_⟩
  show(iF (.int i)||jW (.int i))=true;rw[hb];rfl
 ·have l8:=hy.2.1
  refine⟨a5b (by
   intro e he;simp only[List.mem_cons,List.not_mem_nil,or_false]at he
   rcases he with rfl|rfl
   ·exact lV (by decide)
   ·exact lV (by omega)),?_⟩
  show(iF _||jW (.tuple [.str "fault",.str y]))=true
  rw[show jW (.tuple [.str "fault",.str y])=true by
   show(decide (("fault":Str)= "fault")&&fZ (.str y))=true;rw[decide_eq_true rfl,Bool.true_and]
   exact Nl.name hy,Bool.or_true]
theorem Vd.lay(h:Vd d):d.canLay0=true/\d.depth<=62:=by
 rcases h with⟨i,rfl,hb⟩|⟨z,rfl,hz⟩
 ·exact⟨rfl,(show 0<=62 by decide)⟩
 ·refine⟨?_,(show 1<=62 by decide)⟩
  have lz:=Nl.lay hz
  have l1:PyData.canLay0 (.str ("fault":Str))=true:=by decide+kernel
  simp only[PyData.canLay0,PyData.canLayAll0,Bool.and_true,Bool.and_eq_true]at l1 lz|-
  exact⟨l1,lz⟩
def cQ(K:Fg)(H:Hp):List V->List PyData->Prop:=Paired (Pv K H)
theorem cQ.keep{K:Fg}{H H':Hp}(s:bQ H H'):∀{xs:List V} {ds:List PyData},cQ K H xs ds->cQ K H' xs ds
 |_,_,.nil=> .nil
 |_,_,.cons h t=> .cons (h.keep s) (cQ.keep s t)
theorem cQ.dt{K:Fg}{H:Hp}:∀{xs:List V} {ds:List PyData},cQ K H xs ds->dI K H xs ds
 |_,_,.nil=> .nil
 |_,_,.cons h t=> .cons h.dt (cQ.dt t)
theorem cQ.vd{K:Fg}{H:Hp}:∀{xs:List V} {ds:List PyData},cQ K H xs ds->∀d∈ds,Vd d
 |_,_,.nil,_,h=>by cases h
 |_,_,.cons h t,d,hd=>by
  rcases List.mem_cons.mp hd with rfl|hd
  ·exact h.vd
  ·exact cQ.vd t d hd
section
inductive wA(vs:List V)(H:Hp)(Q:VK)(E:XK):Prop
 |mk (m:Nat):vs= [.int (m:Int)] ->m<=30->Q .non H->wA vs H Q E
theorem b0c:aY ["many"] ["many"] (aL a1o):={}
theorem a4D(T:bA K mg):bD P w K mg af aD 2 "check_size" ["many"] wA:=by
 have G_is_whole:bD P w K mg af aD 1 "is_whole" ["thing"] (tG K):=zE T;refine T.d_check_size.known b0c (fun _ _ _ _ _ _ us hl=>eU (fun _=>rfl) us hl) (fun vs H Q E h=> ?_) (fun f ah A ag s H vs Q E hr h=> ?_)
 ·obtain⟨m,rfl,_⟩:=h
  rfl
 ·obtain⟨m,rfl,hm,q⟩:=h
  refine⟨_,(aK (bI (PW.pt (iN (fS (dH (bK G_is_whole hr.mn aO (aA (pv 0) aG)) (fun _=>rfl))) (kE (fS (a0Z rR rR bB (pv 0) (qD T.g_MOST_ROWS)))))) (aK cJ) bL)),?_⟩;refine⟨_,rfl,_,.int (m:Int),rfl,.int _,_,rfl,bG ?_⟩;refine⟨_,rfl,_,_,rfl,rfl,_,rfl,?_⟩;rw[decide_eq_true (show(0:Int)<=(m:Int)by omega)];refine cI ⟨_,_,rfl,rfl,_,rfl,?_⟩;rw[decide_eq_true (show(m:Int)<=30 by omega)];exact bG q
inductive rJ(vs:List V)(H:Hp)(Q:VK)(E:XK):Prop
 |mk (p m:Nat):vs= [.int (p:Int),.int (m:Int)] ->p<m->Q .non H->rJ vs H Q E
theorem a8C:aY ["place","places"] ["place","places"] (aL a4S):={}
theorem uS(T:bA K mg):bD P w K mg af aD 2 "check_place" ["place","places"] rJ:=by
 have G_is_whole:bD P w K mg af aD 1 "is_whole" ["thing"] (tG K):=zE T;refine T.d_check_place.known a8C (fun _ _ _ _ _ _ us hl=>eG (fun _ _=>rfl) us hl) (fun vs H Q E h=> ?_) (fun f ah A ag s H vs Q E hr h=> ?_)
 ·obtain⟨p,m,rfl,_⟩:=h
  rfl
 ·obtain⟨p,m,rfl,hm,q⟩:=h
  refine⟨_,(aK (bI (PW.pt (iN (fS (dH (bK G_is_whole hr.mn aO (aA (pv 0) aG)) (fun _=>rfl))) (kE (fS (a0Z rR zG bB (pv 0) (pv 1)))))) (aK cJ) bL)),?_⟩;refine⟨_,rfl,_,.int (p:Int),rfl,.int _,_,rfl,bG ?_⟩;refine⟨_,rfl,_,_,rfl,rfl,_,rfl,?_⟩;rw[decide_eq_true (show(0:Int)<=(p:Int)by omega)];refine cI ⟨_,rfl,_,_,rfl,rfl,_,rfl,?_⟩;rw[decide_eq_true (show(p:Int)<(m:Int)by omega)];exact bG q
inductive yP(K:Fg)(vs:List V)(H:Hp)(Q:VK)(E:XK):Prop
 |mk (v:_) (d:_):vs= [v] ->Pv K H v d->(∀H',aF H H'->Q .non H')->yP K vs H Q E
theorem a5I:aY ["value"] ["value"] (aL a4z):={}
theorem a7P(T:bA K mg):bD P w K mg af aD 4 "check_value" ["value"] (yP K):=by
 have G_is_value:bD P w K mg af aD 3 "is_value" ["thing"] (sZ K):=a0D T;refine T.d_check_value.known a5I (fun _ _ _ _ _ _ us hl=>eU (fun _=>rfl) us hl) (fun vs H Q E h=> ?_) (fun f ah A ag s H vs Q E hr h=> ?_)
 ·obtain⟨v,d,rfl,_⟩:=h
  rfl
 ·obtain⟨v,d,rfl,hv,q⟩:=h
  refine⟨_,(aK (bI (fS (dH (bK G_is_value hr.mn aO (aA (pv 0) aG)) (fun _=>rfl))) (aK cJ) bL)),?_⟩;refine⟨_,rfl,v,d,rfl,hv.dt,hv.vd.short.1,fun H' s'=>⟨_,rfl,?_⟩⟩;rw[hv.vd.short.2];exact bG (q _ s')
inductive xI(K:Fg)(vs:List V)(H:Hp)(Q:VK)(E:XK):Prop
 |mk (a:Addr) (xs:List V) (ds:List PyData):vs= [.ref a,.int (xs.length:Int)] ->aM K H a xs->cQ K H xs ds->xs.length<=1000->(∀H',aF H H'->Q .non H')->xI K vs H Q E
theorem a61:aY ["values","many"] ["values","many"] (aL a3G):={}
theorem a3f(T:bA K mg):bD P w K mg af aD 4 "check_values" ["values","many"] (xI K):=by
 have G_is_value:bD P w K mg af aD 3 "is_value" ["thing"] (sZ K):=a0D T;refine T.d_check_values.known a61 (fun _ _ _ _ _ _ us hl=>eG (fun _ _=>rfl) us hl) (fun vs H Q E h=> ?_) (fun f ah A ag s H vs Q E hr h=> ?_)
 ·obtain⟨a,xs,ds,rfl,_⟩:=h
  rfl
 ·obtain⟨a,xs,ds,rfl,hq,hp,l1000,q⟩:=h
  have hl:xs.length=ds.length:=Paired.length hp;refine⟨_,(aK (bI (PW.pt (iN (fS (dH (dC jZ rfl T.isinstance iM (aA (pv 0) (aA (iP T.list lD) aG))) (fun _=>rfl))) (iN (cR a4B (dC jX rfl T.len iR (aA (pv 0) aG)) (pv 1) (dA _)) (kE (fS (dH (dC (a1H rfl) rfl T.all a4I (aA (vV a4H rfl rfl (by decide) (mJ (pv 0)) (fun _ _ _ _ _=>rZ) (fun _ _ _ _ _=>(bK G_is_value hr.mn aO (aA (pv 0) aG)))) aG)) (fun _=>rfl))))))) (aK cJ) bL)),?_⟩;refine⟨_,rfl,_,"list",.list ds,_,rfl,.lst hq hp.dt,a0p K _,_,rfl,bG ?_⟩;refine⟨_,rfl,_,_,rfl,.inl ⟨_,hq,rfl⟩,_,rfl,rfl,_,rfl,?_⟩;rw[decide_eq_true rfl];refine bG ⟨_,rfl,a,rfl,⟨_,hq⟩,fun D hD=> ?_⟩;refine yQ (K:=K) (a:=a) (xs:=xs) (fun i ys H2=>ys=(List.replicate i (V.bl true))/\aF H H2) ⟨rfl,aF.new hD⟩ (fun i ys H2 _ ⟨_,s2⟩=>s2.seq hq) ?_ ?_
  ·rintro i v ys H2 hv h2D ⟨rfl,s2⟩
   obtain⟨e,he,hde⟩:=hp.dt.get hv;have ve:=hp.vd e (List.mem_of_getElem? he);have hi:i<xs.length:=(List.getElem?_eq_some_iff.mp hv).1;refine⟨_,rfl,v,e,rfl,hde.same s2,ve.short.1,fun H3 s3=>⟨s3 _ _ h2D,?_,?_,?_⟩⟩
   ·rw[List.length_replicate]
    exact eD (by omega)
   ·rw[ve.short.2,List.replicate_succ']
   ·exact(s2.trans s3).on hD
  ·rintro ys H2 h2D ⟨rfl,s2⟩
   refine⟨D,List.replicate xs.length true,rfl,aM.of (by rw[h2D,List.map_replicate]),_,rfl,?_⟩;rw[show (List.replicate xs.length true).all id=true by rw[List.all_eq_true];intro b hb;exact(List.mem_replicate.mp hb).2];exact bG (q _ s2)
inductive yK(K:Fg)(C:Addr)(vs:List V)(H:Hp)(Q:VK)(E:XK):Prop
 |mk (p dx:Addr) (m:Nat):vs= [.ref p,.int (m:Int)] ->H p=some (.ins C dx [])->m<=30->(∀H' r e,jA C H' p r e (eY 0 m) (m:Int) [] ->H r=none->H e=none->r≠e->(∀b o,H b=some o->b≠p->H' b=some o)->Q .non H')->yK K C vs H Q E
theorem a6W:aY ["self","many"] ["self","many"] (aL a4U):={}
theorem a7k(T:bA K mg)(Y:dQ K mg C):eO P w K mg af aD 3 C ["self","many"] (yK K C):=by
 have G_check_size:bD P w K mg af aD 2 "check_size" ["many"] wA:=a4D T;refine(Y.m_init.known a6W (fun _ _ _ _ _ _ us hl=>eG (fun _ _=>rfl) us hl) (fun vs H Q E h=> ?_) (fun f ah A ag s H vs Q E hr h=> ?_)).init Y.mks Y.kc
 ·obtain⟨p,dx,m,rfl,_⟩:=h
  rfl
 ·obtain⟨p,dx,m,rfl,hp,hm,q1⟩:=h
  refine⟨_,(aJ (bW (bK G_check_size hr.mn aO (aA (pv 1) aG)))
   (aJ (cV (pv 0) (nT (a77 rfl) rfl T.list lD (aA (nT a55 rfl T.range a8S (aA (pv 1) aG)) aG)) rfl)
   (aJ (cV (pv 0) (dC jX rfl T.len iR (aA (aV (pv 0) rfl) aG)) rfl)
   (aK (cV (pv 0) sU rfl))))),?_⟩
  refine⟨_,rfl,m,rfl,hm,?_⟩;refine⟨_,rfl,(m:Int),rfl,fun g hg=>⟨g,0,(m:Int),rfl,aI,by omega,by omega,by omega,by omega,by omega,fun r hr0=> ?_⟩⟩;have ngp:p≠g:=aX hp hg;have hgr:r≠g:=fun z=>by rw[z,aI]at hr0;cases hr0
  have hr':H r=none:=by rw[aH hgr]at hr0;exact hr0
  have npr:p≠r:=aX hp hr';rw[Int.sub_zero,Int.toNat_natCast];refine⟨_,rfl,p,C,dx,[],rfl,(by rw[aH npr,aH ngp];exact hp),Y.cl,Y.n_row_numbers,(by show 0<1000;decide),?_⟩;refine⟨_,rfl,p,C,dx,_,_,rfl,aI,Y.cl,Y.n_row_numbers,rfl,_,_,rfl,.inl ⟨_,aM.of (by rw[aH npr.symm,aI]),rfl⟩,?_⟩;refine⟨_,rfl,p,C,dx,_,rfl,aI,Y.cl,Y.n_fresh_number,(by show 1<1000;decide),?_⟩;intro e he;have npe:p≠e:=fun z=>by rw[<- z,aI]at he;cases he
  have nre:r≠e:=fun z=>by rw[<- z,aH npr.symm,aH npr.symm,aI]at he;cases he
  have nge:g≠e:=fun z=>by rw[<- z,aH ngp.symm,aH ngp.symm,aH hgr.symm,aI]at he;cases he
  have he':H e=none:=by rw[aH npe.symm,aH npe.symm,aH nre.symm,aH nge.symm]at he;exact he
  refine⟨_,rfl,p,C,dx,_,rfl,(by rw[aH npe];exact aI),Y.cl,Y.n_kept,(by show(aN "fresh_number" _ (aN "row_numbers" _ [])).length<1000;show(if("row_numbers":Str)= "fresh_number" then _ else _:List (Str×V)).length<1000;rw[if_neg (by decide+kernel)];show 2<1000;decide),?_⟩;refine q1 _ r e ⟨⟨dx,?_⟩,?_,?_⟩ hr' he' nre fun b o hb hbp=> ?_
  ·rw[aI]
   refine congrArg (fun l=>some (HO.ins C dx l)) ?_;have:=a54 r (eY 0 m).length e
   rw[pV]at this|-
   exact this
  ·rw[aH npr.symm,aH nre,aH npr.symm,aH npr.symm,aI]
  ·rw[aH npe.symm,aI]
  ·rw[aH hbp,aH (aX hb he'),aH hbp,aH hbp,aH (aX hb hr'),aH (aX hb hg)]
   exact hb
inductive mK(C:Addr)(vs:List V)(H:Hp)(Q:VK)(E:XK):Prop
 |mk (p:_) (r:_) (d:_) (xs:_) (n:_) (kvs:_):vs= [.ref p] ->jA C H p r d xs n kvs->Q (.int xs.length) H->mK C vs H Q E
theorem a5o:aY ["self"] ["self"] (aL a3W):={}
theorem nR(T:bA K mg)(Y:dQ K mg C):aS P w K mg af aD 1 C "many" ["self"] (mK C):=by
 refine Y.m_many.known a5o (fun _ _ _ _ _ _ us hl=>eU (fun _=>rfl) us hl) (fun vs H Q E h=> ?_) (fun f ah A ag s H vs Q E hr h=> ?_)
 ·obtain⟨p,r,d,xs,n,kvs,rfl,_⟩:=h
  rfl
 ·obtain⟨p,r,d,xs,n,kvs,rfl,⟨⟨dx,hp⟩,hr',hd⟩,q⟩:=h
  refine⟨_,(aK (bH (dC jX rfl T.len iR (aA (aV (pv 0) rfl) aG)))),?_⟩;exact⟨_,rfl,p,C,dx,_,_,rfl,hp,Y.cl,Y.n_row_numbers,a3r _ _ _,_,_,rfl,.inl ⟨_,aM.of hr',rfl⟩,q⟩
inductive uZ(C:Addr)(vs:List V)(H:Hp)(Q:VK)(E:XK):Prop
 |mk (p:_) (r:_) (d:_) (xs:_) (n:_) (kvs:_) (t:_) (v:_):vs= [.ref p,.str t] ->jA C H p r d xs n kvs->Nl t->aE kvs (.inr t:aB)=some v->(∀H',aF H H'->Q .non H')->uZ C vs H Q E
theorem a9V:aY ["self","column"] ["self","column"] (aL a3F):={}
theorem a4j(T:bA K mg)(Y:dQ K mg C):aS P w K mg af aD 2 C "check_column" ["self","column"] (uZ C):=by
 have G_is_name:bD P w K mg af aD 1 "is_name" ["thing"] (lN K):=nF T;refine Y.m_check_column.known a9V (fun _ _ _ _ _ _ us hl=>eG (fun _ _=>rfl) us hl) (fun vs H Q E h=> ?_) (fun f ah A ag s H vs Q E hr h=> ?_)
 ·obtain⟨p,r,d,xs,n,kvs,t,v,rfl,_⟩:=h
  rfl
 ·obtain⟨p,r,d,xs,n,kvs,t,v,rfl,TA,ht,hv,q⟩:=h
  refine⟨_,(aK (bI (PW.pt (iN (fS (dH (bK G_is_name hr.mn aO (aA (pv 1) aG)) (fun _=>rfl))) (kE (iY (lP (dY hr) (pv 1) (aV (pv 0) rfl)))))) (aK cJ) bL)),?_⟩;have h8:=ht.2.1;refine⟨_,rfl,_,.str t,rfl,.str t,lV (by omega),fun H' s'=>⟨_,rfl,?_⟩⟩;rw[show fZ (.str t)=true from ht.name];obtain⟨⟨dx,h1⟩,_,h3⟩:=TA.same s';refine bG ⟨_,rfl,_,rfl,p,C,dx,_,_,rfl,h1,Y.cl,Y.n_kept,qO _ _ _,d,_,rfl,bU.k (k:=Sum.inr t) h3,_,rfl,?_⟩;rw[hv];exact bG (q _ s')
inductive vA(C:Addr)(vs:List V)(H:Hp)(Q:VK)(E:XK):Prop
 |mk (p:_) (r:_) (d:_) (xs:_) (n:_) (kvs:_) (t:_) (l:_) (ys:_) (i:Nat) (v:V):vs= [.ref p,.str t,.int (i:Int)] ->jA C H p r d xs n kvs->Nl t->aE kvs (.inr t:aB)=some (.ref l)->H l=some (.lst ys)->i<xs.length->cL ys (i:Int)=some v->(∀H',aF H H'->Q v H')->vA C vs H Q E
theorem a7x:aY ["self","column","place"] ["self","column","place"] (aL a1O):={}
theorem a4q(T:bA K mg)(Y:dQ K mg C):aS P w K mg af aD 3 C "at" ["self","column","place"] (vA C):=by
 have G_check_column:aS P w K mg af aD 2 C "check_column" ["self","column"] (uZ C):=a4j T Y;have G_check_place:bD P w K mg af aD 2 "check_place" ["place","places"] rJ:=uS T;have G_many:aS P w K mg af aD 1 C "many" ["self"] (mK C):=nR T Y;refine Y.m_at.known a7x (fun _ _ _ _ _ _ us hl=>jN (fun _ _ _=>rfl) us hl) (fun vs H Q E h=> ?_) (fun f ah A ag s H vs Q E hr h=> ?_)
 ·obtain⟨p,r,d,xs,n,kvs,t,l,ys,i,v,rfl,_⟩:=h
  rfl
 ·obtain⟨p,r,d,xs,n,kvs,t,l,ys,i,v,rfl,TA,ht,hv,hl,hi,ha,q⟩:=h
  refine⟨_,(aJ (bW (cF (pv 0) Y.cl G_check_column hr.mn aO (aA (pv 1) aG)))
   (aJ (bW (bK G_check_place hr.mn aO (aA (pv 2) (aA (mU (pv 0) Y.cl G_many hr.mn aO) aG))))
   (aK (bH (cW jR (gE (dY hr) (aV (pv 0) rfl) (pv 1) (fun _ _=>rfl)) (pv 2) (fun _ _=>rfl)))))),?_⟩
  obtain⟨⟨dx,h1⟩,h2,h3⟩:=id TA;refine⟨_,rfl,p,dx,_,rfl,h1,iS,_,rfl,p,r,d,xs,n,kvs,t,_,rfl,TA,ht,hv,fun H1 s1=> ?_⟩;refine⟨_,rfl,_,rfl,p,dx,_,rfl,s1 _ _ h1,iS,p,r,d,xs,n,kvs,rfl,TA.same s1,i,xs.length,rfl,hi,?_⟩;exact⟨_,rfl,p,C,dx,_,_,rfl,s1 _ _ h1,Y.cl,Y.n_kept,qO _ _ _,_,rfl,d,.ref l,rfl,hv▸bU.k (k:=Sum.inr t) (s1 _ _ h3),_,rfl,l,_,_,v,rfl,rfl,aM.of (s1 _ _ hl),ha,q _ s1⟩
inductive a0t(C:Addr)(vs:List V)(H:Hp)(Q:VK)(E:XK):Prop
 |mk (p:_) (r:_) (d:_) (xs:_) (n:_) (kvs:_) (i:Nat) (v:V):vs= [.ref p,.int (i:Int)] ->jA C H p r d xs n kvs->i<xs.length->cL xs (i:Int)=some v->Q v H->a0t C vs H Q E
theorem a9Q:aY ["self","place"] ["self","place"] (aL a3z):={}
theorem a6I(T:bA K mg)(Y:dQ K mg C):aS P w K mg af aD 3 C "number_at" ["self","place"] (a0t C):=by
 have G_check_place:bD P w K mg af aD 2 "check_place" ["place","places"] rJ:=uS T;have G_many:aS P w K mg af aD 1 C "many" ["self"] (mK C):=nR T Y;refine Y.m_number_at.known a9Q (fun _ _ _ _ _ _ us hl=>eG (fun _ _=>rfl) us hl) (fun vs H Q E h=> ?_) (fun f ah A ag s H vs Q E hr h=> ?_)
 ·obtain⟨p,r,d,xs,n,kvs,i,v,rfl,_⟩:=h
  rfl
 ·obtain⟨p,r,d,xs,n,kvs,i,v,rfl,TA,hi,ha,q⟩:=h
  refine⟨_,(aJ (bW (bK G_check_place hr.mn aO (aA (pv 1) (aA (mU (pv 0) Y.cl G_many hr.mn aO) aG))))
   (aK (bH (cW jR (aV (pv 0) rfl) (pv 1) (fun _ _=>rfl))))),?_⟩
  obtain⟨⟨dx,h1⟩,h2,h3⟩:=id TA;refine⟨_,rfl,_,rfl,p,dx,_,rfl,h1,iS,p,r,d,xs,n,kvs,rfl,TA,i,xs.length,rfl,hi,?_⟩;exact⟨_,rfl,p,C,dx,_,_,rfl,h1,Y.cl,Y.n_row_numbers,a3r _ _ _,_,rfl,r,_,_,v,rfl,rfl,aM.of h2,ha,q⟩
inductive a0s(K:Fg)(C:Addr)(vs:List V)(H:Hp)(Q:VK)(E:XK):Prop
 |mk (p:_) (r:_) (d:_) (xs:_) (n:_) (kvs:_) (t:_) (l:_) (ys:_) (i:Nat) (v:V) (dv:PyData):vs= [.ref p,.str t,.int (i:Int),v] ->jA C H p r d xs n kvs->Nl t->aE kvs (.inr t:aB)=some (.ref l)->H l=some (.lst ys)->i<xs.length->i<ys.length->Pv K H v dv->(∀H',aF H H'->Q .non (upd H' l (.lst (ys.set i v))))->a0s K C vs H Q E
theorem a8I:aY ["self","column","place","value"] ["self","column","place","value"] (aL a1w):={}
theorem a9J(T:bA K mg)(Y:dQ K mg C):aS P w K mg af aD 5 C "put" ["self","column","place","value"] (a0s K C):=by
 have G_check_column:aS P w K mg af aD 2 C "check_column" ["self","column"] (uZ C):=a4j T Y;have G_check_place:bD P w K mg af aD 2 "check_place" ["place","places"] rJ:=uS T;have G_check_value:bD P w K mg af aD 4 "check_value" ["value"] (yP K):=a7P T;have G_many:aS P w K mg af aD 1 C "many" ["self"] (mK C):=nR T Y;refine Y.m_put.known a8I (fun _ _ _ _ _ _ us hl=>kP (fun _ _ _ _=>rfl) us hl) (fun vs H Q E h=> ?_) (fun f ah A ag s H vs Q E hr h=> ?_)
 ·obtain⟨p,r,d,xs,n,kvs,t,l,ys,i,v,dv,rfl,_⟩:=h
  rfl
 ·obtain⟨p,r,d,xs,n,kvs,t,l,ys,i,v,dv,rfl,TA,ht,hv,hl,hi,hj,hpv,q⟩:=h
  refine⟨_,(aJ (bW (cF (pv 0) Y.cl G_check_column hr.mn aO (aA (pv 1) aG)))
   (aJ (bW (bK G_check_place hr.mn aO (aA (pv 2) (aA (mU (pv 0) Y.cl G_many hr.mn aO) aG))))
   (aJ (bW (bK G_check_value hr.mn aO (aA (pv 3) aG)))
   (aK (a0i (pv 3) (a1k (gE (dY hr) (aV (pv 0) rfl) (pv 1) (fun _ _=>rfl)) (pv 2) a3n (fun _=>rfl))))))),?_⟩
  obtain⟨⟨dx,h1⟩,h2,h3⟩:=id TA;refine⟨_,rfl,p,dx,_,rfl,h1,iS,_,rfl,p,r,d,xs,n,kvs,t,_,rfl,TA,ht,hv,fun H1 s1=> ?_⟩;refine⟨_,rfl,_,rfl,p,dx,_,rfl,s1 _ _ h1,iS,p,r,d,xs,n,kvs,rfl,TA.same s1,i,xs.length,rfl,hi,?_⟩;refine⟨_,rfl,v,dv,rfl,hpv.same s1,fun H2 s2=> ?_⟩;have s12:=s1.trans s2
  have hx:iQ ys.length (i:Int)=some i:=by rw[a0V (by omega) (by omega),Int.toNat_natCast]
  exact⟨_,rfl,_,rfl,p,C,dx,_,_,rfl,s12 _ _ h1,Y.cl,Y.n_kept,qO _ _ _,_,rfl,d,.ref l,rfl,hv▸bU.k (k:=Sum.inr t) (s12 _ _ h3),_,rfl,l,ys,_,i,rfl,rfl,s12 _ _ hl,hx,q _ s12⟩
inductive zV(K:Fg)(C:Addr)(vs:List V)(H:Hp)(Q:VK)(E:XK):Prop
 |mk (p:_) (r:_) (d:_) (xs:_) (n:_) (kvs:_) (t:_) (a:_) (ys:_) (ds:_):vs= [.ref p,.str t,.ref a] ->jA C H p r d xs n kvs->Nl t->((aE kvs (.inr t:aB)).isSome=true\/ kvs.length<8)->kvs.length<=1000->aM K H a ys->cQ K H ys ds->ys.length=xs.length->ys.length<=1000->(∀H' l,aF H H'->H' l=none->Q .non (upd (upd H' l (.lst ys)) d (.dK (aR kvs (.inr t:aB) (.ref l)))))->zV K C vs H Q E
theorem a5Z:aY ["self","column","values"] ["self","column","values"] (aL vU):={}
theorem a5l(T:bA K mg)(Y:dQ K mg C):aS P w K mg af aD 5 C "give" ["self","column","values"] (zV K C):=by
 have G_is_name:bD P w K mg af aD 1 "is_name" ["thing"] (lN K):=nF T;have G_check_values:bD P w K mg af aD 4 "check_values" ["values","many"] (xI K):=a3f T;have G_many:aS P w K mg af aD 1 C "many" ["self"] (mK C):=nR T Y;refine Y.m_give.known a5Z (fun _ _ _ _ _ _ us hl=>jN (fun _ _ _=>rfl) us hl) (fun vs H Q E h=> ?_) (fun f ah A ag s H vs Q E hr h=> ?_)
 ·obtain⟨p,r,d,xs,n,kvs,t,a,ys,ds,rfl,_⟩:=h
  rfl
 ·obtain⟨p,r,d,xs,n,kvs,t,a,ys,ds,rfl,TA,ht,hc,hk,hs,hp,hl,l1000,q⟩:=h
  have cH:∃t',eV (dF aD P w K mg af ["self","column","values"] "Table.give" (aL vU) f ah A ag s H E).nox ((eZ vU).drop 2) t'/\
   ∀(H1:Hp),aF H H1->t' {nx:=fun _ H'=>Q .non H',rt:=Q} [some (.ref p),some (.str t),some (.ref a)] H1:=by
   refine⟨_,(aJ (bW (bK G_check_values hr.mn aO (aA (pv 2) (aA (mU (pv 0) Y.cl G_many hr.mn aO) aG))))
    (aK (iX (dY hr) (aV (pv 0) rfl) (pv 1) (nT sP rfl T.list lD (aA (pv 2) aG)) rfl))),fun H1 s1=> ?_⟩
   obtain⟨⟨dx,h1⟩,h2,h3⟩:=TA.same s1;refine⟨_,rfl,_,rfl,p,dx,_,rfl,h1,iS,p,r,d,xs,n,kvs,rfl,TA.same s1,a,ys,ds,(by rw[hl];rfl),s1.seq hs,hp.keep (bQ.of s1),l1000,fun H2 s2=> ?_⟩;have s12:=s1.trans s2;refine⟨_,rfl,a,ys,rfl,.inl (s12.seq hs),fun l hl=> ?_⟩;have c1:aF H2 (upd H2 l (.lst ys)):=aF.new hl;refine⟨_,rfl,p,C,dx,_,_,rfl,c1 _ _ (s2 _ _ h1),Y.cl,Y.n_kept,qO _ _ _,_,rfl,d,_,rfl,gO.k (k:=Sum.inr t) (c1 _ _ (s2 _ _ h3)) (eD hk),?_⟩;exact q H2 l s12 hl
  obtain⟨t2,ht2,r2⟩:=cH
  refine⟨_,(aJ (bI (fS (dH (bK G_is_name hr.mn aO (aA (pv 1) aG)) (fun _=>rfl))) (aK cJ) bL)
   (aJ (bI (PW.pt (oP (iY (lP (dY hr) (pv 1) (aV (pv 0) rfl))) (oH (cR a0K (dC a2W rfl T.len iR (aA (aV (pv 0) rfl) aG)) (qD T.g_MOST_COLUMNS) (dA _))))) (aK cJ) bL)
   ht2)),?_⟩
  have h8:=ht.2.1;refine⟨_,rfl,_,.str t,rfl,.str t,lV (by omega),fun H1 s1=>⟨_,rfl,?_⟩⟩;rw[show fZ (.str t)=true from ht.name];obtain⟨⟨dx,h2⟩,_,h3⟩:=TA.same s1;refine bG ⟨_,rfl,_,rfl,p,C,dx,_,_,rfl,h2,Y.cl,Y.n_kept,qO _ _ _,d,_,rfl,bU.k (k:=Sum.inr t) h3,_,rfl,?_⟩
  cases e:aE kvs (Sum.inr t:aB)with
  |some v=>exact bG (bG (r2 H1 s1))
  |none=>
   have hc':kvs.length<8:=by
    rcases hc with hc|hc
    ·rw[e]at hc;cases hc
    ·exact hc
   refine cI ⟨_,rfl,p,C,dx,_,_,rfl,h2,Y.cl,Y.n_kept,qO _ _ _,d,kvs,rfl,h3,_,_,rfl,rfl,_,rfl,?_⟩;rw[decide_eq_false (show¬(kvs.length:Int)>=8 by omega)];exact bG (r2 H1 s1)
end
theorem gU(s:aF H H')(h:H' a=none):H a=none:=by
 cases e:H a with
 |none=>rfl
 |some o=>rw[s _ _ e]at h;cases h
def bC(p:Addr)(H H':Hp):Prop:=∀b o,b≠p->H b=some o->H' b=some o
theorem bC.of{p:Addr}(s:aF H H'):bC p H H':=fun b o _ e=>s b o e
theorem bC.trans{p:Addr}(a:bC p H H1)(b:bC p H1 H2):bC p H H2:=fun c o n e=>b c o n (a c o n e)
theorem xX{p dy:Addr}{fs gs:List (Str×V)}(h:H p=some (.ins C dx fs))(g:H b=some (.ins D dy gs))(n:fs.length≠gs.length):p≠b:=fun z=>by
 rw[z,g]at h;cases h;exact n rfl
structure BM where
 b:Addr
 g:Addr
 r:Addr
 e:Addr
 ru:Addr
 me:Addr
 od:Addr
 xs:List V
 n:Int
 kvs:List (aB×V)
 rus:List (aB×V)
 mes:List (aB×V)
 ord:List Str
variable{tabs:List (Str×My.BM)}
def kK(g ru me od:Addr):List (Str×V):=[("given",V.ref g),("rules",V.ref ru),("memory",V.ref me),("order",V.ref od)]
theorem dN(g ru me od:Addr):(kK g ru me od).lookup ("given":Str)=some (.ref g)/\(kK g ru me od).lookup ("rules":Str)=some (.ref ru)/\(kK g ru me od).lookup ("memory":Str)=some (.ref me)/\(kK g ru me od).lookup ("order":Str)=some (.ref od):=⟨rfl,rfl,rfl,rfl⟩
theorem oI{g ru me od:Addr}(h:(m==("given":Str)||m==("rules":Str)||m==("memory":Str)||m==("order":Str))=false:=by decide+kernel):(kK g ru me od).lookup m=none:=by
 simp only[Bool.or_eq_false_iff]at h;obtain⟨⟨⟨h1,h2⟩,h3⟩,h4⟩:=h;unfold kK;simp[List.lookup,h1,h2,h3,h4]
theorem b0i(g ru me od:Addr):aN "order" (.ref od) (aN "memory" (.ref me) (aN "rules" (.ref ru) (aN "given" (.ref g) [])))=kK g ru me od:=by
 rfl
structure cO(CB CT:Addr)(H:Hp)(B:BM):Prop where
 at_:∃dx,H B.b=some (.ins CB dx (kK B.g B.ru B.me B.od))
 tab:jA CT H B.g B.r B.e B.xs B.n B.kvs
 rul:H B.ru=some (.dK B.rus)
 mem:H B.me=some (.dK B.mes)
 ord:H B.od=some (.lst (B.ord.map V.str))
theorem cO.same{B:BM}(h:cO CB CT H B)(s:aF H H'):cO CB CT H' B:=
 ⟨let ⟨dx,e⟩:=h.at_;⟨dx,s _ _ e⟩,h.tab.same s,s _ _ h.rul,s _ _ h.mem,s _ _ h.ord⟩
def BM.foot(B:BM):List Addr:=[B.b,B.g,B.r,B.e,B.ru,B.me,B.od]
structure BM.sep(B:BM):Prop where
 ro:B.r≠B.od
 eu:B.e≠B.ru
 em:B.e≠B.me
 um:B.ru≠B.me
section
inductive a0G(CB CT:Addr)(vs:List V)(H:Hp)(Q:VK)(E:XK):Prop
 |mk (p dx:Addr) (m:Nat):vs= [.ref p,.int (m:Int)] ->H p=some (.ins CB dx [])->m<=30->(∀H' g r e ru me od,cO CB CT H' ⟨p,g,r,e,ru,me,od,eY 0 m,(m:Int),[],[],[],[]⟩ ->BM.sep ⟨p,g,r,e,ru,me,od,eY 0 m,(m:Int),[],[],[],[]⟩ ->(∀x∈ [g,r,e,ru,me,od],H x=none)->(∀b o,H b=some o->b≠p->H' b=some o)->Q .non H')->a0G CB CT vs H Q E
theorem a6U:aY ["self","many"] ["self","many"] (aL a4t):={}
theorem a7I(T:bA K mg)(Y:cY K mg CB)(Z:dQ K mg CT):eO P w K mg af aD 5 CB ["self","many"] (a0G CB CT):=by
 have GI:eO P w K mg af aD 3 CT ["self","many"] (yK K CT):=a7k T Z;refine(Y.m_init.known a6U (fun _ _ _ _ _ _ us hl=>eG (fun _ _=>rfl) us hl) (fun vs H Q E h=> ?_) (fun f ah A ag s H vs Q E hr h=> ?_)).init Y.mks Y.kc
 ·obtain⟨p,dx,m,rfl,_⟩:=h
  rfl
 ·obtain⟨p,dx,m,rfl,hp,hm,q⟩:=h
  refine⟨_,(aJ (cV (pv 0) (jE GI hr Z.c aO (aA (pv 1) aG)) rfl)
   (aJ (cV (pv 0) sU rfl)
   (aJ (cV (pv 0) sU rfl)
   (aK (cV (pv 0) (fC aG) rfl))))),?_⟩
  refine⟨_,rfl,?_⟩;intro g dg hg hdg ne;refine⟨g,dg,m,rfl,aI,hm,fun H1 r e TA hr1 he1 nre b1=>⟨rfl,?_⟩⟩;have s1:aF H H1:=fun b o z=>b1 b o (by rw[aH (aX z hg),aH (aX z hdg)];exact z) (aX z hg)
  have npg:p≠g:=aX hp hg
  have hr0:H r=none:=by
   by_cases z:r=g
   ·rw[z];exact hg
   ·by_cases z2:r=dg
    ·rw[z2];exact hdg
    ·rw[aH z,aH z2]at hr1;exact hr1
  have he0:H e=none:=by
   by_cases z:e=g
   ·rw[z];exact hg
   ·by_cases z2:e=dg
    ·rw[z2];exact hdg
    ·rw[aH z,aH z2]at he1;exact he1
  obtain⟨⟨dt,ht⟩,hrr,hee⟩:=TA;refine⟨_,rfl,p,CB,dx,[],rfl,s1 _ _ hp,Y.cl,Y.n_given,(by show 0<1000;decide),?_⟩;have u2:∀b o,b≠p->H1 b=some o->upd H1 p (.ins CB dx (aN "given" (.ref g) [])) b=some o:=fun b o n z=>by rw[aH n];exact z
  have p2:upd H1 p (.ins CB dx (aN "given" (.ref g) [])) p=some (.ins CB dx (aN "given" (.ref g) [])):=aI;have n2:∀b,upd H1 p (.ins CB dx (aN "given" (.ref g) [])) b=none->H1 b=none/\b≠p:=fun b z=>by
   have:b≠p:=fun y=>by rw[y,aI]at z;cases z
   rw[aH this]at z;exact⟨z,this⟩
  generalize upd H1 p (.ins CB dx (aN "given" (.ref g) []))=H2 at u2 p2 n2|-
  have b1':∀b,H1 b=none->H b=none:=fun b z=>by
   cases e9:H b with
   |none=>rfl
   |some o=>rw[s1 _ _ e9]at z;cases z
  refine fun ru hru=> ?_
  have s3:=aF.new (o:=.dK []) hru;have h3:upd H2 ru (.dK []) ru=some (.dK []):=aI;have n3:∀b,upd H2 ru (.dK []) b=none->H2 b=none/\b≠ru:=fun b z=>by
   have:b≠ru:=fun y=>by rw[y,aI]at z;cases z
   rw[aH this]at z;exact⟨z,this⟩
  refine⟨_,rfl,p,CB,dx,_,rfl,s3 _ _ p2,Y.cl,Y.n_rules,(by show 1<1000;decide),?_⟩;have hru2:=n2 _ hru
  generalize upd H2 ru (.dK [])=H3 at s3 h3 n3|-
  have u4:∀b o,b≠p->H3 b=some o->upd H3 p (.ins CB dx (aN "rules" (.ref ru) (aN "given" (.ref g) []))) b=some o:=fun b o n z=>by rw[aH n];exact z
  have p4:upd H3 p (.ins CB dx (aN "rules" (.ref ru) (aN "given" (.ref g) []))) p=some (.ins CB dx (aN "rules" (.ref ru) (aN "given" (.ref g) []))):=aI;have n4:∀b,upd H3 p (.ins CB dx (aN "rules" (.ref ru) (aN "given" (.ref g) []))) b=none->H3 b=none/\b≠p:=fun b z=>by
   have:b≠p:=fun y=>by rw[y,aI]at z;cases z
   rw[aH this]at z;exact⟨z,this⟩
  generalize upd H3 p (.ins CB dx (aN "rules" (.ref ru) (aN "given" (.ref g) [])))=H4 at u4 p4 n4|-
  refine fun me hme=> ?_
  have s5:=aF.new (o:=.dK []) hme;have h5:upd H4 me (.dK []) me=some (.dK []):=aI;have n5:∀b,upd H4 me (.dK []) b=none->H4 b=none/\b≠me:=fun b z=>by
   have:b≠me:=fun y=>by rw[y,aI]at z;cases z
   rw[aH this]at z;exact⟨z,this⟩
  refine⟨_,rfl,p,CB,dx,_,rfl,s5 _ _ p4,Y.cl,Y.n_memory,(by show 2<1000;decide),?_⟩;have hme4:=n4 _ hme;have hme3:=n3 _ hme4.1;have hme2:=n2 _ hme3.1
  generalize upd H4 me (.dK [])=H5 at s5 h5 n5|-
  have u6:∀b o,b≠p->H5 b=some o->upd H5 p (.ins CB dx (aN "memory" (.ref me) (aN "rules" (.ref ru) (aN "given" (.ref g) [])))) b=some o:=fun b o n z=>by rw[aH n];exact z
  have p6:upd H5 p (.ins CB dx (aN "memory" (.ref me) (aN "rules" (.ref ru) (aN "given" (.ref g) [])))) p=some (.ins CB dx (aN "memory" (.ref me) (aN "rules" (.ref ru) (aN "given" (.ref g) [])))):=aI;have n6:∀b,upd H5 p (.ins CB dx (aN "memory" (.ref me) (aN "rules" (.ref ru) (aN "given" (.ref g) [])))) b=none->H5 b=none/\b≠p:=fun b z=>by
   have:b≠p:=fun y=>by rw[y,aI]at z;cases z
   rw[aH this]at z;exact⟨z,this⟩
  generalize upd H5 p (.ins CB dx (aN "memory" (.ref me) (aN "rules" (.ref ru) (aN "given" (.ref g) []))))=H6 at u6 p6 n6|-
  refine⟨sl,fun od hod=> ?_⟩;have s7:=aF.new (o:=.lst []) hod;have h7:upd H6 od (.lst []) od=some (.lst []):=aI;refine⟨_,rfl,p,CB,dx,_,rfl,s7 _ _ p6,Y.cl,Y.n_order,(by show 3<1000;decide),?_⟩;have hod6:=n6 _ hod;have hod5:=n5 _ hod6.1;have hod4:=n4 _ hod5.1;have hod3:=n3 _ hod4.1;have hod2:=n2 _ hod3.1
  generalize upd H6 od (.lst [])=H7 at s7 h7|-
  have up:∀b o,b≠p->H1 b=some o->upd H7 p (.ins CB dx (aN "order" (.ref od) (aN "memory" (.ref me) (aN "rules" (.ref ru) (aN "given" (.ref g) []))))) b=some o:=fun b o n z=>by
   rw[aH n];exact s7 _ _ (u6 _ _ n (s5 _ _ (u4 _ _ n (s3 _ _ (u2 _ _ n z)))))
  have p9:upd H7 p (.ins CB dx (aN "order" (.ref od) (aN "memory" (.ref me) (aN "rules" (.ref ru) (aN "given" (.ref g) []))))) p=some (.ins CB dx (kK g ru me od)):=by rw[aI,b0i]
  have npr:r≠p:=fun z=>by rw[z,hp]at hr0;cases hr0
  have npe:e≠p:=fun z=>by rw[z,hp]at he0;cases he0
  have o7:upd H7 p (.ins CB dx (aN "order" (.ref od) (aN "memory" (.ref me) (aN "rules" (.ref ru) (aN "given" (.ref g) []))))) od=some (.lst []):=by rw[aH hod6.2];exact h7
  have m7:upd H7 p (.ins CB dx (aN "order" (.ref od) (aN "memory" (.ref me) (aN "rules" (.ref ru) (aN "given" (.ref g) []))))) me=some (.dK []):=by
   rw[aH hme4.2];exact s7 _ _ (u6 _ _ hme4.2 h5)
  have r7:upd H7 p (.ins CB dx (aN "order" (.ref od) (aN "memory" (.ref me) (aN "rules" (.ref ru) (aN "given" (.ref g) []))))) ru=some (.dK []):=by
   rw[aH hru2.2];exact s7 _ _ (u6 _ _ hru2.2 (s5 _ _ (u4 _ _ hru2.2 h3)))
  generalize upd H7 p (.ins CB dx (aN "order" (.ref od) (aN "memory" (.ref me) (aN "rules" (.ref ru) (aN "given" (.ref g) [])))))=H9 at up p9 o7 m7 r7|-
  refine q H9 g r e ru me od ⟨⟨dx,p9⟩,⟨⟨dt,up _ _ npg.symm ht⟩,up _ _ npr hrr,up _ _ npe hee⟩,r7,m7,o7⟩ ⟨?_,?_,?_,?_⟩ ?_ fun b o z n=>up _ _ n (s1 _ _ z)
  ·exact aX hrr hod2.1
  ·exact aX hee hru2.1
  ·exact aX hee hme2.1
  ·exact fun z=>hme3.2 z.symm
  ·intro x hx
   simp only[List.mem_cons,List.not_mem_nil,or_false]at hx
   rcases hx with rfl|rfl|rfl|rfl|rfl|rfl
   ·exact hg
   ·exact hr0
   ·exact he0
   ·exact b1' _ hru2.1
   ·exact b1' _ hme2.1
   ·exact b1' _ hod2.1
inductive xH(CB CT:Addr)(vs:List V)(H:Hp)(Q:VK)(E:XK):Prop
 |mk (B:BM) (t:Str):vs= [.ref B.b,.str t] ->cO CB CT H B->Nl t->(∀H',aF H H'->Q (.bl (decide (t∈B.ord))) H')->xH CB CT vs H Q E
theorem a9F:aY ["self","column"] ["self","column"] (aL a1c):={}
theorem a37(T:bA K mg)(Y:cY K mg CB):aS P w K mg af aD 2 CB "has_column" ["self","column"] (xH CB CT):=by
 have G_is_name:bD P w K mg af aD 1 "is_name" ["thing"] (lN K):=nF T;refine Y.m_has_column.known a9F (fun _ _ _ _ _ _ us hl=>eG (fun _ _=>rfl) us hl) (fun vs H Q E h=> ?_) (fun f ah A ag s H vs Q E hr h=> ?_)
 ·obtain⟨B,t,rfl,_⟩:=h
  rfl
 ·obtain⟨B,t,rfl,hB,ht,q⟩:=h
  refine⟨_,(aK (bH (qC (bK G_is_name hr.mn aO (aA (pv 1) aG)) (qL (wH a0c (pv 1) (aV (pv 0) rfl) (by with_unfolding_all rfl)))))),?_⟩;have h8:=ht.2.1;refine⟨_,rfl,_,.str t,rfl,.str t,lV (by omega),fun H' s'=>⟨_,rfl,?_⟩⟩;rw[show fZ (.str t)=true from ht.name];obtain⟨⟨dx,h1⟩,_,_,_,h5⟩:=hB.same s';refine cI ⟨_,rfl,_,rfl,B.b,CB,dx,_,_,rfl,h1,Y.cl,Y.n_order,(dN _ _ _ _).2.2.2,B.od,_,rfl,.inl (aM.of h5),rfl,oO _,?_⟩;rw[show (if false=true then !gQ (.str t) (B.ord.map V.str) else gQ (.str t) (B.ord.map V.str))=decide (t∈B.ord)by rw[if_neg Bool.false_ne_true,qJ]];exact q _ s'
def qS(B:BM)(t:Str):Prop:=aE B.rus (.inr t:aB)=none/\t∉B.ord
inductive pB(CB CT:Addr)(vs:List V)(H:Hp)(Q:VK)(E:XK):Prop
 |mk (B:BM) (t:Str):vs= [.ref B.b,.str t] ->cO CB CT H B->qS B t->Q .non H->pB CB CT vs H Q E
theorem a7e:aY ["self","column"] ["self","column"] (aL a4u):={}
theorem a6s(T:bA K mg)(Y:cY K mg CB):aS P w K mg af aD 2 CB "content" ["self","column"] (pB CB CT):=by
 refine Y.m_content.known a7e (fun _ _ _ _ _ _ us hl=>eG (fun _ _=>rfl) us hl) (fun vs H Q E h=> ?_) (fun f ah A ag s H vs Q E hr h=> ?_)
 ·obtain⟨B,t,rfl,_⟩:=h
  rfl
 ·obtain⟨B,t,rfl,hB,⟨n1,n2⟩,q⟩:=h
  refine⟨_,(aJ (bI (iY (oC (dY hr) (pv 1) (aV (pv 0) rfl))) (aK cJ) bL)
   (aJ (bI (cR a0c (pv 1) (aV (pv 0) rfl) (by with_unfolding_all rfl)) (aK cJ) bL)
   (aK (bH gT)))),?_⟩
  obtain⟨⟨dx,h1⟩,_,h3,_,h5⟩:=id hB;refine⟨_,rfl,_,rfl,B.b,CB,dx,_,_,rfl,h1,Y.cl,Y.n_rules,(dN _ _ _ _).2.1,B.ru,_,rfl,bU.k (k:=Sum.inr t) h3,_,rfl,?_⟩;rw[n1];refine bG ⟨_,rfl,_,rfl,B.b,CB,dx,_,_,rfl,h1,Y.cl,Y.n_order,(dN _ _ _ _).2.2.2,B.od,_,rfl,.inl (aM.of h5),rfl,oO _,_,rfl,?_⟩;rw[show (if false=true then !gQ (.str t) (B.ord.map V.str) else gQ (.str t) (B.ord.map V.str))=false by rw[if_neg Bool.false_ne_true,qJ,decide_eq_false n2]];exact bG q
theorem a8V:aY ["self","column"] ["self","column"] (aL a1n):={}
theorem a34(T:bA K mg)(Y:cY K mg CB):aS P w K mg af aD 2 CB "empty_column" ["self","column"] (pB CB CT):=by
 refine Y.m_empty_column.known a8V (fun _ _ _ _ _ _ us hl=>eG (fun _ _=>rfl) us hl) (fun vs H Q E h=> ?_) (fun f ah A ag s H vs Q E hr h=> ?_)
 ·obtain⟨B,t,rfl,_⟩:=h
  rfl
 ·obtain⟨B,t,rfl,hB,⟨n1,n2⟩,q⟩:=h
  refine⟨_,(aK (bI (iY (oC (dY hr) (pv 1) (aV (pv 0) rfl))) (aJ cJ (aK cJ)) (aK (bI (cR a0c (pv 1) (aV (pv 0) rfl) (by with_unfolding_all rfl)) (aK cJ) bL)))),?_⟩;obtain⟨⟨dx,h1⟩,_,h3,_,h5⟩:=id hB;refine⟨_,rfl,_,rfl,B.b,CB,dx,_,_,rfl,h1,Y.cl,Y.n_rules,(dN _ _ _ _).2.1,B.ru,_,rfl,bU.k (k:=Sum.inr t) h3,_,rfl,?_⟩;rw[n1];refine bG ⟨_,rfl,_,rfl,B.b,CB,dx,_,_,rfl,h1,Y.cl,Y.n_order,(dN _ _ _ _).2.2.2,B.od,_,rfl,.inl (aM.of h5),rfl,oO _,_,rfl,?_⟩;rw[show (if false=true then !gQ (.str t) (B.ord.map V.str) else gQ (.str t) (B.ord.map V.str))=false by rw[if_neg Bool.false_ne_true,qJ,decide_eq_false n2]];exact bG q
inductive wF(K:Fg)(CB CT:Addr)(vs:List V)(H:Hp)(Q:VK)(E:XK):Prop
 |mk (B:BM) (t:Str) (a:Addr) (ys:List V) (ds:List PyData):vs= [.ref B.b,.str t,.ref a] ->cO CB CT H B->B.sep->qS B t->Nl t->H a=some (.lst ys)->a≠B.od->cQ K H ys ds->ys.length=B.xs.length->ys.length<=30->B.kvs.length<8->B.ord.length<100->(∀H' l,H l=none->cO CB CT H' {B with kvs:=aR B.kvs (.inr t:aB) (.ref l),ord:=B.ord++ [t]} ->H' l=some (.lst ys)->(∀b o,b≠B.od->b≠B.e->H b=some o->H' b=some o)->Q .non H')->wF K CB CT vs H Q E
theorem a1J:aY ["self","column","content"] ["self","column","content"] (aL a2Q):={}
theorem a5n(T:bA K mg)(Y:cY K mg CB)(Z:dQ K mg CT):aS P w K mg af aD 6 CB "set_column" ["self","column","content"] (wF K CB CT):=by
 have G_empty:aS P w K mg af aD 2 CB "empty_column" ["self","column"] (pB CB CT):=a34 T Y;have G_give:aS P w K mg af aD 5 CT "give" ["self","column","values"] (zV K CT):=a5l T Z;refine Y.m_set_column.known a1J (fun _ _ _ _ _ _ us hl=>jN (fun _ _ _=>rfl) us hl) (fun vs H Q E h=> ?_) (fun f ah A ag s H vs Q E hr h=> ?_)
 ·obtain⟨B,t,a,ys,ds,rfl,_⟩:=h
  rfl
 ·obtain⟨B,t,a,ys,ds,rfl,hB,sp,⟨n1,n2⟩,ht,ha,nao,hp,hl,l30,k8,o100,q⟩:=h
  refine⟨_,(aJ (bW (cF (pv 0) Y.cl G_empty hr.mn aO (aA (pv 1) aG)))
   (aJ (bI (cR pL (pv 2) gT (dA _)) (aJ cJ (aK cJ)) bL)
   (aJ (bI (cR zX (pv 1) (aV (pv 0) rfl) (by with_unfolding_all rfl)) (aK (bW (lZ F.plainAttrs_list F.slot_list_append F.type_list_append lO (aV (pv 0) rfl) (aA (pv 1) aG)))) bL)
   (aK (bI (dH (dC a1V rfl T.isinstance iM (aA (pv 2) (aA (iP T.list lD) aG))) (fun _=>rfl)) (aK (bW (cF (aV (pv 0) rfl) Z.cl G_give hr.mn aO (aA (pv 1) (aA (pv 2) aG))))) (aJ cJ (aK cJ))))))),?_⟩
  obtain⟨⟨dx,h1⟩,tb,h3,h4,h5⟩:=id hB;refine⟨_,rfl,B.b,dx,_,rfl,h1,oI,_,rfl,B,t,rfl,hB,⟨n1,n2⟩,?_⟩;refine⟨_,rfl,rfl,_,rfl,?_⟩;rw[decide_eq_false (show¬V.ref a=V.non from fun z=>by cases z)];refine bG ⟨_,rfl,_,rfl,B.b,CB,dx,_,_,rfl,h1,Y.cl,Y.n_order,(dN _ _ _ _).2.2.2,B.od,_,rfl,.inl (aM.of h5),rfl,oO _,_,rfl,?_⟩;rw[show (if true=true then !gQ (.str t) (B.ord.map V.str) else gQ (.str t) (B.ord.map V.str))=true by rw[if_pos rfl,qJ,decide_eq_false n2];rfl];refine cI ⟨_,rfl,B.b,CB,dx,_,_,rfl,h1,Y.cl,Y.n_order,(dN _ _ _ _).2.2.2,.inl ⟨rfl,_,aM.of h5⟩,_,rfl,B.od,_,_,rfl,rfl,h5,eD (by rw[List.length_map];omega),?_⟩;have u6:∀b o,b≠B.od->H b=some o->upd H B.od (.lst (B.ord.map V.str++ [.str t])) b=some o:=fun b o n z=>by rw[aH n];exact z
  have o6:upd H B.od (.lst (B.ord.map V.str++ [.str t])) B.od=some (.lst ((B.ord++ [t]).map V.str)):=by rw[aI,List.map_append];rfl
  have kt:bQ H (upd H B.od (.lst (B.ord.map V.str++ [.str t]))):=bQ.upd h5 (fun xs z=>by cases z);have n6:∀b,upd H B.od (.lst (B.ord.map V.str++ [.str t])) b=none->H b=none:=fun b z=>by
   have:b≠B.od:=fun y=>by rw[y,aI]at z;cases z
   rw[aH this]at z;exact z
  generalize upd H B.od (.lst (B.ord.map V.str++ [.str t]))=H6 at u6 o6 kt n6|-
  have a6:=u6 _ _ nao ha;have b6:=u6 _ _ (fun z=>by rw[z,h5]at h1;cases h1) h1;obtain⟨⟨dt,t1⟩,t2,t3⟩:=id tb;have g6:=u6 _ _ (fun z=>by rw[z,h5]at t1;cases t1) t1;have e6:=u6 _ _ (fun z=>by rw[z,h5]at t3;cases t3) t3;have tb6:jA CT H6 B.g B.r B.e B.xs B.n B.kvs:=⟨⟨dt,g6⟩,u6 _ _ sp.ro t2,e6⟩;refine⟨_,rfl,_,"list",.type "list",_,rfl,.lst a6,a0p K .lst,_,rfl,cI ?_⟩;refine⟨_,rfl,B.b,CB,dx,_,_,rfl,b6,Y.cl,Y.n_given,(dN _ _ _ _).1,B.g,dt,_,rfl,g6,iS,_,rfl,_,rfl,B.g,B.r,B.e,B.xs,B.n,B.kvs,t,a,ys,ds,rfl,tb6,ht,.inr k8,by omega,aM.of a6,hp.keep kt,hl,by omega,fun H7 l s7 hl7=> ?_⟩;have u9:∀b o,b≠B.e->H7 b=some o->upd (upd H7 l (.lst ys)) B.e (.dK (aR B.kvs (.inr t:aB) (.ref l))) b=some o:=fun b o n z=>by
   rw[aH n,aH (aX z hl7)];exact z
  have nle:l≠B.e:=fun z=>by rw[z,s7 _ _ e6]at hl7;cases hl7
  have e9:upd (upd H7 l (.lst ys)) B.e (.dK (aR B.kvs (.inr t:aB) (.ref l))) B.e=some (.dK (aR B.kvs (.inr t:aB) (.ref l))):=aI
  have l9:upd (upd H7 l (.lst ys)) B.e (.dK (aR B.kvs (.inr t:aB) (.ref l))) l=some (.lst ys):=by rw[aH nle,aI]
  generalize upd (upd H7 l (.lst ys)) B.e (.dK (aR B.kvs (.inr t:aB) (.ref l)))=H9 at u9 e9 l9|-
  have up:∀b o,b≠B.od->b≠B.e->H b=some o->H9 b=some o:=fun b o n1 n2 z=>u9 _ _ n2 (s7 _ _ (u6 _ _ n1 z))
  have ne_:∀{b:Addr} {o:HO},H6 b=some o->(∀kvs,o≠ .dK kvs)->b≠B.e:=fun z n y=>by rw[y,e6]at z;exact n _ (Option.some.inj z).symm
  refine q H9 l (n6 _ (gU s7 hl7)) ⟨⟨dx,u9 _ _ (ne_ b6 (fun kvs z=>by cases z)) (s7 _ _ b6)⟩,⟨⟨dt,u9 _ _ (ne_ g6 (fun kvs z=>by cases z)) (s7 _ _ g6)⟩,?_,e9⟩,?_,?_,?_⟩ l9 up
  ·exact up _ _ sp.ro (fun z=>by rw[z,t3]at t2;cases t2) t2
  ·exact up _ _ (fun z=>by rw[z,h5]at h3;cases h3) sp.eu.symm h3
  ·exact up _ _ (fun z=>by rw[z,h5]at h4;cases h4) sp.em.symm h4
  ·exact u9 _ _ (ne_ o6 (fun kvs z=>by cases z)) (s7 _ _ o6)
inductive vI(K:Fg)(CB CT:Addr)(vs:List V)(H:Hp)(Q:VK)(E:XK):Prop
 |mk (B:BM) (t:Str) (a C dx:Addr) (fs:List (Str×V)):vs= [.ref B.b,.str t,.ref a] ->cO CB CT H B->B.sep->qS B t->H a=some (.ins C dx fs)->gZ K H (.ref a) (.ref C)->W.kitOne K (.ref C) (.type "list")=some false->B.rus.length<100->B.mes.length<100->B.ord.length<100->(∀H' m,H m=none->cO CB CT H' {B with rus:=aR B.rus (.inr t:aB) (.ref a),mes:=aR B.mes (.inr t:aB) (.ref m),ord:=B.ord++ [t]} ->H' m=some (.dK [])->(∀b o,b≠B.od->b≠B.ru->b≠B.me->H b=some o->H' b=some o)->Q .non H')->vI K CB CT vs H Q E
theorem a4Y(T:bA K mg)(Y:cY K mg CB):aS P w K mg af aD 6 CB "set_column" ["self","column","content"] (vI K CB CT):=by
 have G_empty:aS P w K mg af aD 2 CB "empty_column" ["self","column"] (pB CB CT):=a34 T Y;refine Y.m_set_column.known a1J (fun _ _ _ _ _ _ us hl=>jN (fun _ _ _=>rfl) us hl) (fun vs H Q E h=> ?_) (fun f ah A ag s H vs Q E hr h=> ?_)
 ·obtain⟨B,t,a,C,dc,fs,rfl,_⟩:=h
  rfl
 ·obtain⟨B,t,a,C,dc,fs,rfl,hB,sp,⟨n1,n2⟩,ha,hty,hk,r100,m100,o100,q⟩:=h
  refine⟨_,(aJ (bW (cF (pv 0) Y.cl G_empty hr.mn aO (aA (pv 1) aG)))
   (aJ (bI (cR pL (pv 2) gT (dA _)) (aJ cJ (aK cJ)) bL)
   (aJ (bI (cR zX (pv 1) (aV (pv 0) rfl) (by with_unfolding_all rfl)) (aK (bW (lZ F.plainAttrs_list F.slot_list_append F.type_list_append lO (aV (pv 0) rfl) (aA (pv 1) aG)))) bL)
   (aK (bI (dH (dC a1V rfl T.isinstance iM (aA (pv 2) (aA (iP T.list lD) aG))) (fun _=>rfl)) (aK cJ) (aJ (iX (dY hr) (aV (pv 0) rfl) (pv 1) (pv 2) rfl) (aK (iX (dY hr) (aV (pv 0) rfl) (pv 1) sU rfl)))))))),?_⟩
  obtain⟨⟨dx,h1⟩,tb,h3,h4,h5⟩:=id hB;refine⟨_,rfl,B.b,dx,_,rfl,h1,oI,_,rfl,B,t,rfl,hB,⟨n1,n2⟩,?_⟩;refine⟨_,rfl,rfl,_,rfl,?_⟩;rw[decide_eq_false (show¬V.ref a=V.non from fun z=>by cases z)];refine bG ⟨_,rfl,_,rfl,B.b,CB,dx,_,_,rfl,h1,Y.cl,Y.n_order,(dN _ _ _ _).2.2.2,B.od,_,rfl,.inl (aM.of h5),rfl,oO _,_,rfl,?_⟩;rw[show (if true=true then !gQ (.str t) (B.ord.map V.str) else gQ (.str t) (B.ord.map V.str))=true by rw[if_pos rfl,qJ,decide_eq_false n2];rfl];refine cI ⟨_,rfl,B.b,CB,dx,_,_,rfl,h1,Y.cl,Y.n_order,(dN _ _ _ _).2.2.2,.inl ⟨rfl,_,aM.of h5⟩,_,rfl,B.od,_,_,rfl,rfl,h5,eD (by rw[List.length_map];omega),?_⟩;have u6:∀b o,b≠B.od->H b=some o->upd H B.od (.lst (B.ord.map V.str++ [.str t])) b=some o:=fun b o n z=>by rw[aH n];exact z
  have o6:upd H B.od (.lst (B.ord.map V.str++ [.str t])) B.od=some (.lst ((B.ord++ [t]).map V.str)):=by rw[aI,List.map_append];rfl
  have n6:∀b,upd H B.od (.lst (B.ord.map V.str++ [.str t])) b=none->H b=none/\b≠B.od:=fun b z=>by
   have:b≠B.od:=fun y=>by rw[y,aI]at z;cases z
   rw[aH this]at z;exact⟨z,this⟩
  generalize upd H B.od (.lst (B.ord.map V.str++ [.str t]))=H6 at u6 o6 n6|-
  have nl5:∀{b:Addr} {o:HO},H b=some o->(∀xs,o≠ .lst xs)->b≠B.od:=fun z n y=>by rw[y,h5]at z;exact n _ (Option.some.inj z).symm
  have a6:=u6 _ _ (nl5 ha (fun xs z=>by cases z)) ha;have b6:=u6 _ _ (nl5 h1 (fun xs z=>by cases z)) h1;have r6:=u6 _ _ (nl5 h3 (fun xs z=>by cases z)) h3;have m6:=u6 _ _ (nl5 h4 (fun xs z=>by cases z)) h4
  have ty6:gZ K H6 (.ref a) (.ref C):=by
   cases hty with
   |ins e1 e2 e3 e4 e5 e6=>exact .ins (u6 _ _ (nl5 e1 (fun xs z=>by cases z)) e1) e2 e3 e4 e5 e6
  refine⟨_,rfl,_,"list",.ref C,_,rfl,ty6,hk,_,rfl,bG ?_⟩;refine⟨_,rfl,_,rfl,B.b,CB,dx,_,_,rfl,b6,Y.cl,Y.n_rules,(dN _ _ _ _).2.1,_,rfl,B.ru,_,rfl,gO.k (k:=Sum.inr t) r6 (eD (by omega)),?_⟩;have u7:∀b o,b≠B.ru->H6 b=some o->upd H6 B.ru (.dK (aR B.rus (.inr t:aB) (.ref a))) b=some o:=fun b o n z=>by rw[aH n];exact z
  have r7:upd H6 B.ru (.dK (aR B.rus (.inr t:aB) (.ref a))) B.ru=some (.dK (aR B.rus (.inr t:aB) (.ref a))):=aI;have n7:∀b,upd H6 B.ru (.dK (aR B.rus (.inr t:aB) (.ref a))) b=none->H6 b=none:=fun b z=>by
   have:b≠B.ru:=fun y=>by rw[y,aI]at z;cases z
   rw[aH this]at z;exact z
  generalize upd H6 B.ru (.dK (aR B.rus (.inr t:aB) (.ref a)))=H7 at u7 r7 n7|-
  have b7:=u7 _ _ (fun z=>by rw[z,r6]at b6;cases b6) b6;have m7:=u7 _ _ sp.um.symm m6;refine fun m hm=> ?_
  have s8:=aF.new (o:=.dK []) hm;refine⟨_,rfl,B.b,CB,dx,_,_,rfl,s8 _ _ b7,Y.cl,Y.n_memory,(dN _ _ _ _).2.2.1,_,rfl,B.me,_,rfl,gO.k (k:=Sum.inr t) (s8 _ _ m7) (eD (by omega)),?_⟩;have nmm:m≠B.me:=fun z=>by rw[z,m7]at hm;cases hm
  have u9:∀b o,b≠B.me->H7 b=some o->upd (upd H7 m (.dK [])) B.me (.dK (aR B.mes (.inr t:aB) (.ref m))) b=some o:=fun b o n z=>by
   rw[aH n];exact s8 _ _ z
  have e9:upd (upd H7 m (.dK [])) B.me (.dK (aR B.mes (.inr t:aB) (.ref m))) B.me=some (.dK (aR B.mes (.inr t:aB) (.ref m))):=aI
  have d9:upd (upd H7 m (.dK [])) B.me (.dK (aR B.mes (.inr t:aB) (.ref m))) m=some (.dK []):=by rw[aH nmm,aI]
  generalize upd (upd H7 m (.dK [])) B.me (.dK (aR B.mes (.inr t:aB) (.ref m)))=H9 at u9 e9 d9|-
  have up:∀b o,b≠B.od->b≠B.ru->b≠B.me->H b=some o->H9 b=some o:=fun b o n1 n2 n3 z=>u9 _ _ n3 (u7 _ _ n2 (u6 _ _ n1 z))
  obtain⟨⟨dt,t1⟩,t2,t3⟩:=id tb;have nd3:∀{b:Addr} {o:HO},H b=some o->(∀kvs,o≠ .dK kvs)->b≠B.ru/\b≠B.me:=fun z n=>⟨fun y=>by rw[y,h3]at z;exact n _ (Option.some.inj z).symm,fun y=>by rw[y,h4]at z;exact n _ (Option.some.inj z).symm⟩
  have i1:=nd3 h1 (fun kvs z=>by cases z);have i2:=nd3 t1 (fun kvs z=>by cases z);have i3:=nd3 t2 (fun kvs z=>by cases z);have i5:=nd3 h5 (fun kvs z=>by cases z);refine q H9 m (n6 _ (n7 _ hm)).1 ⟨⟨dx,up _ _ (nl5 h1 (fun xs z=>by cases z)) i1.1 i1.2 h1⟩,⟨⟨dt,up _ _ (nl5 t1 (fun xs z=>by cases z)) i2.1 i2.2 t1⟩,up _ _ sp.ro i3.1 i3.2 t2,up _ _ (nl5 t3 (fun xs z=>by cases z)) sp.eu sp.em t3⟩,?_,e9,?_⟩ d9 up
  ·exact u9 _ _ sp.um r7
  ·exact u9 _ _ i5.2 (u7 _ _ i5.1 o6)
end
noncomputable def pZ (bd:Addr) (nm:Str) (m:Nat):List (Str×V):=[("boards",V.ref bd),("name",V.str nm),("size",V.int (m:Int))]
theorem xO(bd:Addr)(nm:Str)(m:Nat):(pZ bd nm m).lookup ("boards":Str)=some (.ref bd)/\(pZ bd nm m).lookup ("name":Str)=some (.str nm)/\(pZ bd nm m).lookup ("size":Str)=some (.int (m:Int))/\(pZ bd nm m).lookup ("take":Str)=none:=⟨rfl,rfl,rfl,rfl⟩
noncomputable def mQ (b:Addr) (t:Str) (a:Addr):List (Str×V):=[("board",V.ref b),("column",V.str t),("after",V.ref a),("before",V.non)]
theorem yF(b:Addr)(t:Str)(a:Addr):(mQ b t a).lookup ("board":Str)=some (.ref b)/\(mQ b t a).lookup ("column":Str)=some (.str t)/\(mQ b t a).lookup ("after":Str)=some (.ref a)/\(mQ b t a).lookup ("take":Str)=none/\aN "before" .non (mQ b t a)=mQ b t a:=⟨rfl,rfl,rfl,rfl,rfl⟩
noncomputable def gW (b:Addr) (t:Str) (p:Nat) (v u:V):List (Str×V):=[("board",V.ref b),("column",V.str t),("place",V.int (p:Int)),("after",v),("before",u)]
theorem a0u(b:Addr)(t:Str)(p:Nat)(v u:V):(gW b t p v u).lookup ("board":Str)=some (.ref b)/\(gW b t p v u).lookup ("column":Str)=some (.str t)/\(gW b t p v u).lookup ("place":Str)=some (.int (p:Int))/\(gW b t p v u).lookup ("after":Str)=some v/\(gW b t p v u).lookup ("take":Str)=none/\∀u',aN "before" u' (gW b t p v u)=gW b t p v u':=⟨rfl,rfl,rfl,rfl,rfl,fun _=>rfl⟩
section
inductive yO(C:Addr)(vs:List V)(H:Hp)(Q:VK)(E:XK):Prop
 |mk (p dx bd:Addr) (nm:Str) (m:Nat):vs= [.ref p,.ref bd,.str nm,.int (m:Int)] ->H p=some (.ins C dx [])->(∀H',bC p H H'->H' p=some (.ins C dx (pZ bd nm m))->Q .non H')->yO C vs H Q E
theorem a5K:aY ["self","boards","name","size"] ["self","boards","name","size"] (aL a2N):={}
theorem a8Z(T:bA K mg)(Y:tX K mg C):eO P w K mg af aD 1 C ["self","boards","name","size"] (yO C):=by
 refine(Y.m_init.known a5K (fun _ _ _ _ _ _ us hl=>kP (fun _ _ _ _=>rfl) us hl) (fun vs H Q E h=> ?_) (fun f ah A ag s H vs Q E hr h=> ?_)).init Y.mks Y.kc
 ·obtain⟨p,dx,bd,nm,m,rfl,_⟩:=h
  rfl
 ·obtain⟨p,dx,bd,nm,m,rfl,hp,q⟩:=h
  refine⟨_,(aJ (cV (pv 0) (pv 1) rfl) (aJ (cV (pv 0) (pv 2) rfl) (aK (cV (pv 0) (pv 3) rfl)))),?_⟩;refine⟨_,rfl,_,rfl,p,C,dx,[],rfl,hp,Y.cl,Y.n_boards,(by show 0<1000;decide),?_⟩;refine⟨_,rfl,_,rfl,p,C,dx,_,rfl,aI,Y.cl,Y.n_name,(by show 1<1000;decide),?_⟩;refine⟨_,rfl,_,rfl,p,C,dx,_,rfl,aI,Y.cl,Y.n_size,(by show 2<1000;decide),?_⟩;exact q _ (fun b o n z=>by rw[aH n,aH n,aH n];exact z) aI
inductive wX(C:Addr)(vs:List V)(H:Hp)(Q:VK)(E:XK):Prop
 |mk (p dx b a:Addr) (t:Str):vs= [.ref p,.ref b,.str t,.ref a] ->H p=some (.ins C dx [])->(∀H',bC p H H'->H' p=some (.ins C dx (mQ b t a))->Q .non H')->wX C vs H Q E
theorem a8P:aY ["self","board","column","content"] ["self","board","column","content"] (aL a2J):={}
theorem a4n(T:bA K mg)(Y:qZ K mg C):eO P w K mg af aD 1 C ["self","board","column","content"] (wX C):=by
 refine(Y.m_init.known a8P (fun _ _ _ _ _ _ us hl=>kP (fun _ _ _ _=>rfl) us hl) (fun vs H Q E h=> ?_) (fun f ah A ag s H vs Q E hr h=> ?_)).init Y.mks Y.kc
 ·obtain⟨p,dx,b,a,t,rfl,_⟩:=h
  rfl
 ·obtain⟨p,dx,b,a,t,rfl,hp,q⟩:=h
  refine⟨_,(aJ (cV (pv 0) (pv 1) rfl) (aJ (cV (pv 0) (pv 2) rfl) (aJ (cV (pv 0) (pv 3) rfl) (aK (cV (pv 0) gT rfl))))),?_⟩;refine⟨_,rfl,_,rfl,p,C,dx,[],rfl,hp,Y.cl,Y.n_board,(by show 0<1000;decide),?_⟩;refine⟨_,rfl,_,rfl,p,C,dx,_,rfl,aI,Y.cl,Y.n_column,(by show 1<1000;decide),?_⟩;refine⟨_,rfl,_,rfl,p,C,dx,_,rfl,aI,Y.cl,Y.n_after,(by show 2<1000;decide),?_⟩;refine⟨_,rfl,p,C,dx,_,rfl,aI,Y.cl,Y.n_before,(by show 3<1000;decide),?_⟩;exact q _ (fun b o n z=>by rw[aH n,aH n,aH n,aH n];exact z) aI
inductive a0B(C:Addr)(vs:List V)(H:Hp)(Q:VK)(E:XK):Prop
 |mk (p dx b:Addr) (t:Str) (i:Nat) (v:V):vs= [.ref p,.ref b,.str t,.int (i:Int),v] ->H p=some (.ins C dx [])->(∀H',bC p H H'->H' p=some (.ins C dx (gW b t i v .non))->Q .non H')->a0B C vs H Q E
theorem a95:aY ["self","board","column","place","value"] ["self","board","column","place","value"] (aL a3w):={}
theorem a5e(T:bA K mg)(Y:uH K mg C):eO P w K mg af aD 1 C ["self","board","column","place","value"] (a0B C):=by
 refine(Y.m_init.known a95 (fun _ _ _ _ _ _ us hl=>pP (fun _ _ _ _ _=>rfl) us hl) (fun vs H Q E h=> ?_) (fun f ah A ag s H vs Q E hr h=> ?_)).init Y.mks Y.kc
 ·obtain⟨p,dx,b,t,i,v,rfl,_⟩:=h
  rfl
 ·obtain⟨p,dx,b,t,i,v,rfl,hp,q⟩:=h
  refine⟨_,(aJ (cV (pv 0) (pv 1) rfl) (aJ (cV (pv 0) (pv 2) rfl) (aJ (cV (pv 0) (pv 3) rfl) (aJ (cV (pv 0) (pv 4) rfl) (aK (cV (pv 0) gT rfl)))))),?_⟩;refine⟨_,rfl,_,rfl,p,C,dx,[],rfl,hp,Y.cl,Y.n_board,(by show 0<1000;decide),?_⟩;refine⟨_,rfl,_,rfl,p,C,dx,_,rfl,aI,Y.cl,Y.n_column,(by show 1<1000;decide),?_⟩;refine⟨_,rfl,_,rfl,p,C,dx,_,rfl,aI,Y.cl,Y.n_place,(by show 2<1000;decide),?_⟩;refine⟨_,rfl,_,rfl,p,C,dx,_,rfl,aI,Y.cl,Y.n_after,(by show 3<1000;decide),?_⟩;refine⟨_,rfl,p,C,dx,_,rfl,aI,Y.cl,Y.n_before,(by show 4<1000;decide),?_⟩;exact q _ (fun b o n z=>by rw[aH n,aH n,aH n,aH n,aH n];exact z) aI
inductive wR(C CB CT:Addr)(vs:List V)(H:Hp)(Q:VK)(E:XK):Prop
 |mk (p dx bd:Addr) (nm:Str) (m:Nat) (kb:List (aB×V)):vs= [.ref p] ->H p=some (.ins C dx (pZ bd nm m))->H bd=some (.dK kb)->kb.length<100->m<=30->(∀H' b g r e ru me od,cO CB CT H' ⟨b,g,r,e,ru,me,od,eY 0 m,(m:Int),[],[],[],[]⟩ ->BM.sep ⟨b,g,r,e,ru,me,od,eY 0 m,(m:Int),[],[],[],[]⟩ ->(∀x∈ [b,g,r,e,ru,me,od],H x=none)->H' bd=some (.dK (aR kb (.inr nm:aB) (.ref b)))->(∀x o,x≠bd->H x=some o->H' x=some o)->Q .non H')->wR C CB CT vs H Q E
theorem a60:aY ["self"] ["self"] (aL a31):={}
theorem a59(T:bA K mg)(Y:tX K mg C)(W:cY K mg CB)(Z:dQ K mg CT):aS P w K mg af aD 7 C "take" ["self"] (wR C CB CT):=by
 have GI:eO P w K mg af aD 5 CB ["self","many"] (a0G CB CT):=a7I T W Z;refine Y.m_take.known a60 (fun _ _ _ _ _ _ us hl=>eU (fun _=>rfl) us hl) (fun vs H Q E h=> ?_) (fun f ah A ag s H vs Q E hr h=> ?_)
 ·obtain⟨p,dx,bd,nm,m,kb,rfl,_⟩:=h
  rfl
 ·obtain⟨p,dx,bd,nm,m,kb,rfl,hp,hb,kl,hm,q⟩:=h
  refine⟨_,(aK (iX (dY hr) (aV (pv 0) rfl) (aV (pv 0) rfl) (jE GI hr W.c aO (aA (aV (pv 0) rfl) aG)) rfl)),?_⟩;refine⟨_,rfl,p,C,dx,_,_,rfl,hp,Y.cl,Y.n_size,(xO _ _ _).2.2.1,?_⟩;intro b db hb0 hdb ne;refine⟨b,db,m,rfl,aI,hm,fun H1 g r e ru me od hB sp fr fm=>⟨rfl,?_⟩⟩;have s1:aF H H1:=fun x o z=>fm x o (by rw[aH (aX z hb0),aH (aX z hdb)];exact z) (aX z hb0)
  have fr':∀x∈ [b,g,r,e,ru,me,od],H x=none:=fun x hx=>by
   rcases List.mem_cons.mp hx with rfl|hx
   ·exact hb0
   ·have:=fr x hx
    by_cases z:x=b
    ·rw[z];exact hb0
    ·by_cases z2:x=db
     ·rw[z2];exact hdb
     ·rw[aH z,aH z2]at this;exact this
  refine⟨_,rfl,p,C,dx,_,_,rfl,s1 _ _ hp,Y.cl,Y.n_boards,(xO _ _ _).1,_,rfl,p,C,dx,_,_,rfl,s1 _ _ hp,Y.cl,Y.n_name,(xO _ _ _).2.1,bd,_,rfl,gO.k (k:=Sum.inr nm) (s1 _ _ hb) (eD (by omega)),?_⟩;have nb:∀{x:Addr},x∈ [b,g,r,e,ru,me,od] ->x≠bd:=fun hx z=>by rw[<- z,fr' _ hx]at hb;cases hb
  have u:∀x o,x≠bd->H1 x=some o->upd H1 bd (.dK (aR kb (.inr nm:aB) (.ref b))) x=some o:=fun x o n z=>by rw[aH n];exact z
  obtain⟨⟨d1,e1⟩,⟨⟨d2,e2⟩,e3,e4⟩,e5,e6,e7⟩:=hB;exact q _ b g r e ru me od ⟨⟨d1,u _ _ (nb (by simp)) e1⟩,⟨⟨d2,u _ _ (nb (by simp)) e2⟩,u _ _ (nb (by simp)) e3,u _ _ (nb (by simp)) e4⟩,u _ _ (nb (by simp)) e5,u _ _ (nb (by simp)) e6,u _ _ (nb (by simp)) e7⟩ sp fr' aI (fun x o n z=>u _ _ n (s1 _ _ z))
inductive sJ(C CB CT:Addr)(sp:Sp)(vs:List V)(H:Hp)(Q:VK)(E:XK):Prop
 |mk (p dx a:Addr) (B:BM) (t:Str):vs= [.ref p] ->H p=some (.ins C dx (mQ B.b t a))->cO CB CT H B->qS B t->(sp [.ref B.b,.str t,.ref a] H (fun _ H'=>Q .non H') E0)->sJ C CB CT sp vs H Q E
theorem a8h:aY ["self"] ["self"] (aL a2m):={}
theorem a1q(T:bA K mg)(Y:qZ K mg C)(W:cY K mg CB)(G:aS P w K mg af aD 6 CB "set_column" ["self","column","content"] sp):aS P w K mg af aD 7 C "take" ["self"] (sJ C CB CT sp):=by
 have G_content:aS P w K mg af aD 2 CB "content" ["self","column"] (pB CB CT):=a6s T W;refine Y.m_take.known a8h (fun _ _ _ _ _ _ us hl=>eU (fun _=>rfl) us hl) (fun vs H Q E h=> ?_) (fun f ah A ag s H vs Q E hr h=> ?_)
 ·obtain⟨p,dx,a,B,t,rfl,_⟩:=h
  rfl
 ·obtain⟨p,dx,a,B,t,rfl,hp,hB,hn,q⟩:=h
  refine⟨_,(aJ (cV (pv 0) (cF (aV (pv 0) rfl) W.cl G_content hr.mn aO (aA (aV (pv 0) rfl) aG)) rfl)
   (aK (bW (cF (aV (pv 0) rfl) W.cl G hr aO (aA (aV (pv 0) rfl) (aA (aV (pv 0) rfl) aG)))))),?_⟩
  obtain⟨c1,c2,c3,c4,c5⟩:=yF B.b t a;obtain⟨dB,h1⟩:=hB.at_;refine⟨_,rfl,p,C,dx,_,_,rfl,hp,Y.cl,Y.n_board,c1,B.b,dB,_,rfl,h1,oI,_,rfl,p,C,dx,_,_,rfl,hp,Y.cl,Y.n_column,c2,B,t,rfl,hB,hn,?_⟩;refine⟨_,rfl,p,C,dx,_,rfl,hp,Y.cl,Y.n_before,(by show 4<1000;decide),?_⟩;rw[c5,a6B hp];exact⟨_,rfl,p,C,dx,_,_,rfl,hp,Y.cl,Y.n_board,c1,B.b,dB,_,rfl,h1,oI,_,rfl,p,C,dx,_,_,rfl,hp,Y.cl,Y.n_column,c2,_,rfl,p,C,dx,_,_,rfl,hp,Y.cl,Y.n_after,c3,q⟩
inductive uQ(K:Fg)(C CB CT:Addr)(vs:List V)(H:Hp)(Q:VK)(E:XK):Prop
 |mk (p dx l:Addr) (B:BM) (t:Str) (i:Nat) (v u:V) (d:PyData) (ys:List V):vs= [.ref p] ->H p=some (.ins C dx (gW B.b t i v u))->cO CB CT H B->Nl t->aE B.kvs (.inr t:aB)=some (.ref l)->H l=some (.lst ys)->i<B.xs.length->ys.length=B.xs.length->Pv K H v d->(∀H',(∀x o,x≠p->x≠l->H x=some o->H' x=some o)->H' l=some (.lst (ys.set i v))->Q .non H')->uQ K C CB CT vs H Q E
theorem a9A:aY ["self"] ["self"] (aL a4M):={}
theorem a5B(T:bA K mg)(Y:uH K mg C)(W:cY K mg CB)(Z:dQ K mg CT):aS P w K mg af aD 7 C "take" ["self"] (uQ K C CB CT):=by
 have G_at:aS P w K mg af aD 3 CT "at" ["self","column","place"] (vA CT):=a4q T Z;have G_put:aS P w K mg af aD 5 CT "put" ["self","column","place","value"] (a0s K CT):=a9J T Z;refine Y.m_take.known a9A (fun _ _ _ _ _ _ us hl=>eU (fun _=>rfl) us hl) (fun vs H Q E h=> ?_) (fun f ah A ag s H vs Q E hr h=> ?_)
 ·obtain⟨p,dx,l,B,t,i,v,u,d,ys,rfl,_⟩:=h
  rfl
 ·obtain⟨p,dx,l,B,t,i,v,u,d,ys,rfl,hp,hB,ht,hv,hl,hi,ly,hpv,q⟩:=h
  refine⟨_,(aJ (cV (pv 0) (cF (aV (aV (pv 0) rfl) rfl) Z.cl G_at hr.mn aO (aA (aV (pv 0) rfl) (aA (aV (pv 0) rfl) aG))) rfl)
   (aK (bW (cF (aV (aV (pv 0) rfl) rfl) Z.cl G_put hr.mn aO (aA (aV (pv 0) rfl) (aA (aV (pv 0) rfl) (aA (aV (pv 0) rfl) aG))))))),?_⟩
  obtain⟨c1,c2,c3,c4,c5,c6⟩:=a0u B.b t i v u;obtain⟨⟨dB,h1⟩,tb,_,_,_⟩:=id hB;obtain⟨⟨dT,t1⟩,_,_⟩:=id tb
  obtain⟨x0,hx0⟩:∃x0,cL ys (i:Int)=some x0:=by
   obtain⟨x0,e1,_⟩:=a9a ys (i:Int) (by omega) (by omega);exact⟨x0,e1⟩
  refine⟨_,rfl,p,C,dx,_,_,rfl,hp,Y.cl,Y.n_board,c1,B.b,CB,dB,_,_,rfl,h1,W.cl,W.n_given,(dN _ _ _ _).1,B.g,dT,_,rfl,t1,iS,_,rfl,p,C,dx,_,_,rfl,hp,Y.cl,Y.n_column,c2,_,rfl,p,C,dx,_,_,rfl,hp,Y.cl,Y.n_place,c3,B.g,B.r,B.e,B.xs,B.n,B.kvs,t,l,ys,i,x0,rfl,tb,ht,hv,hl,hi,hx0,fun H1 s1=> ?_⟩;refine⟨_,rfl,p,C,dx,_,rfl,s1 _ _ hp,Y.cl,Y.n_before,(by show 5<1000;decide),?_⟩;rw[c6];obtain⟨c1,c2,c3,c4,c5,c6⟩:=a0u B.b t i v x0;have u2:∀x o,x≠p->H1 x=some o->upd H1 p (.ins C dx (gW B.b t i v x0)) x=some o:=fun x o n z=>by rw[aH n];exact z
  have p2:upd H1 p (.ins C dx (gW B.b t i v x0)) p=some (.ins C dx (gW B.b t i v x0)):=aI;have kt:bQ H1 (upd H1 p (.ins C dx (gW B.b t i v x0))):=bQ.upd (s1 _ _ hp) (fun xs z=>by cases z)
  generalize upd H1 p (.ins C dx (gW B.b t i v x0))=H2 at u2 p2 kt|-
  have npb:B.b≠p:=(xX hp h1 (by simp[gW,kK,kU])).symm;have npg:B.g≠p:=(xX hp t1 (by simp[gW,kK,kU])).symm;have np:∀{x:Addr} {o:HO},H x=some o->(∀C dx fs,o≠ .ins C dx fs)->x≠p:=fun z n y=>by rw[y,hp]at z;exact n _ _ _ (Option.some.inj z).symm
  have b2:=u2 _ _ npb (s1 _ _ h1);have g2:=u2 _ _ npg (s1 _ _ t1);obtain⟨_,tr,te⟩:=id tb;have tb2:jA CT H2 B.g B.r B.e B.xs B.n B.kvs:=⟨⟨dT,g2⟩,u2 _ _ (np tr (fun _ _ _ z=>by cases z)) (s1 _ _ tr),u2 _ _ (np te (fun _ _ _ z=>by cases z)) (s1 _ _ te)⟩;refine⟨_,rfl,p,C,dx,_,_,rfl,p2,Y.cl,Y.n_board,c1,B.b,CB,dB,_,_,rfl,b2,W.cl,W.n_given,(dN _ _ _ _).1,B.g,dT,_,rfl,g2,iS,_,rfl,p,C,dx,_,_,rfl,p2,Y.cl,Y.n_column,c2,_,rfl,p,C,dx,_,_,rfl,p2,Y.cl,Y.n_place,c3,_,rfl,p,C,dx,_,_,rfl,p2,Y.cl,Y.n_after,c4,B.g,B.r,B.e,B.xs,B.n,B.kvs,t,l,ys,i,v,d,rfl,tb2,ht,hv,u2 _ _ (np hl (fun _ _ _ z=>by cases z)) (s1 _ _ hl),hi,by omega,(hpv.same s1).keep kt,fun H3 s3=> ?_⟩;exact q _ (fun x o n1 n2 z=>by rw[aH n2];exact s3 _ _ (u2 _ _ n1 (s1 _ _ z))) aI
end
def dZ(bd ch fi:Addr):List (Str×V):=[("boards",V.ref bd),("changes",V.ref ch),("finder",V.ref fi)]
theorem lY(bd ch fi:Addr):(dZ bd ch fi).lookup ("boards":Str)=some (.ref bd)/\(dZ bd ch fi).lookup ("changes":Str)=some (.ref ch)/\(dZ bd ch fi).lookup ("finder":Str)=some (.ref fi)/\∀fi',aN "finder" (.ref fi') (dZ bd ch fi)=dZ bd ch fi':=⟨rfl,rfl,rfl,fun _=>rfl⟩
theorem fN(h:(m==("boards":Str)||m==("changes":Str)||m==("finder":Str))=false:=by decide+kernel):(dZ bd ch fi).lookup m=none:=by
 simp only[Bool.or_eq_false_iff]at h;obtain⟨⟨h1,h2⟩,h3⟩:=h;unfold dZ;simp[List.lookup,h1,h2,h3]
def gY(bd fd lk:Addr):List (Str×V):=[("boards",V.ref bd),("found",V.ref fd),("looked",V.ref lk)]
theorem jO(bd fd lk:Addr):(gY bd fd lk).lookup ("boards":Str)=some (.ref bd)/\(gY bd fd lk).lookup ("found":Str)=some (.ref fd)/\(gY bd fd lk).lookup ("looked":Str)=some (.ref lk):=⟨rfl,rfl,rfl⟩
theorem jJ(h:(m==("boards":Str)||m==("found":Str)||m==("looked":Str))=false:=by decide+kernel):(gY bd fd lk).lookup m=none:=by
 simp only[Bool.or_eq_false_iff]at h;obtain⟨⟨h1,h2⟩,h3⟩:=h;unfold gY;simp[List.lookup,h1,h2,h3]
section
inductive xS(C:Addr)(vs:List V)(H:Hp)(Q:VK)(E:XK):Prop
 |mk (p dx bd:Addr):vs= [.ref p,.ref bd] ->H p=some (.ins C dx [])->(∀H' fd lk,H fd=none->H lk=none->fd≠lk->H' p=some (.ins C dx (gY bd fd lk))->H' fd=some (.dT [])->H' lk=some (.dT [])->bC p H H'->Q .non H')->xS C vs H Q E
theorem b0l:aY ["self","boards"] ["self","boards"] (aL a2A):={}
theorem a12(T:bA K mg)(Y:fO K mg C):eO P w K mg af aD 1 C ["self","boards"] (xS C):=by
 refine(Y.m_init.known b0l (fun _ _ _ _ _ _ us hl=>eG (fun _ _=>rfl) us hl) (fun vs H Q E h=> ?_) (fun f ah A ag s H vs Q E hr h=> ?_)).init Y.mks Y.kc
 ·obtain⟨p,dx,bd,rfl,_⟩:=h
  rfl
 ·obtain⟨p,dx,bd,rfl,hp,q⟩:=h
  refine⟨_,(aJ (cV (pv 0) (pv 1) rfl) (aJ (cV (pv 0) pJ rfl) (aK (cV (pv 0) pJ rfl)))),?_⟩;refine⟨_,rfl,_,rfl,p,C,dx,[],rfl,hp,Y.cl,Y.n_boards,(by show 0<1000;decide),?_⟩;have u1:∀b o,b≠p->H b=some o->upd H p (.ins C dx (aN "boards" (.ref bd) [])) b=some o:=fun b o n z=>by rw[aH n];exact z
  have p1:upd H p (.ins C dx (aN "boards" (.ref bd) [])) p=some (.ins C dx (aN "boards" (.ref bd) [])):=aI;have n1:∀b,upd H p (.ins C dx (aN "boards" (.ref bd) [])) b=none->H b=none/\b≠p:=fun b z=>by
   have:b≠p:=fun y=>by rw[y,aI]at z;cases z
   rw[aH this]at z;exact⟨z,this⟩
  generalize upd H p (.ins C dx (aN "boards" (.ref bd) []))=H1 at u1 p1 n1|-
  refine fun fd hfd=> ?_
  have s2:=aF.new (o:=.dT []) hfd;have h2:upd H1 fd (.dT []) fd=some (.dT []):=aI;have n2:∀b,upd H1 fd (.dT []) b=none->H1 b=none/\b≠fd:=fun b z=>by
   have:b≠fd:=fun y=>by rw[y,aI]at z;cases z
   rw[aH this]at z;exact⟨z,this⟩
  refine⟨_,rfl,p,C,dx,_,rfl,s2 _ _ p1,Y.cl,Y.n_found,(by show 1<1000;decide),?_⟩;have hf:=n1 _ hfd
  generalize upd H1 fd (.dT [])=H2 at s2 h2 n2|-
  have u3:∀b o,b≠p->H2 b=some o->upd H2 p (.ins C dx (aN "found" (.ref fd) (aN "boards" (.ref bd) []))) b=some o:=fun b o n z=>by rw[aH n];exact z
  have p3:upd H2 p (.ins C dx (aN "found" (.ref fd) (aN "boards" (.ref bd) []))) p=some (.ins C dx (aN "found" (.ref fd) (aN "boards" (.ref bd) []))):=aI;have n3:∀b,upd H2 p (.ins C dx (aN "found" (.ref fd) (aN "boards" (.ref bd) []))) b=none->H2 b=none/\b≠p:=fun b z=>by
   have:b≠p:=fun y=>by rw[y,aI]at z;cases z
   rw[aH this]at z;exact⟨z,this⟩
  generalize upd H2 p (.ins C dx (aN "found" (.ref fd) (aN "boards" (.ref bd) [])))=H3 at u3 p3 n3|-
  refine fun lk hlk=> ?_
  have s4:=aF.new (o:=.dT []) hlk;have h4:upd H3 lk (.dT []) lk=some (.dT []):=aI;refine⟨_,rfl,p,C,dx,_,rfl,s4 _ _ p3,Y.cl,Y.n_looked,(by show 2<1000;decide),?_⟩;have k3:=n3 _ hlk;have k2:=n2 _ k3.1;have k1:=n1 _ k2.1
  generalize upd H3 lk (.dT [])=H4 at s4 h4|-
  exact q _ fd lk hf.1 k1.1 k2.2.symm aI (by rw[aH hf.2];exact s4 _ _ (u3 _ _ hf.2 h2)) (by rw[aH k1.2];exact h4) (fun b o n z=>by rw[aH n];exact s4 _ _ (u3 _ _ n (s2 _ _ (u1 _ _ n z))))
inductive rB(CS CF C:Addr)(sp:Sp)(vs:List V)(H:Hp)(Q:VK)(E:XK):Prop
 |mk (s c bd ch fi dx dc:Addr) (cs:List V) (fs:List (Str×V)):vs= [.ref s,.ref c] ->H c=some (.ins C dc fs)->fs.lookup ("take":Str)=none->(sp [.ref c] H (fun _ H1=>H1 s=some (.ins CS dx (dZ bd ch fi))/\H1 ch=some (.lst cs)/\cs.length<900/\∀H2 fi' fd lk df,H1 fi'=none->H1 fd=none->H1 lk=none->fd≠lk->H2 s=some (.ins CS dx (dZ bd ch fi'))->H2 ch=some (.lst (cs++ [.ref c]))->H2 fi'=some (.ins CF df (gY bd fd lk))->H2 fd=some (.dT [])->H2 lk=some (.dT [])->
  (∀x o,x≠s->x≠ch->H1 x=some o->H2 x=some o)->Q .non H2) E0)->rB CS CF C sp vs H Q E
theorem a6N:aY ["self","change"] ["self","change"] (aL a1C):={}
def oM(sp:Sp):Prop:=∀vs H (Q Q':VK),(∀v H',Q v H'->Q' v H')->sp vs H Q E0->sp vs H Q' E0
theorem vE(T:bA K mg)(Y:gR K mg CS)(Z:fO K mg CF)(cl:cG K C)(mono:oM sp)(G:aS P w K mg af aD 7 C "take" ["self"] sp):aS P w K mg af aD 8 CS "make" ["self","change"] (rB CS CF C sp):=by
 have GI:eO P w K mg af aD 1 CF ["self","boards"] (xS CF):=a12 T Z;refine Y.m_make.known a6N (fun _ _ _ _ _ _ us hl=>eG (fun _ _=>rfl) us hl) (fun vs H Q E h=> ?_) (fun f ah A ag s H vs Q E hr h=> ?_)
 ·obtain⟨s',c,bd,ch,fi,dx,dc,cs,fs,rfl,_⟩:=h
  rfl
 ·obtain⟨s',c,bd,ch,fi,dx,dc,cs,fs,rfl,hc,hf,q⟩:=h
  refine⟨_,(aJ (bW (mU (pv 1) cl G hr aO))
   (aJ (bW (lZ F.plainAttrs_list F.slot_list_append F.type_list_append lO (aV (pv 0) rfl) (aA (pv 1) aG)))
   (aK (cV (pv 0) (jE GI hr.mn Z.c aO (aA (aV (pv 0) rfl) aG)) rfl)))),?_⟩
  refine⟨_,rfl,c,dc,fs,rfl,hc,hf,?_⟩;refine mono _ _ _ _ (fun v0 H1 hQ=> ?_) q;obtain⟨h1,h2,l9,qq⟩:=hQ;obtain⟨a1,a2,a3,a4⟩:=lY bd ch fi;refine⟨_,rfl,s',CS,dx,_,_,rfl,h1,Y.cl,Y.n_changes,a2,.inl ⟨rfl,_,aM.of h2⟩,_,rfl,ch,_,_,rfl,rfl,h2,eD (by omega),?_⟩;have nsc:s'≠ch:=fun z=>by rw[z,h2]at h1;cases h1
  have u2:∀x o,x≠ch->H1 x=some o->upd H1 ch (.lst (cs++ [.ref c])) x=some o:=fun x o n z=>by rw[aH n];exact z
  have c2:upd H1 ch (.lst (cs++ [.ref c])) ch=some (.lst (cs++ [.ref c])):=aI;have n2:∀b,upd H1 ch (.lst (cs++ [.ref c])) b=none->H1 b=none/\b≠ch:=fun b z=>by
   have:b≠ch:=fun y=>by rw[y,aI]at z;cases z
   rw[aH this]at z;exact⟨z,this⟩
  generalize upd H1 ch (.lst (cs++ [.ref c]))=H2 at u2 c2 n2|-
  have s2:=u2 _ _ nsc h1;refine⟨_,rfl,s',CS,dx,_,_,rfl,s2,Y.cl,Y.n_boards,a1,?_⟩;intro fi' df hfi hdf ne;refine⟨fi',df,bd,rfl,aI,fun H3 fd lk hfd hlk nfl g1 g2 g3 b3=>⟨rfl,?_⟩⟩;have s3:aF H2 H3:=fun b o z=>b3 b o (aX z hfi) (by rw[aH (aX z hfi),aH (aX z hdf)];exact z)
  have fr:∀{x:Addr},upd (upd H2 df (.own fi')) fi' (.ins CF df []) x=none->H2 x=none:=fun{x} z=>by
   by_cases z1:x=fi'
   ·rw[z1];exact hfi
   ·by_cases z2:x=df
    ·rw[z2];exact hdf
    ·rw[aH z1,aH z2]at z;exact z
  refine⟨_,rfl,s',CS,dx,_,rfl,s3 _ _ s2,Y.cl,Y.n_finder,(by show 3<1000;decide),?_⟩;rw[a4];have ns:∀{x:Addr},H2 x=none->x≠s':=fun z y=>by rw[y,s2]at z;cases z
  exact qq _ fi' fd lk df (n2 _ hfi).1 (n2 _ (fr hfd)).1 (n2 _ (fr hlk)).1 nfl aI (by rw[aH nsc.symm];exact s3 _ _ c2) (by rw[aH (ns hfi)];exact g1) (by rw[aH (ns (fr hfd))];exact g2) (by rw[aH (ns (fr hlk))];exact g3) (fun x o n1 n2' z=>by rw[aH n1];exact s3 _ _ (u2 _ _ n2' z))
inductive vY(CS CB CT:Addr)(vs:List V)(H:Hp)(Q:VK)(E:XK):Prop
 |mk (s bd ch fi dx:Addr) (kb:List (aB×V)) (nm:Str) (v:V):vs= [.ref s,.str nm] ->H s=some (.ins CS dx (dZ bd ch fi))->H bd=some (.dK kb)->Nl nm->aE kb (.inr nm:aB)=some v->(∀H',aF H H'->Q v H')->vY CS CB CT vs H Q E
theorem a7w:aY ["self","table"] ["self","table"] (aL a1z):={}
theorem a2o(T:bA K mg)(Y:gR K mg CS):aS P w K mg af aD 2 CS "board_of" ["self","table"] (vY CS CB CT):=by
 have G_is_name:bD P w K mg af aD 1 "is_name" ["thing"] (lN K):=nF T;refine Y.m_board_of.known a7w (fun _ _ _ _ _ _ us hl=>eG (fun _ _=>rfl) us hl) (fun vs H Q E h=> ?_) (fun f ah A ag s H vs Q E hr h=> ?_)
 ·obtain⟨s',bd,ch,fi,dx,kb,nm,v,rfl,_⟩:=h
  rfl
 ·obtain⟨s',bd,ch,fi,dx,kb,nm,v,rfl,h1,h2,ht,hv,q⟩:=h
  refine⟨_,(aJ (bI (PW.pt (iN (fS (dH (bK G_is_name hr.mn aO (aA (pv 1) aG)) (fun _=>rfl))) (kE (iY (lP (dY hr) (pv 1) (aV (pv 0) rfl)))))) (aK cJ) bL)
   (aK (bH (gE (dY hr) (aV (pv 0) rfl) (pv 1) (fun _ _=>rfl))))),?_⟩
  have h8:=ht.2.1;refine⟨_,rfl,_,.str nm,rfl,.str nm,lV (by omega),fun H' s9=>⟨_,rfl,?_⟩⟩;rw[show fZ (.str nm)=true from ht.name];refine bG ⟨_,rfl,_,rfl,s',CS,dx,_,_,rfl,s9 _ _ h1,Y.cl,Y.n_boards,(lY _ _ _).1,bd,_,rfl,bU.k (k:=Sum.inr nm) (s9 _ _ h2),_,rfl,?_⟩;rw[hv];exact bG ⟨_,rfl,s',CS,dx,_,_,rfl,s9 _ _ h1,Y.cl,Y.n_boards,(lY _ _ _).1,_,rfl,bd,v,rfl,hv▸bU.k (k:=Sum.inr nm) (s9 _ _ h2),q _ s9⟩
inductive uU(CS CB CT:Addr)(vs:List V)(H:Hp)(Q:VK)(E:XK):Prop
 |mk (s bd ch fi dx:Addr) (kb:List (aB×V)) (nm t:Str) (B:BM):vs= [.ref s,.str nm,.str t] ->H s=some (.ins CS dx (dZ bd ch fi))->H bd=some (.dK kb)->Nl nm->aE kb (.inr nm:aB)=some (.ref B.b)->cO CB CT H B->Nl t->t∈B.ord->(∀H',aF H H'->Q (.ref B.b) H')->uU CS CB CT vs H Q E
theorem a2G:aY ["self","table","column","board"] ["self","table","column"] (aL a4C):={}
theorem a3h(T:bA K mg)(Y:gR K mg CS)(W:cY K mg CB):aS P w K mg af aD 3 CS "board_with" ["self","table","column"] (uU CS CB CT):=by
 have G_of:aS P w K mg af aD 2 CS "board_of" ["self","table"] (vY CS CB CT):=a2o T Y;have G_has:aS P w K mg af aD 2 CB "has_column" ["self","column"] (xH CB CT):=a37 T W;refine Y.m_board_with.known a2G (fun _ _ _ _ _ _ us hl=>jN (fun _ _ _=>rfl) us hl) (fun vs H Q E h=> ?_) (fun f ah A ag s H vs Q E hr h=> ?_)
 ·obtain⟨s',bd,ch,fi,dx,kb,nm,t,B,rfl,_⟩:=h
  rfl
 ·obtain⟨s',bd,ch,fi,dx,kb,nm,t,B,rfl,h1,h2,hn,hv,hB,ht,ho,q⟩:=h
  refine⟨_,(aJ (cA (i:=3) a2G.nd rfl (Or.inl rfl) (cF (pv 0) Y.cl G_of hr aO (aA (pv 1) aG)))
   (aJ (bI (fS (dH (cF (pv 3) W.cl G_has hr aO (aA (pv 2) aG)) (fun _=>rfl))) (aK cJ) bL)
   (aK (bH (pv 3))))),?_⟩
  refine⟨_,rfl,s',dx,_,rfl,h1,fN,_,rfl,s',bd,ch,fi,dx,kb,nm,_,rfl,h1,h2,hn,hv,fun H1 s1=> ?_⟩;have hB1:=hB.same s1;obtain⟨dB,b1⟩:=hB1.at_;refine⟨_,rfl,B.b,dB,_,rfl,b1,oI,_,rfl,B,t,rfl,hB1,ht,fun H2 s2=>⟨_,rfl,?_⟩⟩;rw[decide_eq_true ho];exact bG ⟨_,rfl,q _ (s1.trans s2)⟩
inductive xP(CS CB CT:Addr)(vs:List V)(H:Hp)(Q:VK)(E:XK):Prop
 |mk (s bd ch fi dx:Addr) (kb:List (aB×V)) (nm t:Str) (B:BM):vs= [.ref s,.str nm,.str t] ->H s=some (.ins CS dx (dZ bd ch fi))->H bd=some (.dK kb)->Nl nm->aE kb (.inr nm:aB)=some (.ref B.b)->cO CB CT H B->Nl t->B.ord.length<8->(∀H',aF H H'->Q (.ref B.b) H')->xP CS CB CT vs H Q E
theorem a2j:aY ["self","table","column","board"] ["self","table","column"] (aL a3g):={}
theorem a4R(T:bA K mg)(Y:gR K mg CS)(W:cY K mg CB):aS P w K mg af aD 3 CS "board_for" ["self","table","column"] (xP CS CB CT):=by
 have G_of:aS P w K mg af aD 2 CS "board_of" ["self","table"] (vY CS CB CT):=a2o T Y;have G_is_name:bD P w K mg af aD 1 "is_name" ["thing"] (lN K):=nF T;refine Y.m_board_for.known a2j (fun _ _ _ _ _ _ us hl=>jN (fun _ _ _=>rfl) us hl) (fun vs H Q E h=> ?_) (fun f ah A ag s H vs Q E hr h=> ?_)
 ·obtain⟨s',bd,ch,fi,dx,kb,nm,t,B,rfl,_⟩:=h
  rfl
 ·obtain⟨s',bd,ch,fi,dx,kb,nm,t,B,rfl,h1,h2,hn,hv,hB,ht,ho,q⟩:=h
  refine⟨_,(aJ (cA (i:=3) a2j.nd rfl (Or.inl rfl) (cF (pv 0) Y.cl G_of hr aO (aA (pv 1) aG)))
   (aJ (bI (fS (dH (bK G_is_name hr.mn aO (aA (pv 2) aG)) (fun _=>rfl))) (aK cJ) bL)
   (aJ (bI (PW.pt (oP (cR zX (pv 2) (aV (pv 3) rfl) (by with_unfolding_all rfl)) (oH (cR a0K (dC jX rfl T.len iR (aA (aV (pv 3) rfl) aG)) (qD T.g_MOST_COLUMNS) (dA _))))) (aK cJ) bL)
   (aK (bH (pv 3)))))),?_⟩
  refine⟨_,rfl,s',dx,_,rfl,h1,fN,_,rfl,s',bd,ch,fi,dx,kb,nm,_,rfl,h1,h2,hn,hv,fun H1 s1=> ?_⟩;have h8:=ht.2.1;refine⟨_,rfl,_,.str t,rfl,.str t,lV (by omega),fun H2 s2=>⟨_,rfl,?_⟩⟩;rw[show fZ (.str t)=true from ht.name];obtain⟨⟨dB,b1⟩,_,_,_,o1⟩:=(hB.same s1).same s2;refine bG ⟨_,rfl,_,rfl,B.b,CB,dB,_,_,rfl,b1,W.cl,W.n_order,(dN _ _ _ _).2.2.2,B.od,_,rfl,.inl (aM.of o1),rfl,oO _,_,rfl,?_⟩;have fin:Q (.ref B.b) H2:=q _ (s1.trans s2);refine bY (fun _=> ?_) (fun _=> ?_)
  ·refine⟨_,rfl,B.b,CB,dB,_,_,rfl,b1,W.cl,W.n_order,(dN _ _ _ _).2.2.2,_,_,rfl,.inl ⟨_,aM.of o1,rfl⟩,_,_,rfl,rfl,_,rfl,?_⟩
   rw[List.length_map,decide_eq_false (show¬(B.ord.length:Int)>=8 by omega)];exact bG ⟨_,rfl,fin⟩
  ·exact bG ⟨_,rfl,fin⟩
end
abbrev Ky:=List aB
variable{kf kf' kl:List (My.Ky×V)}
def bE(t c:Str)(p:Nat):Ky:=[.inr t,.inr c,.inl (p:Int)]
structure dR(CF CB CT:Addr)(H:Hp)(fi bd fd lk:Addr)(nm:Str)(B:BM)(kf:List (Ky×V)):Prop where
 fin:∃dx,H fi=some (.ins CF dx (gY bd fd lk))
 bds:∃kb,H bd=some (.dK kb)/\aE kb (.inr nm:aB)=some (.ref B.b)
 B:cO CB CT H B
 fnd:H fd=some (.dT kf)
 len:kf.length<900
theorem dR.same{nm:Str}{B:BM}(h:dR CF CB CT H fi bd fd lk nm B kf)(s:aF H H'):dR CF CB CT H' fi bd fd lk nm B kf:=
 ⟨let ⟨dx,e⟩:=h.fin;⟨dx,s _ _ e⟩,let ⟨kb,e1,e2⟩:=h.bds;⟨kb,s _ _ e1,e2⟩,h.B.same s,s _ _ h.fnd,h.len⟩
theorem dR.put{nm:Str}{B:BM}(h:dR CF CB CT H fi bd fd lk nm B kf)(s:bC fd H H')(e:H' fd=some (.dT kf'))(l:kf'.length<900):dR CF CB CT H' fi bd fd lk nm B kf':=by
 have u:∀{x:Addr} {o:HO},H x=some o->(∀kvs,o≠ .dT kvs)->H' x=some o:=fun z n=>s _ _ (fun y=>by rw[y,h.fnd]at z;exact n _ (Option.some.inj z).symm) z
 obtain⟨dx,e1⟩:=h.fin;obtain⟨kb,e2,e3⟩:=h.bds;obtain⟨⟨d1,b1⟩,⟨⟨d2,b2⟩,b3,b4⟩,b5,b6,b7⟩:=h.B;exact⟨⟨dx,u e1 (fun _ z=>by cases z)⟩,⟨kb,u e2 (fun _ z=>by cases z),e3⟩,⟨⟨d1,u b1 (fun _ z=>by cases z)⟩,⟨⟨d2,u b2 (fun _ z=>by cases z)⟩,u b3 (fun _ z=>by cases z),u b4 (fun _ z=>by cases z)⟩,u b5 (fun _ z=>by cases z),u b6 (fun _ z=>by cases z),u b7 (fun _ z=>by cases z)⟩,e,l⟩
section
inductive vT(CF CB CT:Addr)(vs:List V)(H:Hp)(Q:VK)(E:XK):Prop
 |mk (fi bd fd lk ce l:Addr) (nm c:Str) (p:Nat) (B:BM) (kf:List (Ky×V)) (ys:List V) (v:V):vs= [.ref fi,.ref ce] ->dR CF CB CT H fi bd fd lk nm B kf->H ce=some (.tup ((bE nm c p).map kV))->aE B.rus (.inr c:aB)=none->Nl c->aE B.kvs (.inr c:aB)=some (.ref l)->H l=some (.lst ys)->p<B.xs.length->cL ys (p:Int)=some v->(∀v',aE kf (bE nm c p)=some v'->v'=v)->kf.length<899->(∀H' kf',(kf'=kf\/ kf'=aR kf (bE nm c p) v)->aE kf' (bE nm c p)=some v->dR CF CB CT H' fi bd fd lk nm B kf'->bC fd H H'->Q (.bl true) H')->vT CF CB CT vs H Q E
theorem wC:aY ["self","cell","board"] ["self","cell"] (aL a3v):={}
theorem a36(T:bA K mg)(Y:fO K mg CF)(W:cY K mg CB)(Z:dQ K mg CT):aS P w K mg af aD 4 CF "knows" ["self","cell"] (vT CF CB CT):=by
 have G_at:aS P w K mg af aD 3 CT "at" ["self","column","place"] (vA CT):=a4q T Z;refine Y.m_knows.known wC (fun _ _ _ _ _ _ us hl=>eG (fun _ _=>rfl) us hl) (fun vs H Q E h=> ?_) (fun f ah A ag s H vs Q E hr h=> ?_)
 ·obtain⟨fi,bd,fd,lk,ce,l,nm,c,p,B,kf,ys,v,rfl,_⟩:=h
  rfl
 ·obtain⟨fi,bd,fd,lk,ce,l,nm,c,p,B,kf,ys,v,rfl,hF,hce,hru,hc,hv,hl,hp,ha,hcon,kl,q⟩:=h
  have hu:=dY hr
  refine⟨_,(aJ (cA (i:=2) wC.nd rfl (Or.inl rfl) (gE hu (aV (pv 0) rfl) (cW fQ (pv 1) bB (fun _ _=>rfl)) (fun _ _=>rfl)))
   (aJ (bI (PW.pt (oP (iY (lP hu (pv 1) (aV (pv 0) rfl))) (oH (iY (lP hu (cW fQ (pv 1) bB (fun _ _=>rfl)) (aV (pv 2) rfl)))))) (aK (iX hu (aV (pv 0) rfl) (pv 1) (cF (aV (pv 2) rfl) Z.cl G_at hr aO (aA (cW fQ (pv 1) bB (fun _ _=>rfl)) (aA (cW fQ (pv 1) bB (fun _ _=>rfl)) aG))) rfl)) bL)
   (aK (bH (yI (oC hu (pv 1) (aV (pv 0) rfl)) (by with_unfolding_all rfl)))))),?_⟩
  obtain⟨dx,e1⟩:=hF.fin;obtain⟨kb,e2,e3⟩:=hF.bds;obtain⟨⟨d1,b1⟩,tb,b5,_,_⟩:=id hF.B;obtain⟨⟨d2,b2⟩,b3,b4⟩:=id tb;have e4:=hF.fnd;obtain⟨a1,a2,a3⟩:=jO bd fd lk;refine⟨_,rfl,fi,CF,dx,_,_,rfl,e1,Y.cl,Y.n_boards,a1,_,rfl,ce,_,_,_,rfl,rfl,bR.of hce,rfl,bd,_,rfl,e3▸bU.k (k:=Sum.inr nm) e2,?_⟩;have dgf:∀{H':Hp} {kf':List (Ky×V)},H' fd=some (.dT kf')->H' ce=some (.tup ((bE nm c p).map kV))->bU H' fd (.ref ce) (aE kf' (bE nm c p)):=fun e g=> .inr ⟨_,bE nm c p,ce,.inl e,rfl,g,rfl⟩
  refine⟨_,rfl,_,rfl,fi,CF,dx,_,_,rfl,e1,Y.cl,Y.n_found,a2,fd,_,rfl,dgf e4 hce,_,rfl,?_⟩
  cases hk:aE kf (bE nm c p)with
  |some v'=>
   obtain rfl:=hcon v' hk;refine bG (bG ⟨_,rfl,_,rfl,fi,CF,dx,_,_,rfl,e1,Y.cl,Y.n_found,a2,fd,_,rfl,dgf e4 hce,?_⟩);rw[hk];exact q H kf (.inl rfl) hk hF (bC.of (aF.refl H))
  |none=>
   refine cI ⟨_,rfl,ce,_,_,_,rfl,rfl,bR.of hce,rfl,_,rfl,B.b,CB,d1,_,_,rfl,b1,W.cl,W.n_rules,(dN _ _ _ _).2.1,B.ru,_,rfl,bU.k (k:=Sum.inr c) b5,_,rfl,?_⟩;rw[hru];refine cI ⟨_,rfl,B.b,CB,d1,_,_,rfl,b1,W.cl,W.n_given,(dN _ _ _ _).1,B.g,d2,_,rfl,b2,iS,_,rfl,ce,_,_,_,rfl,rfl,bR.of hce,rfl,_,rfl,ce,_,_,_,rfl,rfl,bR.of hce,rfl,B.g,B.r,B.e,B.xs,B.n,B.kvs,c,l,ys,p,v,rfl,tb,hc,hv,hl,hp,ha,fun H1 s1=> ?_⟩;have F1:=hF.same s1;have c1:=s1 _ _ hce;have nce:ce≠fd:=fun z=>by rw[z,e4]at hce;cases hce
   refine⟨_,rfl,fi,CF,dx,_,_,rfl,s1 _ _ e1,Y.cl,Y.n_found,a2,_,rfl,fd,_,rfl,.inr ⟨kf,bE nm c p,ce,F1.fnd,rfl,c1,eD (by omega),rfl⟩,?_⟩
   have vp:aE (aR kf (bE nm c p) v) (bE nm c p)=some v:=by rw[gA,if_pos rfl]
   have lp:=a0C kf (bE nm c p) v;have b2':bC fd H1 (upd H1 fd (.dT (aR kf (bE nm c p) v))):=fun b o n z=>by rw[aH n];exact z
   have F2:=F1.put b2' aI (by omega);have c2:=b2' _ _ nce c1;have f2:=F2.fnd
   generalize upd H1 fd (.dT (aR kf (bE nm c p) v))=H2 at b2' F2 c2 f2|-
   obtain⟨dx2,e12⟩:=F2.fin;refine⟨_,rfl,_,rfl,fi,CF,dx2,_,_,rfl,e12,Y.cl,Y.n_found,a2,fd,_,rfl,dgf f2 c2,?_⟩;rw[vp];exact q H2 _ (.inr rfl) vp F2 ((bC.of s1).trans b2')
inductive uL(CF CB CT:Addr)(vs:List V)(H:Hp)(Q:VK)(E:XK):Prop
 |mk (fi bd fd lk ce:Addr) (nm c:Str) (p:Nat) (B:BM) (kf:List (Ky×V)) (r:V):vs= [.ref fi,.ref ce] ->dR CF CB CT H fi bd fd lk nm B kf->H ce=some (.tup ((bE nm c p).map kV))->aE B.rus (.inr c:aB)=some r->Q (.bl (aE kf (bE nm c p)).isSome) H->uL CF CB CT vs H Q E
theorem yY(T:bA K mg)(Y:fO K mg CF)(W:cY K mg CB):aS P w K mg af aD 4 CF "knows" ["self","cell"] (uL CF CB CT):=by
 refine Y.m_knows.known wC (fun _ _ _ _ _ _ us hl=>eG (fun _ _=>rfl) us hl) (fun vs H Q E h=> ?_) (fun f ah A ag s H vs Q E hr h=> ?_)
 ·obtain⟨fi,bd,fd,lk,ce,nm,c,p,B,kf,r,rfl,_⟩:=h
  rfl
 ·obtain⟨fi,bd,fd,lk,ce,nm,c,p,B,kf,r,rfl,hF,hce,hru,q⟩:=h
  have hu:=dY hr
  refine⟨_,(aJ (cA (i:=2) wC.nd rfl (Or.inl rfl) (gE hu (aV (pv 0) rfl) (cW fQ (pv 1) bB (fun _ _=>rfl)) (fun _ _=>rfl)))
   (aJ (bI (PW.pt (oP (iY (lP hu (pv 1) (aV (pv 0) rfl))) (oH (iY (lP hu (cW fQ (pv 1) bB (fun _ _=>rfl)) (aV (pv 2) rfl)))))) (aK cJ) bL)
   (aK (bH (yI (oC hu (pv 1) (aV (pv 0) rfl)) (by with_unfolding_all rfl)))))),?_⟩
  obtain⟨dx,e1⟩:=hF.fin;obtain⟨kb,e2,e3⟩:=hF.bds;obtain⟨⟨d1,b1⟩,tb,b5,_,_⟩:=id hF.B;have e4:=hF.fnd;obtain⟨a1,a2,a3⟩:=jO bd fd lk;refine⟨_,rfl,fi,CF,dx,_,_,rfl,e1,Y.cl,Y.n_boards,a1,_,rfl,ce,_,_,_,rfl,rfl,bR.of hce,rfl,bd,_,rfl,e3▸bU.k (k:=Sum.inr nm) e2,?_⟩;have dgf:bU H fd (.ref ce) (aE kf (bE nm c p)):=.inr ⟨_,bE nm c p,ce,.inl e4,rfl,hce,rfl⟩;refine⟨_,rfl,_,rfl,fi,CF,dx,_,_,rfl,e1,Y.cl,Y.n_found,a2,fd,_,rfl,dgf,_,rfl,?_⟩;refine bY (fun _=> ?_) (fun _=> ?_)
  ·refine⟨_,rfl,ce,_,_,_,rfl,rfl,bR.of hce,rfl,_,rfl,B.b,CB,d1,_,_,rfl,b1,W.cl,W.n_rules,(dN _ _ _ _).2.1,B.ru,_,rfl,bU.k (k:=Sum.inr c) b5,_,rfl,?_⟩
   rw[hru];exact bG ⟨_,rfl,_,rfl,fi,CF,dx,_,_,rfl,e1,Y.cl,Y.n_found,a2,fd,_,rfl,dgf,q⟩
  ·exact bG ⟨_,rfl,_,rfl,fi,CF,dx,_,_,rfl,e1,Y.cl,Y.n_found,a2,fd,_,rfl,dgf,q⟩
def eF(fi tl:Addr)(u:V):List (Str×V):=[("finder",V.ref fi),("looked",V.ref tl),("lacking",u)]
theorem rM(fi tl:Addr)(u:V):(eF fi tl u).lookup ("finder":Str)=some (.ref fi)/\(eF fi tl u).lookup ("looked":Str)=some (.ref tl)/\(eF fi tl u).lookup ("lacking":Str)=some u/\(eF fi tl u).lookup ("look":Str)=none:=⟨rfl,rfl,rfl,rfl⟩
inductive yU(C:Addr)(vs:List V)(H:Hp)(Q:VK)(E:XK):Prop
 |mk (p dx fi:Addr):vs= [.ref p,.ref fi] ->H p=some (.ins C dx [])->(∀H' tl,H tl=none->H' p=some (.ins C dx (eF fi tl .non))->H' tl=some (.dT [])->bC p H H'->Q .non H')->yU C vs H Q E
theorem a9P:aY ["self","finder"] ["self","finder"] (aL a3O):={}
theorem a65(T:bA K mg)(Y:mR K mg C):eO P w K mg af aD 1 C ["self","finder"] (yU C):=by
 refine(Y.m_init.known a9P (fun _ _ _ _ _ _ us hl=>eG (fun _ _=>rfl) us hl) (fun vs H Q E h=> ?_) (fun f ah A ag s H vs Q E hr h=> ?_)).init Y.mks Y.kc
 ·obtain⟨p,dx,fi,rfl,_⟩:=h
  rfl
 ·obtain⟨p,dx,fi,rfl,hp,q⟩:=h
  refine⟨_,(aJ (cV (pv 0) (pv 1) rfl) (aJ (cV (pv 0) pJ rfl) (aK (cV (pv 0) gT rfl)))),?_⟩;refine⟨_,rfl,_,rfl,p,C,dx,[],rfl,hp,Y.cl,Y.n_finder,(by show 0<1000;decide),?_⟩;have u1:∀b o,b≠p->H b=some o->upd H p (.ins C dx (aN "finder" (.ref fi) [])) b=some o:=fun b o n z=>by rw[aH n];exact z
  have p1:upd H p (.ins C dx (aN "finder" (.ref fi) [])) p=some (.ins C dx (aN "finder" (.ref fi) [])):=aI;have n1:∀b,upd H p (.ins C dx (aN "finder" (.ref fi) [])) b=none->H b=none/\b≠p:=fun b z=>by
   have:b≠p:=fun y=>by rw[y,aI]at z;cases z
   rw[aH this]at z;exact⟨z,this⟩
  generalize upd H p (.ins C dx (aN "finder" (.ref fi) []))=H1 at u1 p1 n1|-
  refine fun tl htl=> ?_
  have s2:=aF.new (o:=.dT []) htl;have h2:upd H1 tl (.dT []) tl=some (.dT []):=aI;refine⟨_,rfl,p,C,dx,_,rfl,s2 _ _ p1,Y.cl,Y.n_looked,(by show 1<1000;decide),?_⟩;have ht:=n1 _ htl
  generalize upd H1 tl (.dT [])=H2 at s2 h2|-
  refine⟨_,rfl,p,C,dx,_,rfl,aI,Y.cl,Y.n_lacking,(by show 2<1000;decide),?_⟩;exact q _ tl ht.1 aI (by rw[aH ht.2,aH ht.2];exact h2) (fun b o n z=>by rw[aH n,aH n];exact s2 _ _ (u1 _ _ n z))
theorem a2i:aY ["self","table","column","place","cell"] ["self","table","column","place"] (aL a3Y):={}
end
abbrev aQ:=Str×Str×Nat
variable{wo wo':My.aQ->Option (List Int×V)}{Vc:My.aQ->Prop}
def cK(x:aQ):Ky:=bE x.1 x.2.1 x.2.2
theorem sM{x y:aQ}(h:cK x=cK y):x=y:=by
 unfold cK bE at h;simp only[List.cons.injEq,Sum.inr.injEq,Sum.inl.injEq,and_true]at h;exact Prod.ext h.1 (Prod.ext h.2.1 (by omega))
inductive GT where
 |done(t:PyData ⊕ List Int)
 |look(c:aQ)(k:PyData->GT)
variable{J:Option My.GT->Hp->Prop}
def GT.run(val:aQ->PyData):GT->PyData ⊕ List Int
 | .done t=>t
 | .look c k=>(k (val c)).run val
def GT.looks(val:aQ->PyData):GT->List aQ
 | .done _=> []
 | .look c k=>c::(k (val c)).looks val
inductive GT.Path(val:aQ->PyData)(τ:GT):List aQ->GT->Prop
 |nil:GT.Path val τ [] τ
 |snoc {us:List aQ} {c:aQ} {k:PyData->GT} (h:GT.Path val τ us (.look c k)):GT.Path val τ (us++ [c]) (k (val c))
theorem GT.Path.run{val:aQ->PyData}{τ τ':GT}{us:List aQ}(h:GT.Path val τ us τ'):τ.run val=τ'.run val:=by
 induction h with
 |nil=>rfl
 |snoc h ih=>exact ih
theorem GT.Path.looks{val:aQ->PyData}{τ τ':GT}{us:List aQ}(h:GT.Path val τ us τ'):τ.looks val=us++ τ'.looks val:=by
 induction h with
 |nil=>rfl
 |snoc h ih=>rw[ih,List.append_assoc];rfl
def isT:PyData->Bool
 | .tuple _=>true
 |_=>false
def bS:PyData->Int
 | .int i=>i
 |_=>0
def fP(k:PyData ⊕ List Int->GT):List aQ->List Int->GT
 | [],acc=>k (.inr acc)
 |c::r,acc=> .look c fun d=>if isT d then k (.inl d) else fP k r (acc++ [bS d])
theorem nN(k:PyData ⊕ List Int->GT)(c:aQ)(r:List aQ)(acc:List Int):fP k (c::r) acc= .look c fun d=>if isT d then k (.inl d) else fP k r (acc++ [bS d]):=by rw[fP]
def kT:PyData:=.tuple [.str "fault",.str "unknown"]
def eI(H H':Hp):Prop:=∀x o,(∃xs,o= .tup xs\/ ∃q,o= .frz q (.tup xs))->H x=some o->H' x=some o
theorem eI.of(s:aF H H'):eI H H':=fun x o _ e=>s _ _ e
theorem eI.t(s:eI H H'):bQ H H':=fun a xs e=>s _ _ ⟨xs,.inl rfl⟩ e
theorem eI.upd{o':HO}(h:H l=some o)(n:∀xs,o≠ .tup xs)(n':∀q xs,o≠ .frz q (.tup xs)):eI H (L2.upd H l o'):=fun x ob hx e=>by
 rw[aH (fun y=>by
  rw[y,h]at e;obtain⟨xs,rfl|⟨q,rfl⟩⟩:=hx
  ·exact n _ (Option.some.inj e)
  ·exact n' _ _ (Option.some.inj e))]
 exact e
theorem yT{v:V}(hv:Vd d)(h:Dt K H v d)(u:eI H H'):Dt K H' v d:=by
 rcases hv with⟨i,rfl,hb⟩|⟨z,rfl,hz⟩
 ·cases h
  exact .int i
 ·cases h with
  |tup hq hall=>
   cases hall with
   |cons h1 t=>
    cases h1
    cases t with
    |cons h2 t=>
     cases h2;cases t;refine .tup ?_ (.cons (.str _) (.cons (.str _) .nil))
     rcases hq with h|h
     ·rcases h with h|⟨o,h⟩
      ·exact .inl (.inl (u _ _ ⟨_,.inl rfl⟩ h))
      ·exact .inl (.inr ⟨o,u _ _ ⟨_,.inr ⟨o,rfl⟩⟩ h⟩)
     ·exact .inr h
def Pd(K:Fg)(H:Hp)(v:V)(d:PyData):Prop:=Vd d/\Dt K H v d
theorem Pd.keep{v:V}(h:Pd K H v d)(u:eI H H'):Pd K H' v d:=⟨h.1,yT h.1 h.2 u⟩
theorem Pd.same{v:V}(h:Pd K H v d)(u:aF H H'):Pd K H' v d:=h.keep (eI.of u)
theorem Pv.pd{v:V}(h:Pv K H v d):Pd K H v d:=⟨h.vd,h.dt⟩
theorem Vd.isT(h:Vd d):jW d=My.isT d:=by
 rcases h with⟨i,rfl,_⟩|⟨z,rfl,hz⟩
 ·rfl
 ·show(decide (("fault":Str)= "fault")&&fZ (.str z))=true
  rw[decide_eq_true rfl,Bool.true_and];exact Nl.name hz
theorem a6X:Vd kT:=.inr ⟨"unknown",rfl,by unfold Nl;decide+kernel⟩
theorem rF{v:V}(h:xs[i]?=some v):cL xs (i:Int)=some v:=by
 have hi:=(List.getElem?_eq_some_iff.mp h).1;unfold cL;rw[a0V (by omega) (by omega),Int.toNat_natCast];exact h
theorem a4k{α:Type}{zs:List α}{z:α}(h:zs[i]?=some z):zs.drop i=z::zs.drop (i+ 1):=by
 obtain⟨hi,e⟩:=List.getElem?_eq_some_iff.mp h;rw[List.drop_eq_getElem_cons hi,e]
theorem a2X{α β:Type}{R:α->β->Prop}:∀{xs:List α} {ys:List β} {i:Nat} {x:α},Paired R xs ys->xs[i]?=some x->∃y,ys[i]?=some y/\R x y
 |_,_,_,_,.nil,e=>by simp at e
 |_,_,0,_,.cons h _,e=>by simp at e;subst e;exact⟨_,rfl,h⟩
 |_,_,i+ 1,_,.cons _ t,e=>by simpa using a2X (i:=i) t (by simpa using e)
theorem Paired.imp{α β:Type}{R R':α->β->Prop}(h:∀a b,R a b->R' a b):∀{xs:List α} {ys:List β},Paired R xs ys->Paired R' xs ys
 |_,_,.nil=> .nil
 |_,_,.cons a t=> .cons (h _ _ a) (Paired.imp h t)
theorem Paired.snoc{α β:Type}{R:α->β->Prop}{x:α}{y:β}(h:R x y):∀{xs:List α} {ys:List β},Paired R xs ys->Paired R (xs++ [x]) (ys++ [y])
 |_,_,.nil=> .cons h .nil
 |_,_,.cons a t=> .cons a (Paired.snoc h t)
def cD(H H':Hp):Prop:=∀b u,H b=some (Fz u)->H' b=some (Fz u)
theorem cD.of(s:aF H H'):cD H H':=fun b u e=>s _ _ e
theorem cD.but(s:bC l H H')(h:H l=some o)(n:∀u,o≠Fz u):cD H H':=fun b u e=>s _ _ (fun z=>by rw[z,h]at e;exact n _ (Option.some.inj e)) e
def oddD:PyData:=.tuple [.str "fault",.str "odd"]
def eX(d:PyData):PyData:=if mE d then d else oddD
def uD(H:Hp)(mk:Option V)(is:List Int)(v:V)(lc:Addr):Prop:=H lc=some (.lst (is.map V.int))/\(mk=none->v= .ref lc)/\∀m,mk=some m->∃tp,v= .ref tp/\H tp=some (.tup [m,.ref lc])
theorem uD.mv{mk:Option V}{is:List Int}{v:V}{lc:Addr}(k:bQ H H')(e:H' lc=some (.lst (is.map V.int)))(h:uD H mk is v lc):uD H' mk is v lc:=⟨e,h.2.1,fun m hm=>let ⟨tp,a,b⟩:=h.2.2 m hm;⟨tp,a,k _ _ b⟩⟩
def fL(ca:Option Addr)(cs:List V)(H:Hp):Prop:=(ca=none->cs= [])/\∀a,ca=some a->H a=some (.lst cs)
theorem fL.same(s:aF H H')(h:fL ca cs H):fL ca cs H':=⟨h.1,fun a e=>s _ _ (h.2 a e)⟩
def sV(ca:Option Addr)(mk:Option V)(is:List Int)(H H':Hp)(ns:List V):Prop:=(ca=none->ns= [])/\∀a,ca=some a->∃nv lc,ns= [nv] /\H lc=none/\uD H' mk is nv lc
def zN(ca:Option Addr)(H H':Hp):Prop:=∀b o,ca≠some b->H b=some o->H' b=some o
theorem fL.ne(h:fL ca cs H)(e:H b=some o)(n:∀y,o≠ .lst y):ca≠some b:=fun y=>by
 rw[h.2 b y]at e;exact n _ (Option.some.inj e).symm
theorem fL.new(h:fL ca cs H)(e:H b=none):ca≠some b:=fun y=>by
 rw[h.2 b y]at e;cases e
inductive a1v(K:Fg)(LP:Hp->Prop)(ca:Option Addr)(mk:Option V)(g:List Int->PyData)(ok:List Int->Prop)(vs:List V)(H:Hp)(Q:VK)(E:XK):Prop
 |mk (l:Addr) (is:List Int) (cs:List V):vs= [.ref l] ->LP H->H l=some (.lst (is.map V.int))->fL ca cs H->cs.length<900->ok is->is.length<=100->ca≠some l->(∀H' v ns,zN ca H H'->fL ca (cs++ ns) H'->sV ca mk is H H' ns->Dt K H' v (g is)->Q v H')->a1v K LP ca mk g ok vs H Q E
def nK(P:Program)(w:World)(K:Fg)(mg:Str->Option Value)(af:Heap)(k:Nat)(H:Hp)(fa:Addr)(ca:Option Addr)(mk:Option V)(g:List Int->PyData)(ok:List Int->Prop):Prop:=∃LP,eT P w K mg af k fa (a1v K LP ca mk g ok)/\LP H/\∀H H',cD H H'->LP H->LP H'
theorem nK.keep{k:Nat}{mk:Option V}{g:List Int->PyData}{ok:List Int->Prop}(s:cD H H')(h:nK P w K mg af k H fa ca mk g ok):nK P w K mg af k H' fa ca mk g ok:=by
 obtain⟨LP,h1,h2,h3⟩:=h;exact⟨LP,h1,h3 _ _ s h2,h3⟩
def RF(fs:List (Str×V))(fa:Addr):Prop:=fs.lookup ("function":Str)=some (.ref fa)/\fs.lookup ("reckon":Str)=none
section
inductive zR(K:Fg)(p:Addr)(vs:List V)(H:Hp)(Q:VK)(E:XK):Prop
 |mk (x:_) (d:_):vs= [x] ->Dt K H x d->iK d->(∀H',aF H H'->Q (if mE d then x else .ref p) H')->zR K p vs H Q E
theorem a6j:aY ["thing"] ["thing"] (aL a1G):={}
theorem a9R(T:bA K mg){p:Addr}(hp:mg "ODD"=some (.ref p)):bD P w K mg af aD 4 "settled" ["thing"] (zR K p):=by
 have G_is_value:bD P w K mg af aD 3 "is_value" ["thing"] (sZ K):=a0D T;refine T.d_settled.known a6j (fun _ _ _ _ _ _ us hl=>eU (fun _=>rfl) us hl) (fun vs H Q E h=> ?_) (fun f ah A ag s H vs Q E hr h=> ?_)
 ·obtain⟨x,d,rfl,_⟩:=h
  rfl
 ·obtain⟨x,d,rfl,hd,hsh,q⟩:=h
  refine⟨_,(aJ (bI (dH (bK G_is_value hr.mn aO (aA (pv 0) aG)) (fun _=>rfl)) (aK (bH (pv 0))) bL)
   (aK (bH (vL hp)))),?_⟩
  refine⟨_,rfl,x,d,rfl,hd,hsh,fun H' s'=>⟨_,rfl,?_⟩⟩;have q':=q H' s';refine bY (fun h1=> ?_) (fun h1=> ?_)
  ·rw[if_pos h1]at q'
   exact⟨_,rfl,q'⟩
  ·rw[if_neg h1]at q'
   exact q'
inductive a0T(P:Program)(w:World)(K:Fg)(mg:Str->Option Value)(af:Heap)(k:Nat)(C:Addr)(vs:List V)(H:Hp)(Q:VK)(E:XK):Prop
 |mk (p a fa dx:Addr) (ca:Option Addr) (mk:Option V) (fs:List (Str×V)) (g:List Int->PyData) (ok:List Int->Prop) (is:List Int) (cs:List V):vs= [.ref p,.ref a] ->H p=some (.ins C dx fs)->RF fs fa->nK P w K mg af k H fa ca mk g ok->H a=some (.lst (is.map V.int))->fL ca cs H->cs.length<900->ok is->is.length<=100->iK (g is)->(∀H' v ns,zN ca H H'->fL ca (cs++ ns) H'->sV ca mk is H H' ns->Dt K H' v (eX (g is))->Q v H')->a0T P w K mg af k C vs H Q E
theorem b0p:aY ["self","some"] ["self","some"] (aL tS):={}
structure qX(K:Fg)(C:Addr):Prop where
 cl:cG K C
 rk:bJ K C "reckon" "Rule.reckon" tS
 nf:cE K C "function"
theorem a57(T:bA K mg)(Y:qX K C){k:Nat}(hk:4<=k):aS P w K mg af aD (k+ 1) C "reckon" ["self","some"] (a0T P w K mg af k C):=by
 obtain⟨pO,hpO,hO⟩:=T.g_ODD;have G_settled:bD P w K mg af aD 4 "settled" ["thing"] (zR K pO):=a9R T hpO;refine Y.rk.known b0p (fun _ _ _ _ _ _ us hl=>eG (fun _ _=>rfl) us hl) (fun vs H Q E h=> ?_) (fun f ah A ag s H vs Q E hr h=> ?_)
 ·obtain⟨p,a,fa,dx,ca,mk,fs,g,ok,is,cs,rfl,_⟩:=h
  rfl
 ·obtain⟨p,a,fa,dx,ca,mk,fs,g,ok,is,cs,rfl,hp,hfs,⟨LP,F,lp,stb⟩,ha,hca,cl,l0,l1,hsh,q⟩:=h
  refine⟨_,(aK (bH (bK G_settled (hr.mono hk) aO (aA (a5H (k:=k) (pv 0) hr (aA (nT sP rfl T.list lD (aA (pv 1) aG)) aG)) aG)))),?_⟩;refine⟨_,rfl,p,C,dx,_,fa,_,rfl,hp,Y.cl,Y.nf,hfs.1,F,_,rfl,a,_,rfl,.inl (aM.of ha),fun xl hxl=> ?_⟩;have s1:=aF.new (o:=.lst (is.map V.int)) hxl;refine⟨xl,is,cs,rfl,stb _ _ (cD.of s1) lp,aI,hca.same s1,cl,l0,l1,hca.new hxl,fun H3 v ns b3 c3 n3 hd=> ?_⟩;refine⟨v,_,rfl,hd,hsh,fun H4 s4=> ?_⟩;refine q H4 _ ns (fun b o n e=>s4 _ _ (b3 _ _ n (s1 _ _ e))) (c3.same s4) ⟨n3.1,fun x e=> ?_⟩ ?_
  ·obtain⟨nv,lc,e1,e2,e3⟩:=n3.2 x e
   exact⟨nv,lc,e1,gU s1 e2,e3.mv (bQ.of s4) (s4 _ _ e3.1)⟩
  unfold eX;by_cases c:mE (g is)=true
  ·rw[if_pos c,if_pos c]
   exact hd.same s4
  ·rw[if_neg c,if_neg c]
   exact .tup (hO H4) (.cons (.str _) (.cons (.str _) .nil))
theorem pX(is:List Int):(PyData.list (is.map PyData.int)).canLay0=true/\(PyData.list (is.map PyData.int)).depth<=64:=by
 have h1:PyData.canLayAll0 (is.map PyData.int)=true:=by
  induction is with
  |nil=>rfl
  |cons i r ih=>rw[List.map_cons,PyData.canLayAll0,ih];rfl
 have h2:PyData.depthAll (is.map PyData.int)=0:=by
  induction is with
  |nil=>rfl
  |cons i r ih=>
   have h3:PyData.canLayAll0 (r.map PyData.int)=true:=by
    have:=h1;rw[List.map_cons,PyData.canLayAll0,Bool.and_eq_true]at this;exact this.2
   rw[List.map_cons];show max 0 (PyData.depthAll (r.map PyData.int))=0;rw[ih h3];rfl
 refine⟨h1,?_⟩;show PyData.depthAll (is.map PyData.int)+ 1<=64;rw[h2];decide
theorem mS{K:Fg}{H:Hp}:∀is:List Int,dI K H (is.map V.int) (is.map PyData.int)
 | []=> .nil
 |i::r=> .cons (.int i) (mS r)
theorem xZ:∀is js:List Int,PyData.eqv (.list (is.map PyData.int)) (.list (js.map PyData.int))=decide (is=js)
 | [],[]=>by simp[PyData.eqv,PyData.eqvAll]
 | [],j::js=>by simp[PyData.eqv,PyData.eqvAll]
 |i::is,[]=>by simp[PyData.eqv,PyData.eqvAll]
 |i::is,j::js=>by
  have ih:=xZ is js;simp only[PyData.eqv]at ih;simp only[List.map_cons,PyData.eqv,PyData.eqvAll,ih];by_cases h1:i=j<;>by_cases h2:is=js<;>simp[h1,h2]
theorem a5J{m:Addr}{kvs:List (aB×V)}{v:V}(hv:Vd d)(h:Dt K H v d)(hm:H m=some (.dK kvs))(u:∀x o,x≠m->H x=some o->H' x=some o):Dt K H' v d:=by
 rcases hv with⟨i,rfl,hb⟩|⟨z,rfl,hz⟩
 ·cases h
  exact .int i
 ·cases h with
  |tup hq hall=>
   cases hall with
   |cons h1 t=>
    cases h1
    cases t with
    |cons h2 t=>
     cases h2;cases t;refine .tup ?_ (.cons (.str _) (.cons (.str _) .nil))
     rcases hq with h|h
     ·rcases h with h|⟨o,h⟩
      ·exact .inl (.inl (u _ _ (fun y=>by rw[y,hm]at h;cases h) h))
      ·exact .inl (.inr ⟨o,u _ _ (fun y=>by rw[y,hm]at h;cases h) h⟩)
     ·exact .inr h
def Was(H:Hp)(mk:List (aB×V))(num:Int)(js:List Int)(vv:V):Prop:=∃tp lo,aE mk (.inl num:aB)=some (.ref tp)/\H tp=some (.tup [.ref lo,vv])/\H lo=some (.lst (js.map V.int))
def RkR(P:Program)(w:World)(K:Fg)(mg:Str->Option Value)(af:Heap)(k:Nat)(C:Addr)(sp:Sp):Prop:=qX K C/\sp=a0T P w K mg af k C
inductive a0J(P:Program)(w:World)(K:Fg)(mg:Str->Option Value)(af:Heap)(k:Nat)(CB CT:Addr)(vs:List V)(H:Hp)(Q:VK)(E:XK):Prop
 |mk (sm gr mc fa dx CG:Addr) (ca:Option Addr) (mkk:Option V) (c:Str) (fs:List (Str×V)) (p:Nat) (num:Int) (B:BM) (mk:List (aB×V)) (g:List Int->PyData) (ok:List Int->Prop) (is:List Int) (cs:List V):vs= [.ref B.b,.str c,.int (p:Int),.ref sm] ->cO CB CT H B->aE B.rus (.inr c:aB)=some (.ref gr)->aE B.mes (.inr c:aB)=some (.ref mc)->H mc=some (.dK mk)->mk.length<100->p<B.xs.length->cL B.xs (p:Int)=some (.int num)->H gr=some (.ins CG dx fs)->qX K CG->RF fs fa->nK P w K mg af k H fa ca mkk g ok->H sm=some (.lst (is.map V.int))->fL ca cs H->cs.length<900->ok is->is.length<=100->iK (g is)->Vd (eX (g is))->((∃vv,Was H mk num is vv/\Q vv H)\/ ((aE mk (.inl num:aB)=none\/ ∃js vv,Was H mk num js vv/\js≠is)/\
  ∀H' v ns tp,(∀x o,ca≠some x->x≠mc->H x=some o->H' x=some o)->fL ca (cs++ ns) H'->sV ca mkk is H H' ns->H tp=none->H' tp=some (.tup [.ref sm,v])->H' mc=some (.dK (aR mk (.inl num:aB) (.ref tp)))->Dt K H' v (eX (g is))->Q v H'))->a0J P w K mg af k CB CT vs H Q E
abbrev Nou:List Str:=["self","column","place","some","remembered","number"]
theorem yN:aY Nou ["self","column","place","some"] (aL wK):={}
theorem a9Y(T:bA K mg)(Y:cY K mg CB)(Z:dQ K mg CT){k:Nat}(hk:4<=k):aS P w K mg af aD (k+ 2) CB "outcome" ["self","column","place","some"] (a0J P w K mg af k CB CT):=by
 have G_num:aS P w K mg af aD 3 CT "number_at" ["self","place"] (a0t CT):=a6I T Z;have G_rck:∀C sp,RkR P w K mg af k C sp->cG K C/\aS P w K mg af aD (k+ 1) C "reckon" ["self","some"] sp:=fun C sp h=>by
  obtain⟨h1,rfl⟩:=h;exact⟨h1.cl,a57 T h1 hk⟩
 refine Y.m_outcome.known yN (fun _ _ _ _ _ _ us hl=>kP (fun _ _ _ _=>rfl) us hl) (fun vs H Q E h=> ?_) (fun f ah A ag s H vs Q E hr h=> ?_)
 ·obtain⟨sm,gr,mc,fa,dx,CG,ca,mkk,c,fs,p,num,B,mk,g,ok,is,cs,rfl,_⟩:=h
  rfl
 ·obtain⟨sm,gr,mc,fa,dx,CG,ca,mkk,c,fs,p,num,B,mk,g,ok,is,cs,rfl,hB,hru,hme,hmc,ml,hp,hnum,hgr,hW,hfs,FN,hsm,hca,cl,l0,l1,hsh,hvd,q⟩:=h
  have hu:=dY hr;have cH:∃t,eV (dF aD P w K mg af Nou "Board.outcome" (aL wK) f ah A ag s H E).nox ((eZ wK).drop 3) t/\
   ∀(H1:Hp) (tp:Addr) (x v:V) (mk':List (aB×V)),H1 mc=some (.dK mk')->aE mk' (.inl num:aB)=some (.ref tp)->H1 tp=some (.tup [x,v])->Q v H1->t {nx:=fun _ H'=>Q .non H',rt:=Q} [some (.ref B.b),some (.str c),some (.int (p:Int)),some (.ref sm),some (.ref mc),some (.int num)] H1:=by
   refine⟨_,(aK (bH (cW fQ (gE hu (pv 4) (pv 5) (fun _ _=>rfl)) bB (fun _ _=>rfl)))),fun H1 tp x v mk' e1 e2 e3 q'=> ?_⟩;exact⟨_,rfl,_,rfl,mc,_,rfl,e2▸bU.k (k:=Sum.inl num) e1,tp,_,_,_,rfl,rfl,bR.of e3,rfl,q'⟩
  obtain⟨tR,hR,qR⟩:=cH
  refine⟨_,(aJ (cA (i:=4) yN.nd rfl (Or.inl rfl) (gE hu (aV (pv 0) rfl) (pv 1) (fun _ _=>rfl)))
   (aJ (cA (i:=5) yN.nd rfl (Or.inl rfl) (cF (aV (pv 0) rfl) Z.cl G_num (hr.mono (by omega)) aO (aA (pv 2) aG)))
   (aJ (bI (PW.pt (iN (iY (lP hu (pv 5) (pv 4))) (kE (cR (rL hr.units) (cW fQ (gE hu (pv 4) (pv 5) (fun _ _=>rfl)) bB (fun _ _=>rfl)) (pv 3) (dA _))))) (aK (iX hu (pv 4) (pv 5) (fF (aA (pv 3) (aA (tJ (gE hu (aV (pv 0) rfl) (pv 1) (fun _ _=>rfl)) G_rck hr aO (aA (pv 3) aG)) aG))) rfl)) bL)
   hR))),?_⟩
  obtain⟨⟨d1,b1⟩,tb,b3,b4,_⟩:=id hB;obtain⟨⟨d2,b2⟩,_,_⟩:=id tb;refine⟨_,rfl,B.b,CB,d1,_,_,rfl,b1,Y.cl,Y.n_memory,(dN _ _ _ _).2.2.1,_,rfl,B.me,_,rfl,hme▸bU.k (k:=Sum.inr c) b4,?_⟩;refine⟨_,rfl,B.b,CB,d1,_,_,rfl,b1,Y.cl,Y.n_given,(dN _ _ _ _).1,B.g,d2,_,rfl,b2,iS,_,rfl,B.g,B.r,B.e,B.xs,B.n,B.kvs,p,_,rfl,tb,hp,hnum,?_⟩;refine⟨_,rfl,_,rfl,mc,_,rfl,bU.k (k:=Sum.inl num) hmc,_,rfl,?_⟩;have lay:=pX is;have ncm:ca≠some mc:=hca.ne hmc (fun _ z=>by cases z)
  rcases q with⟨vv,⟨tp,lo,e1,e2,e3⟩,qv⟩|⟨hw,q⟩
  ·rw[e1]
   refine bG ⟨_,rfl,_,rfl,mc,_,rfl,e1▸bU.k (k:=Sum.inl num) hmc,tp,_,_,_,rfl,rfl,bR.of e2,rfl,_,rfl,.list (is.map .int),.list (is.map .int),.lst (aM.of e3) (mS is),.lst (aM.of hsm) (mS is),lay.1,lay.1,lay.2,_,rfl,?_⟩;rw[xZ,decide_eq_true rfl];exact bG (qR H tp _ vv mk hmc e1 e2 qv)
  have fin:∀(H1:Hp) (v:V) (ns:List V) (tp:Addr),zN ca H H1->fL ca (cs++ ns) H1->sV ca mkk is H H1 ns->Dt K H1 v (eX (g is))->H1 tp=none->
   ∃H4,gO (upd H1 tp (.tup [.ref sm,v])) mc (.int num) (.ref tp) H4/\tR {nx:=fun _ H'=>Q .non H',rt:=Q} [some (.ref B.b),some (.str c),some (.int (p:Int)),some (.ref sm),some (.ref mc),some (.int num)] H4:=fun H1 v ns tp bb h1 hn hd htp=>by
   have s2:=aF.new (o:=.tup [.ref sm,v]) htp;have m2:=s2 _ _ (bb _ _ ncm hmc);have t2:upd H1 tp (.tup [.ref sm,v]) tp=some (.tup [.ref sm,v]):=aI;refine⟨_,gO.k (k:=Sum.inl num) m2 (eD (by omega)),?_⟩
   generalize upd H1 tp (.tup [.ref sm,v])=H2 at s2 m2 t2|-
   have u3:∀x o,x≠mc->H2 x=some o->upd H2 mc (.dK (aR mk (.inl num:aB) (.ref tp))) x=some o:=fun x o n z=>by rw[aH n];exact z
   have m3:upd H2 mc (.dK (aR mk (.inl num:aB) (.ref tp))) mc=some (.dK (aR mk (.inl num:aB) (.ref tp))):=aI
   generalize upd H2 mc (.dK (aR mk (.inl num:aB) (.ref tp)))=H3 at u3 m3|-
   have nm:∀{x:Addr} {o:HO},H2 x=some o->(∀kvs,o≠ .dK kvs)->x≠mc:=fun z n y=>by rw[y,m2]at z;exact n _ (Option.some.inj z).symm
   have t3:=u3 _ _ (nm t2 (fun _ z=>by cases z)) t2;have kt3:bQ H1 H3:=fun a xs e=>u3 _ _ (nm (s2 _ _ e) (fun _ z=>by cases z)) (s2 _ _ e)
   have htp0:H tp=none:=by
    cases e:H tp with
    |none=>rfl
    |some o=>
     by_cases z:ca=some tp
     ·rw[h1.2 tp z]at htp;cases htp
     ·rw[bb _ _ z e]at htp;cases htp
   refine qR H3 tp _ v _ m3 (by rw[gA,if_pos rfl]) t3 (q H3 v ns tp (fun x o n1 n2 z=>u3 _ _ n2 (s2 _ _ (bb _ _ n1 z))) ⟨h1.1,fun a e=>u3 _ _ (fun y=>ncm (y▸e)) (s2 _ _ (h1.2 a e))⟩ ⟨hn.1,fun a e=> ?_⟩ htp0 t3 m3 ?_)
   ·obtain⟨nv,lc,e1,e2,e3⟩:=hn.2 a e
    exact⟨nv,lc,e1,e2,e3.mv kt3 (u3 _ _ (nm (s2 _ _ e3.1) (fun _ z=>by cases z)) (s2 _ _ e3.1))⟩
   ·exact a5J hvd (hd.same s2) m2 u3
  rcases hw with e0|⟨js,vv,⟨tp0,lo,e1,e2,e3⟩,hne⟩
  ·rw[e0]
   refine cI (cI ?_);refine⟨_,rfl,_,rfl,B.b,CB,d1,_,_,rfl,b1,Y.cl,Y.n_rules,(dN _ _ _ _).2.1,_,rfl,B.ru,_,rfl,hru▸bU.k (k:=Sum.inr c) b3,CG,_,gr,dx,_,⟨hW,rfl⟩,rfl,hgr,hfs.2,_,rfl,gr,sm,fa,dx,ca,mkk,fs,g,ok,is,cs,rfl,hgr,hfs,FN,hsm,hca,cl,l0,l1,hsh,fun H1 v ns bb h1 hn hd=>⟨sl,fun tp htp=> ?_⟩⟩;obtain⟨H4,p4,q4⟩:=fin H1 v ns tp bb h1 hn hd htp;exact⟨_,rfl,_,rfl,mc,H4,rfl,p4,q4⟩
  ·rw[e1]
   refine bG ⟨_,rfl,_,rfl,mc,_,rfl,e1▸bU.k (k:=Sum.inl num) hmc,tp0,_,_,_,rfl,rfl,bR.of e2,rfl,_,rfl,.list (js.map .int),.list (is.map .int),.lst (aM.of e3) (mS js),.lst (aM.of hsm) (mS is),(pX js).1,lay.1,(pX js).2,_,rfl,?_⟩;rw[xZ,decide_eq_false hne];refine cI ?_;refine⟨_,rfl,_,rfl,B.b,CB,d1,_,_,rfl,b1,Y.cl,Y.n_rules,(dN _ _ _ _).2.1,_,rfl,B.ru,_,rfl,hru▸bU.k (k:=Sum.inr c) b3,CG,_,gr,dx,_,⟨hW,rfl⟩,rfl,hgr,hfs.2,_,rfl,gr,sm,fa,dx,ca,mkk,fs,g,ok,is,cs,rfl,hgr,hfs,FN,hsm,hca,cl,l0,l1,hsh,fun H1 v ns bb h1 hn hd=>⟨sl,fun tp htp=> ?_⟩⟩;obtain⟨H4,p4,q4⟩:=fin H1 v ns tp bb h1 hn hd htp;exact⟨_,rfl,_,rfl,mc,H4,rfl,p4,q4⟩
end
def dU(M:List Addr)(H H':Hp):Prop:=∀b o,b∉M->H b=some o->H' b=some o
theorem dU.of(s:aF H H'):dU M H H':=fun b o _ e=>s _ _ e
theorem dU.trans(a:dU M H H1)(b:dU M H1 H2):dU M H H2:=fun x o n e=>b _ _ n (a _ _ n e)
structure gP(J:Option GT->Hp->Prop)(W M:List Addr):Prop where
 there:∀o H,J o H->∀b∈W,H b≠none
 stay:∀o H H',(∀b ob,b∈W->H b=some ob->H' b=some ob)->cD H H'->eI H H'->J o H->J o H'
 mt:∀o H,J o H->∀b∈M,(∃k,H b=some (.dT k))\/ ∃C dx fs,H b=some (.ins C dx fs)
theorem gP.same{W:List Addr}(S:gP J W M){o:Option GT}(s:aF H H')(h:J o H):J o H':=S.stay _ _ _ (fun b ob _ e=>s _ _ e) (cD.of s) (eI.of s) h
theorem gP.out{W:List Addr}(S:gP J W M){o:Option GT}(h:J o H){ob:HO}(e:H b=some ob)(n1:∀k,ob≠ .dT k)(n2:∀C dx fs,ob≠ .ins C dx fs):b∉M:=fun hm=>by
 rcases S.mt o H h b hm with⟨k,e2⟩|⟨C,dx,fs,e2⟩<;>rw[e]at e2
 ·exact n1 _ (Option.some.inj e2)
 ·exact n2 _ _ _ (Option.some.inj e2)
theorem gP.tup{W:List Addr}(S:gP J W M){o:Option GT}(h:J o H)(f:dU M H H'):eI H H':=fun x ob hx e=>f _ _ (S.out h e (fun k y=>by obtain⟨xs,rfl|⟨q,rfl⟩⟩:=hx<;>cases y) (fun C dx fs y=>by obtain⟨xs,rfl|⟨q,rfl⟩⟩:=hx<;>cases y)) e
inductive oG(K:Fg)(Vc:aQ->Prop)(J:Option GT->Hp->Prop)(M:List Addr)(vs:List V)(H:Hp)(Q:VK)(E:XK):Prop
 |mk (t c:Str) (p:Nat) (o:Option GT):vs= [.str t,.str c,.int (p:Int)] ->J o H->Vc (t,c,p)->(∀τ,o=some τ->∃k,τ= .look (t,c,p) k)->(∀H' v d,dU M H H'->Pd K H' v d->((∃k,o=some (.look (t,c,p) k)/\J (some (k d)) H')\/ (d=kT/\J none H'))->Q v H')->oG K Vc J M vs H Q E
inductive xM(J:Option GT->Hp->Prop)(mv:Str->Nat->Prop)(vs:List V)(H:Hp)(Q:VK)(E:XK):Prop
 |mk (t:Str) (m:Nat) (o:Option GT):vs= [.str t] ->mv t m->J o H->(∀H',aF H H'->Q (.int (m:Int)) H')->xM J mv vs H Q E
def oV(K:Fg)(H H':Hp)(fv:V):PyData ⊕ List Int->Prop
 | .inl d=>∃ta v,fv= .ref ta/\H' ta=some (.tup [.str ("value":Str),v])/\Pd K H' v d
 | .inr is=>∃ta l,fv= .ref ta/\H' ta=some (.tup [.str ("call":Str),.ref l])/\H' l=some (.lst (is.map V.int))/\H l=none
theorem a5L{fv:V}(s:aF H H0):∀{t:PyData ⊕ List Int},oV K H0 H' fv t->oV K H H' fv t
 | .inl d,h=>h
 | .inr is,⟨ta,l,a,b,c,d⟩=>⟨ta,l,a,b,c,gU s d⟩
def oF(H:Hp)(x:V)(c:aQ):Prop:=∃a,x= .ref a/\H a=some (.tup [.str c.1,.str c.2.1,.int (c.2.2:Int)])
theorem oF.keep{x:V}{c:aQ}(k:bQ H H')(h:oF H x c):oF H' x c:=h.imp fun _ e=>⟨e.1,k _ _ e.2⟩
section
inductive zY(P:Program)(w:World)(K:Fg)(mg:Str->Option Value)(af:Heap)(k:Nat)(vs:List V)(H:Hp)(Q:VK)(E:XK):Prop
 |mk (look cl:Addr) (Vc:aQ->Prop) (J:Option GT->Hp->Prop) (W M:List Addr) (kn:PyData ⊕ List Int->GT) (cv:List V) (cs:List aQ):vs= [.ref look,.ref cl] ->eT P w K mg af k look (oG K Vc J M)->J (some (fP kn cs [])) H->gP J W M->H cl=some (.lst cv)->Paired (oF H) cv cs->(∀c∈cs,Vc c)->cs.length<=100->(∀H' fv tf,dU M H H'->oV K H H' fv tf->(J (some (kn tf)) H'\/ (tf= .inl kT/\J none H'))->(∀is,tf= .inr is->is.length<=cs.length)->Q fv H')->zY P w K mg af k vs H Q E
abbrev a7h:List Str:=["look","cells","numbers","table","column","place","value"]
theorem qT:aY a7h ["look","cells"] (aL a4a):={}
theorem a7j(T:bA K mg){k:Nat}(hk:2<=k):bD P w K mg af aD (k+ 1) "look_in_turn" ["look","cells"] (zY P w K mg af k):=by
 have G_is_fault:bD P w K mg af aD 2 "is_fault" ["thing"] (tW K):=a0q T;refine T.d_look_in_turn.known qT (fun _ _ _ _ _ _ us hl=>eG (fun _ _=>rfl) us hl) (fun vs H Q E h=> ?_) (fun f ah A ag s H vs Q E hr h=> ?_)
 ·obtain⟨look,cl,Vc,J,W,M,kn,cv,cs,rfl,_⟩:=h
  rfl
 ·obtain⟨look,cl,Vc,J,W,M,kn,cv,cs,rfl,F1,hJ,S,hc,hp,hV,l100,q⟩:=h
  refine⟨_,(aJ (cA (i:=2) qT.nd rfl (Or.inl rfl) (fC aG))
   (aJ (nM PassesOwn.never rfl (mJ (pv 1)) (yG rfl (nV (iG (i:=3) qT.nd rfl (Or.inl rfl)) (nV (iG (i:=4) qT.nd rfl (Or.inl rfl)) (nV (iG (i:=5) qT.nd rfl (Or.inl rfl)) zQ)))) (aJ (cA (i:=6) qT.nd rfl (Or.inl rfl) (a4P 0 hr (aA (pv 3) (aA (pv 4) (aA (pv 5) aG)))))
   (aJ (bI (dH (bK G_is_fault (hr.mono hk) aO (aA (pv 6) aG)) (fun _=>rfl)) (aK (bH (fF (aA bT (aA (pv 6) aG))))) bL)
   (aK (bW (lZ F.plainAttrs_list F.slot_list_append F.type_list_append lO (pv 2) (aA (pv 6) aG)))))))
   (aK (bH (fF (aA bT (aA (pv 2) aG))))))),?_⟩
  refine⟨sl,fun nl hnl=> ?_⟩;have s1:=aF.new (o:=.lst []) hnl;have n1:upd H nl (.lst []) nl=some (.lst []):=aI;have J1:=S.same s1 hJ
  generalize upd H nl (.lst [])=H1 at s1 n1 J1|-
  have lcv:cv.length=cs.length:=Paired.length hp;have ncl:=S.out hJ hc (fun _ z=>by cases z) (fun _ _ _ z=>by cases z);have nnl:=S.out J1 n1 (fun _ z=>by cases z) (fun _ _ _ z=>by cases z);have nW:nl∉W:=fun mw=>S.there _ _ hJ nl mw hnl
  refine⟨_,rfl,cl,rfl,⟨_,aM.of (s1 _ _ hc)⟩,?_⟩;refine pF (K:=K) (a:=cl) (xs:=cv) (fun i σ H2=>∃o3 o4 o5 o6 is,σ= [some (.ref look),some (.ref cl),some (.ref nl),o3,o4,o5,o6] /\dU M H H2/\J (some (fP kn (cs.drop i) is)) H2/\H2 nl=some (.lst (is.map V.int))/\is.length<=i)
   ⟨_,_,_,_,[],rfl,dU.of s1,J1,n1,Nat.le_refl _⟩ (by rintro i σ H2 _ ⟨_,_,_,_,_,_,f2,_⟩;exact aM.of (f2 _ _ ncl hc)) ?_ ?_
  ·rintro i v0 σ H2 hx ⟨o3,o4,o5,o6,is,rfl,f2,J2,h2,li⟩
   obtain⟨c,hd,hcel⟩:=a2X hp hx;have hi:i<cv.length:=(List.getElem?_eq_some_iff.mp hx).1;obtain⟨a,rfl,ha⟩:=hcel.keep (S.tup hJ f2).t;rw[a4k hd,nN]at J2;refine⟨a,_,rfl,bR.of ha,rfl,_,_,rfl,_,_,rfl,_,_,rfl,rfl,?_⟩;refine⟨look,_,rfl,F1,_,rfl,_,rfl,_,rfl,c.1,c.2.1,c.2.2,_,rfl,J2,hV c (List.mem_of_getElem? hd),fun τ e=>⟨_,(Option.some.inj e).symm⟩,fun H3 v d f3 p3 end3=> ?_⟩;have f23:=f2.trans f3;have h3:=f3 _ _ nnl h2;refine⟨_,rfl,v,d,rfl,p3.2,p3.1.short.1,fun H4 s4=>⟨_,rfl,?_⟩⟩;rw[p3.1.isT];have h4:=s4 _ _ h3;have f4:=f23.trans (dU.of s4);have p4:=p3.same s4
   rcases end3 with⟨k,ek,J3⟩|⟨rfl,J3⟩
   ·cases ek
    have J4:=S.same s4 J3
    cases hT:isT d with
    |false=>
     obtain⟨j,rfl,bj⟩:∃j,d= .int j/\iF (.int j)=true:=by
      rcases p3.1 with h|⟨z,rfl,_⟩
      ·exact h
      ·cases hT
     have ev:v= .int j:=by
      cases p3.2;rfl
     subst ev;have J4:J (some (fP kn (cs.drop (i+ 1)) (is++ [j]))) H4:=J4;refine bG ⟨_,rfl,.inl ⟨rfl,_,aM.of h4⟩,_,rfl,nl,_,_,rfl,rfl,h4,eD (by rw[List.length_map];omega),?_⟩;have bu:∀b ob,b≠nl->H4 b=some ob->upd H4 nl (.lst (is.map V.int++ [.int j])) b=some ob:=fun b ob nb e=>by rw[aH nb];exact e
     refine⟨_,_,_,_,is++ [j],rfl,fun b ob n1 e=>bu _ _ (aX e hnl) (f4 _ _ n1 e),S.stay _ _ _ (fun b ob mb e=>bu _ _ (fun z=>nW (z▸mb)) e) (fun b u e=>bu _ _ (fun z=>by rw[z,h4]at e;cases e) e) (eI.upd h4 (fun _ z=>by cases z) (fun _ _ z=>by cases z)) J4,(by rw[List.map_append];exact aI),by rw[List.length_append];show is.length+ 1<=i+ 1;omega⟩
    |true=>
     have J4:J (some (if isT d then kn (.inl d) else fP kn (cs.drop (i+ 1)) (is++ [bS d]))) H4:=J4;rw[if_pos hT]at J4;refine cI ⟨_,rfl,sl,fun tp htp=> ?_⟩;have s5:=aF.new (o:=.tup [.str ("value":Str),v]) htp;exact q _ _ (.inl d) (f4.trans (dU.of s5)) ⟨tp,_,rfl,aI,p4.same s5⟩ (.inl (S.same s5 J4)) (fun _ z=>by cases z)
   ·have J4:=S.same s4 J3
    refine cI ⟨_,rfl,sl,fun tp htp=> ?_⟩;have s5:=aF.new (o:=.tup [.str ("value":Str),v]) htp;exact q _ _ (.inl kT) (f4.trans (dU.of s5)) ⟨tp,_,rfl,aI,p4.same s5⟩ (.inr ⟨rfl,S.same s5 J4⟩) (fun _ z=>by cases z)
  ·rintro σ H2 ⟨o3,o4,o5,o6,is,rfl,f2,J2,h2,li⟩
   rw[lcv,List.drop_length]at J2;refine⟨_,rfl,sl,fun tp htp=> ?_⟩;have s3:=aF.new (o:=.tup [.str ("call":Str),.ref nl]) htp;exact q _ _ (.inr is) (f2.trans (dU.of s3)) ⟨tp,nl,rfl,aI,s3 _ _ h2,hnl⟩ (.inl (S.same s3 J2)) (fun _ z=>by cases z;omega)
def mvX(tabs:List (Str×BM))(t:Str)(m:Nat):Prop:=∃B,(t,B)∈tabs/\B.xs.length=m
def lS(P:Program)(w:World)(K:Fg)(mg:Str->Option Value)(af:Heap)(spg:Sp)(gr:Addr)(ft:List Addr)(tabs:List (Str×BM))(Vc:aQ->Prop)(nm c:Str)(p:Nat)(τ:GT)(H:Hp):Prop:=
 ∀(look many:Addr) (J:Option GT->Hp->Prop) (W M:List Addr) (HB:Hp) (Q':VK),(∀b∈ft,∀o,H b=some o->HB b=some o)->gr∉M->J (some τ) HB->gP J W M->eT P w K mg af 6 look (oG K Vc J M)->eT P w K mg af 6 many (xM J (mvX tabs))->
  (∀H' fv tf,dU M HB H'->oV K HB H' fv tf->(J (some (.done tf)) H'\/ J none H')->Q' fv H')->spg [.ref gr,.ref look,.ref many,.str nm,.str c,.int (p:Int)] HB Q' E0
theorem lS.mv{spg:Sp}{gr:Addr}{ft:List Addr}{nm:Str}{τ:GT}(k:∀b∈ft,∀o,H b=some o->H' b=some o)(h:lS P w K mg af spg gr ft tabs Vc nm c p τ H):lS P w K mg af spg gr ft tabs Vc nm c p τ H':=
 fun look many J W M HB Q' kx n hJ S L1 L2 q=>h look many J W M HB Q' (fun b hb o e=>kx b hb o (k b hb o e)) n hJ S L1 L2 q
def yM(CS CB CT:Addr)(s bd ch fi:Addr)(kb:List (aB×V))(nm:Str)(B:BM)(H:Hp):Prop:=(∃dx,H s=some (.ins CS dx (dZ bd ch fi)))/\H bd=some (.dK kb)/\Nl nm/\aE kb (.inr nm:aB)=some (.ref B.b)/\cO CB CT H B
inductive a0S(CS CB CT:Addr)(vs:List V)(H:Hp)(Q:VK)(E:XK):Prop
 |mk (s bd ch fi:Addr) (kb:List (aB×V)) (nm t:Str) (p:Nat) (B:BM):vs= [.ref s,.str nm,.str t,.int (p:Int)] ->yM CS CB CT s bd ch fi kb nm B H->Nl t->t∈B.ord->p<B.xs.length->(∀H',aF H H'->Q .non H')->a0S CS CB CT vs H Q E
theorem b0e:aY ["self","table","column","place"] ["self","table","column","place"] (aL a2V):={}
theorem a7C(T:bA K mg)(Y:gR K mg CS)(W:cY K mg CB)(Z:dQ K mg CT):aS P w K mg af aD 4 CS "check_cell" ["self","table","column","place"] (a0S CS CB CT):=by
 have G_with:aS P w K mg af aD 3 CS "board_with" ["self","table","column"] (uU CS CB CT):=a3h T Y W;have G_pl:bD P w K mg af aD 2 "check_place" ["place","places"] rJ:=uS T;have G_many:aS P w K mg af aD 1 CT "many" ["self"] (mK CT):=nR T Z;refine Y.m_check_cell.known b0e (fun _ _ _ _ _ _ us hl=>kP (fun _ _ _ _=>rfl) us hl) (fun vs H Q E h=> ?_) (fun f ah A ag s H vs Q E hr h=> ?_)
 ·obtain⟨s',bd,ch,fi,kb,nm,t,p,B,rfl,_⟩:=h
  rfl
 ·obtain⟨s',bd,ch,fi,kb,nm,t,p,B,rfl,hS,ht,hm,hp,q⟩:=h
  refine⟨_,aK (bW (bK G_pl hr.mn aO (aA (pv 3) (aA (mU (aV (cF (pv 0) Y.cl G_with hr aO (aA (pv 1) (aA (pv 2) aG))) rfl) Z.cl G_many hr.mn aO) aG)))),?_⟩;obtain⟨dx,hs⟩:=hS.1;refine⟨_,rfl,_,rfl,s',dx,_,rfl,hs,fN,_,rfl,_,rfl,s',bd,ch,fi,dx,kb,nm,t,B,rfl,hs,hS.2.1,hS.2.2.1,hS.2.2.2.1,hS.2.2.2.2,ht,hm,fun H1 s1=> ?_⟩;obtain⟨dB,hb⟩:=hS.2.2.2.2.at_;obtain⟨dT,hT⟩:=hS.2.2.2.2.tab.at_;exact⟨B.b,CB,dB,_,_,rfl,s1 _ _ hb,W.cl,W.n_given,(dN _ _ _ _).1,B.g,dT,_,rfl,s1 _ _ hT,iS,B.g,B.r,B.e,B.xs,B.n,B.kvs,rfl,hS.2.2.2.2.tab.same s1,p,B.xs.length,rfl,hp,q H1 s1⟩
inductive wN(CS CF CB CT:Addr)(sp:Sp)(vs:List V)(H:Hp)(Q:VK)(E:XK):Prop
 |mk (s bd ch fi df:Addr) (kb:List (aB×V)) (nm t:Str) (p:Nat) (B:BM) (fs:List (Str×V)):vs= [.ref s,.str nm,.str t,.int (p:Int)] ->yM CS CB CT s bd ch fi kb nm B H->Nl t->t∈B.ord->p<B.xs.length->H fi=some (.ins CF df fs)->fs.lookup ("value_of":Str)=none->(∀H1 ce,H ce=none->aF H H1->H1 ce=some (.tup ((bE nm t p).map kV))->sp [.ref fi,.ref ce] H1 Q E0)->wN CS CF CB CT sp vs H Q E
theorem a6S:aY ["self","table","column","place"] ["self","table","column","place"] (aL a1P):={}
theorem a6Z(T:bA K mg)(Y:gR K mg CS)(F:fO K mg CF)(W:cY K mg CB)(Z:dQ K mg CT){k:Nat}(hk:4<=k)(G:aS P w K mg af aD k CF "value_of" ["self","cell"] sp):aS P w K mg af aD (k+ 1) CS "cell" ["self","table","column","place"] (wN CS CF CB CT sp):=by
 have G_chk:aS P w K mg af aD 4 CS "check_cell" ["self","table","column","place"] (a0S CS CB CT):=a7C T Y W Z;refine Y.m_cell.known a6S (fun _ _ _ _ _ _ us hl=>kP (fun _ _ _ _=>rfl) us hl) (fun vs H Q E h=> ?_) (fun f ah A ag s H vs Q E hr h=> ?_)
 ·obtain⟨s',bd,ch,fi,df,kb,nm,t,p,B,fs,rfl,_⟩:=h
  rfl
 ·obtain⟨s',bd,ch,fi,df,kb,nm,t,p,B,fs,rfl,hS,ht,hm,hp,hfi,hno,q⟩:=h
  refine⟨_,aJ (bW (cF (pv 0) Y.cl G_chk (hr.mono hk) aO (aA (pv 1) (aA (pv 2) (aA (pv 3) aG)))))
   (aK (bH (cF (aV (pv 0) rfl) F.cl G hr aO (aA (fF (aA (pv 1) (aA (pv 2) (aA (pv 3) aG)))) aG)))),?_⟩
  obtain⟨dx,hs⟩:=hS.1;refine⟨_,rfl,s',dx,_,rfl,hs,fN,_,rfl,_,rfl,_,rfl,s',bd,ch,fi,kb,nm,t,p,B,rfl,hS,ht,hm,hp,fun H1 s1=> ?_⟩;refine⟨_,rfl,s',CS,dx,_,_,rfl,s1 _ _ hs,Y.cl,Y.n_finder,(lY _ _ _).2.2.1,fi,df,fs,rfl,s1 _ _ hfi,hno,_,rfl,_,rfl,_,rfl,sl,fun ce hce=> ?_⟩;exact q _ ce (gU s1 hce) (s1.trans (aF.new hce)) aI
end
theorem a5x:oM (wR C CB CT):=fun vs H Q Q' hQ h=>by
 obtain⟨p,dx,bd,nm,m,kb,e1,e2,e3,e4,e5,q⟩:=h;exact⟨p,dx,bd,nm,m,kb,e1,e2,e3,e4,e5,fun H' b g r e ru me od a1 a2 a3 a4 a5=>hQ _ _ (q H' b g r e ru me od a1 a2 a3 a4 a5)⟩
theorem a6g:oM (wF K CB CT):=fun vs H Q Q' hQ h=>by
 obtain⟨B,t,a,ys,ds,e1,e2,e3,e4,e5,e6,e7,e8,e9,e10,e11,e12,q⟩:=h;exact⟨B,t,a,ys,ds,e1,e2,e3,e4,e5,e6,e7,e8,e9,e10,e11,e12,fun H' l a1 a2 a3 a4=>hQ _ _ (q H' l a1 a2 a3 a4)⟩
theorem a40:oM (vI K CB CT):=fun vs H Q Q' hQ h=>by
 obtain⟨B,t,a,C,dx,fs,e1,e2,e3,e4,e5,e6,e7,e8,e9,e10,q⟩:=h;exact⟨B,t,a,C,dx,fs,e1,e2,e3,e4,e5,e6,e7,e8,e9,e10,fun H' m a1 a2 a3 a4=>hQ _ _ (q H' m a1 a2 a3 a4)⟩
theorem a1u(h:oM sp):oM (sJ C CB CT sp):=fun vs H Q Q' hQ g=>by
 obtain⟨p,dx,a,B,t,e1,e2,e3,e4,q⟩:=g;exact⟨p,dx,a,B,t,e1,e2,e3,e4,h _ _ _ _ (fun v H' z=>hQ _ _ z) q⟩
theorem a53:oM (uQ K C CB CT):=fun vs H Q Q' hQ h=>by
 obtain⟨p,dx,l,B,t,i,v,u,d,ys,e1,e2,e3,e4,e5,e6,e7,e8,e9,q⟩:=h;exact⟨p,dx,l,B,t,i,v,u,d,ys,e1,e2,e3,e4,e5,e6,e7,e8,e9,fun H' a1 a2=>hQ _ _ (q H' a1 a2)⟩
theorem iC(h:upd H a o b=none):H b=none/\b≠a:=by
 have:b≠a:=fun y=>by rw[y,aI]at h;cases h
 rw[aH this]at h;exact⟨h,this⟩
section
theorem a5u(bd ch fi:Addr):aN "finder" (.ref fi) (aN "changes" (.ref ch) (aN "boards" (.ref bd) []))=dZ bd ch fi:=by
 rfl
inductive spSI(CS CF:Addr)(vs:List V)(H:Hp)(Q:VK)(E:XK):Prop
 |mk (p dx:Addr):vs= [.ref p] ->H p=some (.ins CS dx [])->(∀H' bd ch fi fd lk df,(∀x∈ [bd,ch,fi,fd,lk],H x=none)->fd≠lk->H' p=some (.ins CS dx (dZ bd ch fi))->H' bd=some (.dK [])->H' ch=some (.lst [])->H' fi=some (.ins CF df (gY bd fd lk))->H' fd=some (.dT [])->H' lk=some (.dT [])->bC p H H'->Q .non H')->spSI CS CF vs H Q E
theorem a64:aY ["self"] ["self"] (aL a1r):={}
theorem a9d(T:bA K mg)(Y:gR K mg CS)(Z:fO K mg CF):eO P w K mg af aD 3 CS ["self"] (spSI CS CF):=by
 have GI:eO P w K mg af aD 1 CF ["self","boards"] (xS CF):=a12 T Z;refine(Y.m_init.known a64 (fun _ _ _ _ _ _ us hl=>eU (fun _=>rfl) us hl) (fun vs H Q E h=> ?_) (fun f ah A ag s H vs Q E hr h=> ?_)).init Y.mks Y.kc
 ·obtain⟨p,dx,rfl,_⟩:=h
  rfl
 ·obtain⟨p,dx,rfl,hp,q⟩:=h
  refine⟨_,(aJ (cV (pv 0) sU rfl)
   (aJ (cV (pv 0) (fC aG) rfl)
   (aK (cV (pv 0) (jE GI hr Z.c aO (aA (aV (pv 0) rfl) aG)) rfl)))),?_⟩
  intro bd hbd;have s1:=aF.new (o:=.dK []) hbd;have b1:upd H bd (.dK []) bd=some (.dK []):=aI;have n1:∀{b:Addr},upd H bd (.dK []) b=none->H b=none/\b≠bd:=iC
  generalize upd H bd (.dK [])=H1 at s1 b1 n1|-
  refine⟨_,rfl,p,CS,dx,[],rfl,s1 _ _ hp,Y.cl,Y.n_boards,(by show 0<1000;decide),?_⟩;have u2:bC p H1 (upd H1 p (.ins CS dx (aN "boards" (.ref bd) []))):=fun b o n z=>by rw[aH n];exact z
  have p2:upd H1 p (.ins CS dx (aN "boards" (.ref bd) [])) p=some (.ins CS dx (aN "boards" (.ref bd) [])):=aI;have n2:∀{b:Addr},upd H1 p (.ins CS dx (aN "boards" (.ref bd) [])) b=none->H1 b=none/\b≠p:=iC
  generalize upd H1 p (.ins CS dx (aN "boards" (.ref bd) []))=H2 at u2 p2 n2|-
  refine⟨sl,fun ch hch=> ?_⟩;have s3:=aF.new (o:=.lst []) hch;have c3:upd H2 ch (.lst []) ch=some (.lst []):=aI;have n3:∀{b:Addr},upd H2 ch (.lst []) b=none->H2 b=none/\b≠ch:=iC
  generalize upd H2 ch (.lst [])=H3 at s3 c3 n3|-
  refine⟨_,rfl,p,CS,dx,_,rfl,s3 _ _ p2,Y.cl,Y.n_changes,(by show 1<1000;decide),?_⟩;have u4:bC p H3 (upd H3 p (.ins CS dx (aN "changes" (.ref ch) (aN "boards" (.ref bd) [])))):=fun b o n z=>by rw[aH n];exact z
  have p4:upd H3 p (.ins CS dx (aN "changes" (.ref ch) (aN "boards" (.ref bd) []))) p=some (.ins CS dx (aN "changes" (.ref ch) (aN "boards" (.ref bd) []))):=aI;have n4:∀{b:Addr},upd H3 p (.ins CS dx (aN "changes" (.ref ch) (aN "boards" (.ref bd) []))) b=none->H3 b=none/\b≠p:=iC
  generalize upd H3 p (.ins CS dx (aN "changes" (.ref ch) (aN "boards" (.ref bd) [])))=H4 at u4 p4 n4|-
  have npb:bd≠p:=fun y=>by rw[y,hp]at hbd;cases hbd
  have npc:ch≠p:=fun y=>by rw[y,p2]at hch;cases hch
  refine⟨_,rfl,p,CS,dx,_,_,rfl,p4,Y.cl,Y.n_boards,(show List.lookup ("boards":Str) (aN "changes" (V.ref ch) (aN "boards" (V.ref bd) []))=some (.ref bd) from rfl),?_⟩;intro fi df hfi hdf ne;refine⟨fi,df,bd,rfl,aI,fun H5 fd lk hfd hlk nfl g1 g2 g3 b5=>⟨rfl,?_⟩⟩;have s5:aF H4 H5:=fun b o z=>b5 b o (aX z hfi) (by rw[aH (aX z hfi),aH (aX z hdf)];exact z)
  have fr:∀{x:Addr},upd (upd H4 df (.own fi)) fi (.ins CF df []) x=none->H4 x=none:=fun{x} z=>(iC (iC z).1).1
  refine⟨_,rfl,p,CS,dx,_,rfl,s5 _ _ p4,Y.cl,Y.n_finder,(by show 2<1000;decide),?_⟩;rw[a5u];have u6:bC p H5 (upd H5 p (.ins CS dx (dZ bd ch fi))):=fun b o n z=>by rw[aH n];exact z
  have dn:∀{x:Addr},H4 x=none->H x=none/\x≠p:=fun z=>⟨(n1 (n2 (n3 (n4 z).1).1).1).1,(n4 z).2⟩
  have gH:=dn (fr hfd);have frl:=dn (fr hlk);have frf:=dn hfi;have hc0:H ch=none:=(n1 (n2 hch).1).1;refine q _ bd ch fi fd lk df (fun x hx=> ?_) nfl aI (u6 _ _ npb (s5 _ _ (u4 _ _ npb (s3 _ _ (u2 _ _ npb b1))))) (u6 _ _ npc (s5 _ _ (u4 _ _ npc c3))) (u6 _ _ frf.2 g1) (u6 _ _ gH.2 g2) (u6 _ _ frl.2 g3) (fun b o n z=>u6 _ _ n (s5 _ _ (u4 _ _ n (s3 _ _ (u2 _ _ n (s1 _ _ z))))));simp only[List.mem_cons,List.not_mem_nil,or_false]at hx
  rcases hx with rfl|rfl|rfl|rfl|rfl
  ·exact hbd
  ·exact hc0
  ·exact frf.1
  ·exact gH.1
  ·exact frl.1
def tF(CS:Addr)(s bd ch:Addr)(cs:List V)(kb:List (aB×V))(H:Hp):Prop:=(∃dx fi,H s=some (.ins CS dx (dZ bd ch fi)))/\H ch=some (.lst cs)/\H bd=some (.dK kb)
inductive oR(CS CF:Addr)(s bd ch fi fd lk:Addr)(cs:List V)(kb:List (aB×V))(H0 H:Hp):Prop
 |mk:(∃dx,H s=some (.ins CS dx (dZ bd ch fi)))->H ch=some (.lst cs)->H bd=some (.dK kb)->(∃df,H fi=some (.ins CF df (gY bd fd lk)))->H fd=some (.dT [])->H lk=some (.dT [])->fd≠lk->H0 fi=none->H0 fd=none->H0 lk=none->oR CS CF s bd ch fi fd lk cs kb H0 H
inductive zF(CS CF CB CT:Addr)(vs:List V)(H:Hp)(Q:VK)(E:XK):Prop
 |mk (s bd ch:Addr) (cs:List V) (kb:List (aB×V)) (nm:Str) (m:Nat):vs= [.ref s,.str nm,.int (m:Int)] ->tF CS s bd ch cs kb H->cs.length<900->kb.length<4->Nl nm->aE kb (.inr nm:aB)=none->m<=30->(∀H' fi fd lk c b g r e ru me od,oR CS CF s bd ch fi fd lk (cs++ [.ref c]) (aR kb (.inr nm:aB) (.ref b)) H H'->cO CB CT H' ⟨b,g,r,e,ru,me,od,eY 0 m,(m:Int),[],[],[],[]⟩ ->BM.sep ⟨b,g,r,e,ru,me,od,eY 0 m,(m:Int),[],[],[],[]⟩ ->(∀x∈ [b,g,r,e,ru,me,od],H x=none)->(∀x o,x≠s->x≠ch->x≠bd->H x=some o->H' x=some o)->Q .non H')->zF CS CF CB CT vs H Q E
theorem b0k:aY ["self","name","many"] ["self","name","many"] (aL a1i):={}
theorem a44(T:bA K mg)(Y:gR K mg CS)(Z:fO K mg CF)(W:cY K mg CB)(U:dQ K mg CT)(C:tX K mg CC):aS P w K mg af aD 9 CS "table" ["self","name","many"] (zF CS CF CB CT):=by
 have G_is_name:bD P w K mg af aD 1 "is_name" ["thing"] (lN K):=nF T;have G_size:bD P w K mg af aD 2 "check_size" ["many"] wA:=a4D T;have GI:eO P w K mg af aD 1 CC ["self","boards","name","size"] (yO CC):=a8Z T C;have G_make:aS P w K mg af aD 8 CS "make" ["self","change"] (rB CS CF CC (wR CC CB CT)):=vE T Y Z C.cl a5x (a59 T C W U);refine Y.m_table.known b0k (fun _ _ _ _ _ _ us hl=>jN (fun _ _ _=>rfl) us hl) (fun vs H Q E h=> ?_) (fun f ah A ag s H vs Q E hr h=> ?_)
 ·obtain⟨s',bd,ch,cs,kb,nm,m,rfl,_⟩:=h
  rfl
 ·obtain⟨s',bd,ch,cs,kb,nm,m,rfl,hS,cl,kl,hn,hv,hm,q⟩:=h
  have hu:=dY hr
  refine⟨_,(aJ (bI (PW.pt (iN (fS (dH (bK G_is_name hr.mn aO (aA (pv 1) aG)) (fun _=>rfl))) (kE (iY (oC hu (pv 1) (aV (pv 0) rfl)))))) (aK cJ) bL)
   (aJ (bW (bK G_size hr.mn aO (aA (pv 2) aG)))
   (aJ (bI (cR a0K (dC a2W rfl T.len iR (aA (aV (pv 0) rfl) aG)) (qD T.g_MOST_TABLES) (dA _)) (aK cJ) bL)
   (aK (bW (cF (pv 0) Y.cl G_make hr aO (aA (jE GI hr.mn C.c aO (aA (aV (pv 0) rfl) (aA (pv 1) (aA (pv 2) aG)))) aG))))))),?_⟩
  have h8:=hn.2.1;obtain⟨⟨dx,fi0,h1⟩,h2,h3⟩:=hS;obtain⟨a1,a2,a3,a4⟩:=lY bd ch fi0;refine⟨_,rfl,_,.str nm,rfl,.str nm,lV (by omega),fun H0 s9=>⟨_,rfl,?_⟩⟩;rw[show fZ (.str nm)=true from hn.name];have h1:=s9 _ _ h1;have h2':=s9 _ _ h2;have h3':=s9 _ _ h3;refine bG ⟨_,rfl,_,rfl,s',CS,dx,_,_,rfl,h1,Y.cl,Y.n_boards,a1,bd,_,rfl,bU.k (k:=Sum.inr nm) h3',_,rfl,?_⟩;rw[hv];refine bG ⟨_,rfl,m,rfl,hm,?_⟩;refine⟨_,rfl,s',CS,dx,_,_,rfl,h1,Y.cl,Y.n_boards,a1,bd,kb,rfl,h3',_,_,rfl,rfl,_,rfl,?_⟩;refine bY (fun g=>absurd (of_decide_eq_true g) (by omega)) (fun g=> ?_);refine⟨_,rfl,s',dx,_,rfl,h1,fN,_,rfl,s',CS,dx,_,_,rfl,h1,Y.cl,Y.n_boards,a1,_,rfl,_,rfl,?_⟩;intro c dc hc hdc ne;refine⟨c,dc,bd,nm,m,rfl,aI,fun H1 b1 c1=>⟨rfl,?_⟩⟩;have s1:aF H0 H1:=fun b o z=>b1 b o (aX z hc) (by rw[aH (aX z hc),aH (aX z hdc)];exact z)
  refine⟨s',c,bd,ch,fi0,dx,dc,cs,_,rfl,c1,(xO _ _ _).2.2.2,c,dc,bd,nm,m,kb,rfl,c1,s1 _ _ h3',by omega,hm,fun H2 b g r e ru me od B2 sp2 fr2 bd2 u2=> ?_⟩;have ns:s'≠bd:=fun y=>by rw[y,h3']at h1;cases h1
  have nc:ch≠bd:=fun y=>by rw[y,h3']at h2';cases h2'
  have nsc:s'≠ch:=fun y=>by rw[y,h2']at h1;cases h1
  refine⟨u2 _ _ ns (s1 _ _ h1),u2 _ _ nc (s1 _ _ h2'),cl,fun H3 fi fd lk df f1 f2 f3 nfl g1 g2 g3 g4 g5 u3=> ?_⟩;have n0:∀{x:Addr},H2 x=none->H x=none:=fun{x} e=>by
   cases e2:H x with
   |none=>rfl
   |some o=>
    by_cases y:x=bd
    ·rw[y,bd2]at e;cases e
    ·rw[u2 _ _ y (s1 _ _ (s9 _ _ e2))]at e;cases e
  have k3:∀{x:Addr} {o:HO},H2 x=some o->x≠s'->x≠ch->H3 x=some o:=fun e n m=>u3 _ _ n m e
  have fr:∀x∈ [b,g,r,e,ru,me,od],H x=none:=fun x hx=>gU (s9.trans s1) (fr2 x hx)
  have nb:∀{x:Addr},x∈ [b,g,r,e,ru,me,od] ->x≠s'/\x≠ch:=fun hx=>⟨fun y=>by{have:=s1 _ _ h1;rw[<- y,fr2 _ hx]at this;cases this},fun y=>by{have:=s1 _ _ h2';rw[<- y,fr2 _ hx]at this;cases this}⟩
  obtain⟨⟨d1,e1⟩,⟨⟨d2,e2⟩,e3,e4⟩,e5,e6,e7⟩:=B2;have kb2:∀{x:Addr} {o:HO},x∈ [b,g,r,e,ru,me,od] ->H2 x=some o->H3 x=some o:=fun hx e=>k3 e (nb hx).1 (nb hx).2
  exact q H3 fi fd lk c b g r e ru me od ⟨⟨dx,g1⟩,g2,k3 bd2 ns.symm nc.symm,⟨df,g3⟩,g4,g5,nfl,n0 f1,n0 f2,n0 f3⟩ ⟨⟨d1,kb2 (by simp) e1⟩,⟨⟨d2,kb2 (by simp) e2⟩,kb2 (by simp) e3,kb2 (by simp) e4⟩,kb2 (by simp) e5,kb2 (by simp) e6,kb2 (by simp) e7⟩ sp2 fr (fun x o n1 n2 n3 e=>k3 (u2 _ _ n3 (s1 _ _ (s9 _ _ e))) n1 n2)
theorem cO.off{s:Addr}{B:BM}(h:cO CB CT H B)(hs:∃dx bd ch' fi,H s=some (.ins CS dx (dZ bd ch' fi)))(hc:H ch=some (.lst cs))(n1:ch≠B.r)(n2:ch≠B.od)(u:∀x o,x≠s->x≠ch->H x=some o->H' x=some o):cO CB CT H' B:=by
 obtain⟨dx,bd,ch',fi,hs⟩:=hs;obtain⟨⟨d1,e1⟩,⟨⟨d2,e2⟩,e3,e4⟩,e5,e6,e7⟩:=h;have k:∀{x:Addr} {o:HO},H x=some o->(∀a b c,o≠ .ins a b c)->x≠ch->H' x=some o:=fun e n m=>u _ _ (fun y=>by rw[y,hs]at e;exact n _ _ _ (Option.some.inj e).symm) m e
 have nc:∀{x:Addr} {o:HO},H x=some o->(∀a,o≠ .lst a)->x≠ch:=fun e n y=>by rw[y,hc]at e;exact n _ (Option.some.inj e).symm
 refine⟨⟨d1,u _ _ (xX e1 hs (show 4≠3 by decide)) (nc e1 nk) e1⟩,⟨⟨d2,u _ _ (fun y=> ?_) (nc e2 nk) e2⟩,k e3 (fun _ _ _ y=>by cases y) n1.symm,k e4 (fun _ _ _ y=>by cases y) (nc e4 nk)⟩,k e5 (fun _ _ _ y=>by cases y) (nc e5 nk),k e6 (fun _ _ _ y=>by cases y) (nc e6 nk),k e7 (fun _ _ _ y=>by cases y) n2.symm⟩;rw[y,hs]at e2;cases e2
structure nG(bd ch:Addr)(B:BM):Prop where
 r:ch≠B.r
 o:ch≠B.od
 e:bd≠B.e
 u:bd≠B.ru
 m:bd≠B.me
inductive a0a(K:Fg)(CS CF CB CT:Addr)(vs:List V)(H:Hp)(Q:VK)(E:XK):Prop
 |mk (s bd ch a:Addr) (cs:List V) (kb:List (aB×V)) (nm t:Str) (ys:List V) (ds:List PyData) (B:BM):vs= [.ref s,.str nm,.str t,.ref a] ->tF CS s bd ch cs kb H->cs.length<900->Nl nm->aE kb (.inr nm:aB)=some (.ref B.b)->cO CB CT H B->B.sep->nG bd ch B->qS B t->Nl t->H a=some (.lst ys)->a≠B.od->cQ K H ys ds->ys.length=B.xs.length->ys.length<=30->B.kvs.length<8->B.ord.length<8->(∀H' fi fd lk c l,oR CS CF s bd ch fi fd lk (cs++ [.ref c]) kb H H'->H l=none->cO CB CT H' {B with kvs:=aR B.kvs (.inr t:aB) (.ref l),ord:=B.ord++ [t]} ->H' l=some (.lst ys)->(∀x o,x≠s->x≠ch->x≠B.od->x≠B.e->H x=some o->H' x=some o)->Q .non H')->a0a K CS CF CB CT vs H Q E
theorem a4A:aY ["self","table","column","values","board"] ["self","table","column","values"] (aL a03):={}
theorem a43(T:bA K mg)(Y:gR K mg CS)(Z:fO K mg CF)(W:cY K mg CB)(U:dQ K mg CT)(C:qZ K mg CC):aS P w K mg af aD 9 CS "give" ["self","table","column","values"] (a0a K CS CF CB CT):=by
 have G_for:aS P w K mg af aD 3 CS "board_for" ["self","table","column"] (xP CS CB CT):=a4R T Y W;have G_many:aS P w K mg af aD 1 CT "many" ["self"] (mK CT):=nR T U;have G_cv:bD P w K mg af aD 4 "check_values" ["values","many"] (xI K):=a3f T;have GI:eO P w K mg af aD 1 CC ["self","board","column","content"] (wX CC):=a4n T C;have G_make:aS P w K mg af aD 8 CS "make" ["self","change"] (rB CS CF CC (sJ CC CB CT (wF K CB CT))):=vE T Y Z C.cl (a1u a6g) (a1q T C W (a5n T W U));refine Y.m_give.known a4A (fun _ _ _ _ _ _ us hl=>kP (fun _ _ _ _=>rfl) us hl) (fun vs H Q E h=> ?_) (fun f ah A ag s H vs Q E hr h=> ?_)
 ·obtain⟨s',bd,ch,a,cs,kb,nm,t,ys,ds,B,rfl,_⟩:=h
  rfl
 ·obtain⟨s',bd,ch,a,cs,kb,nm,t,ys,ds,B,rfl,hS,cl,hn,hv,hB,sep,ss,new,ht,ha,nao,hp,ly,l30,k8,o8,q⟩:=h
  refine⟨_,(aJ (cA (i:=4) a4A.nd rfl (Or.inl rfl) (cF (pv 0) Y.cl G_for hr.mn aO (aA (pv 1) (aA (pv 2) aG))))
   (aJ (bW (bK G_cv hr.mn aO (aA (pv 3) (aA (mU (aV (pv 4) rfl) U.cl G_many hr.mn aO) aG))))
   (aK (bW (cF (pv 0) Y.cl G_make hr aO (aA (jE GI hr.mn C.c aO (aA (pv 4) (aA (pv 2) (aA (pv 3) aG)))) aG)))))),?_⟩
  obtain⟨⟨dx,fi0,h1⟩,h2,h3⟩:=hS;refine⟨_,rfl,s',dx,_,rfl,h1,fN,_,rfl,_,rfl,s',bd,ch,fi0,dx,kb,nm,t,B,rfl,h1,h3,hn,hv,hB,ht,o8,fun H1 s1=> ?_⟩;obtain⟨dB,b1⟩:=(hB.same s1).at_;obtain⟨dT,t1⟩:=(hB.same s1).tab.at_;refine⟨_,rfl,_,rfl,B.b,CB,dB,_,_,rfl,b1,W.cl,W.n_given,(dN _ _ _ _).1,B.g,dT,_,rfl,t1,iS,B.g,B.r,B.e,B.xs,B.n,B.kvs,rfl,(hB.same s1).tab,?_⟩;refine⟨a,ys,ds,by rw[ly];rfl,aM.of (s1 _ _ ha),hp.keep (bQ.of s1),by omega,fun H2 s2=> ?_⟩;have s12:=s1.trans s2;refine⟨_,rfl,s',dx,_,rfl,s12 _ _ h1,fN,_,rfl,_,rfl,_,rfl,?_⟩;intro c dc hc hdc ne;refine⟨c,dc,B.b,a,t,rfl,aI,fun H3 b3 c3=>⟨rfl,?_⟩⟩;have s3:aF H H3:=fun b o z=>b3 b o (aX (s12 _ _ z) hc) (by rw[aH (aX (s12 _ _ z) hc),aH (aX (s12 _ _ z) hdc)];exact s12 _ _ z)
  have hB3:=hB.same s3;refine⟨s',c,bd,ch,fi0,dx,dc,cs,_,rfl,c3,(yF _ _ _).2.2.2.1,c,dc,a,B,t,rfl,c3,hB3,new,B,t,a,ys,ds,rfl,hB3,sep,new,ht,s3 _ _ ha,nao,hp.keep (bQ.of s3),ly,l30,k8,by omega,fun H4 l hl B4 l4 u4=> ?_⟩;have hB0:=hB.ord;have he0:=hB.tab.kept;have k4:∀{x:Addr} {o:HO},H x=some o->x≠B.od->x≠B.e->H4 x=some o:=fun e n m=>u4 _ _ n m (s3 _ _ e)
  have ns:s'≠B.od/\s'≠B.e:=⟨fun y=>by{rw[y,hB0]at h1;cases h1},fun y=>by{rw[y,he0]at h1;cases h1}⟩;have nce:ch≠B.e:=fun y=>by rw[y,he0]at h2;cases h2
  have nbo:bd≠B.od:=fun y=>by rw[y,hB0]at h3;cases h3
  have ns4:=k4 h1 ns.1 ns.2;have ch4:=k4 h2 ss.o nce;refine⟨ns4,ch4,cl,fun H5 fi fd lk df f1 f2 f3 nfl g1 g2 g3 g4 g5 u5=> ?_⟩;have nn:∀{x:Addr},H4 x=none->H x=none:=fun{x} e=>by
   cases e2:H x with
   |none=>rfl
   |some o=>
    by_cases y:x=B.od
    ·rw[y,B4.ord]at e;cases e
    ·by_cases y2:x=B.e
     ·rw[y2,B4.tab.kept]at e;cases e
     ·rw[k4 e2 y y2]at e;cases e
  have hl0:H l=none:=gU s3 hl;have nl:l≠s'/\l≠ch:=⟨fun y=>by{rw[y,h1]at hl0;cases hl0},fun y=>by{rw[y,h2]at hl0;cases hl0}⟩;have nb:bd≠s'/\bd≠ch:=⟨fun y=>by{rw[y,h1]at h3;cases h3},fun y=>by{rw[y,h2]at h3;cases h3}⟩;exact q H5 fi fd lk c l ⟨⟨dx,g1⟩,g2,u5 _ _ nb.1 nb.2 (k4 h3 nbo ss.e),⟨df,g3⟩,g4,g5,nfl,nn f1,nn f2,nn f3⟩ hl0 (B4.off ⟨dx,bd,ch,fi0,ns4⟩ ch4 ss.r ss.o u5) (u5 _ _ nl.1 nl.2 l4) (fun x o n1 n2 n3 n4 e=>u5 _ _ n1 n2 (k4 e n3 n4))
inductive a0L(K:Fg)(CS CF CB CT:Addr)(vs:List V)(H:Hp)(Q:VK)(E:XK):Prop
 |mk (s bd ch l:Addr) (cs:List V) (kb:List (aB×V)) (nm t:Str) (p:Nat) (v:V) (d:PyData) (ys:List V) (B:BM):vs= [.ref s,.str nm,.str t,.int (p:Int),v] ->tF CS s bd ch cs kb H->cs.length<900->Nl nm->aE kb (.inr nm:aB)=some (.ref B.b)->cO CB CT H B->nG bd ch B->Nl t->t∈B.ord->aE B.rus (.inr t:aB)=none->aE B.kvs (.inr t:aB)=some (.ref l)->H l=some (.lst ys)->p<B.xs.length->ys.length=B.xs.length->Pv K H v d->l≠ch->l≠B.r->l≠B.od->(∀H' fi fd lk c,oR CS CF s bd ch fi fd lk (cs++ [.ref c]) kb H H'->cO CB CT H' B->H' l=some (.lst (ys.set p v))->(∀x o,x≠s->x≠ch->x≠l->H x=some o->H' x=some o)->Q .non H')->a0L K CS CF CB CT vs H Q E
theorem a3M:aY ["self","table","column","place","value","board"] ["self","table","column","place","value"] (aL a2U):={}
theorem a7t(T:bA K mg)(Y:gR K mg CS)(Z:fO K mg CF)(W:cY K mg CB)(U:dQ K mg CT)(C:uH K mg CC):aS P w K mg af aD 9 CS "put" ["self","table","column","place","value"] (a0L K CS CF CB CT):=by
 have G_with:aS P w K mg af aD 3 CS "board_with" ["self","table","column"] (uU CS CB CT):=a3h T Y W;have GI:eO P w K mg af aD 1 CC ["self","board","column","place","value"] (a0B CC):=a5e T C;have G_make:aS P w K mg af aD 8 CS "make" ["self","change"] (rB CS CF CC (uQ K CC CB CT)):=vE T Y Z C.cl a53 (a5B T C W U);refine Y.m_put.known a3M (fun _ _ _ _ _ _ us hl=>pP (fun _ _ _ _ _=>rfl) us hl) (fun vs H Q E h=> ?_) (fun f ah A ag s H vs Q E hr h=> ?_)
 ·obtain⟨s',bd,ch,l,cs,kb,nm,t,p,v,d,ys,B,rfl,_⟩:=h
  rfl
 ·obtain⟨s',bd,ch,l,cs,kb,nm,t,p,v,d,ys,B,rfl,hS,cl,hn,hv,hB,ss,ht,to,hru,hkv,hl,hp,ly,hpv,nlc,nlr,nlo,q⟩:=h
  have hu:=dY hr
  refine⟨_,(aJ (cA (i:=5) a3M.nd rfl (Or.inl rfl) (cF (pv 0) Y.cl G_with hr.mn aO (aA (pv 1) (aA (pv 2) aG))))
   (aJ (bI (iY (oC hu (pv 2) (aV (pv 5) rfl))) (aK cJ) bL)
   (aK (bW (cF (pv 0) Y.cl G_make hr aO (aA (jE GI hr.mn C.c aO (aA (pv 5) (aA (pv 2) (aA (pv 3) (aA (pv 4) aG))))) aG)))))),?_⟩
  obtain⟨⟨dx,fi0,h1⟩,h2,h3⟩:=hS;refine⟨_,rfl,s',dx,_,rfl,h1,fN,_,rfl,_,rfl,s',bd,ch,fi0,dx,kb,nm,t,B,rfl,h1,h3,hn,hv,hB,ht,to,fun H1 s1=> ?_⟩;obtain⟨dB,b1⟩:=(hB.same s1).at_;refine⟨_,rfl,_,rfl,B.b,CB,dB,_,_,rfl,b1,W.cl,W.n_rules,(dN _ _ _ _).2.1,B.ru,_,rfl,bU.k (k:=Sum.inr t) (hB.same s1).rul,_,rfl,?_⟩;rw[hru];refine bG ?_;refine⟨_,rfl,s',dx,_,rfl,s1 _ _ h1,fN,_,rfl,_,rfl,_,rfl,_,rfl,?_⟩;intro c dc hc hdc ne;refine⟨c,dc,B.b,t,p,v,rfl,aI,fun H3 b3 c3=>⟨rfl,?_⟩⟩;have s3:aF H H3:=fun b o z=>b3 b o (aX (s1 _ _ z) hc) (by rw[aH (aX (s1 _ _ z) hc),aH (aX (s1 _ _ z) hdc)];exact s1 _ _ z)
  have hB3:=hB.same s3;refine⟨s',c,bd,ch,fi0,dx,dc,cs,_,rfl,c3,(a0u _ _ _ _ _).2.2.2.2.1,c,dc,l,B,t,p,v,.non,d,ys,rfl,c3,hB3,ht,hkv,s3 _ _ hl,hp,ly,hpv.keep (bQ.of s3),fun H4 u4 l4=> ?_⟩;have hc0:H c=none:=gU s1 hc;have k4:∀{x:Addr} {o:HO},H x=some o->x≠l->H4 x=some o:=fun e n=>u4 _ _ (fun y=>by rw[y,hc0]at e;cases e) n (s3 _ _ e)
  have nl:∀{x:Addr} {o:HO},H x=some o->(∀y,o≠ .lst y)->x≠l:=fun e n y=>by rw[y,hl]at e;exact n _ (Option.some.inj e).symm
  have ns4:=k4 h1 (nl h1 nk);have ch4:=k4 h2 nlc.symm;refine⟨ns4,ch4,cl,fun H5 fi fd lk df f1 f2 f3 nfl g1 g2 g3 g4 g5 u5=> ?_⟩;have nn:∀{x:Addr},H4 x=none->H x=none:=fun{x} e=>by
   cases e2:H x with
   |none=>rfl
   |some o=>
    by_cases y:x=l
    ·rw[y,l4]at e;cases e
    ·rw[k4 e2 y]at e;cases e
  have nb:bd≠s'/\bd≠ch:=⟨fun y=>by{rw[y,h1]at h3;cases h3},fun y=>by{rw[y,h2]at h3;cases h3}⟩;have nls:l≠s':=fun y=>by rw[y,h1]at hl;cases hl
  have B4:cO CB CT H4 B:=by
   obtain⟨⟨d1,e1⟩,⟨⟨d2,e2⟩,e3,e4⟩,e5,e6,e7⟩:=hB;exact⟨⟨d1,k4 e1 (nl e1 nk)⟩,⟨⟨d2,k4 e2 (nl e2 nk)⟩,k4 e3 nlr.symm,k4 e4 (nl e4 nk)⟩,k4 e5 (nl e5 nk),k4 e6 (nl e6 nk),k4 e7 nlo.symm⟩
  exact q H5 fi fd lk c ⟨⟨dx,g1⟩,g2,u5 _ _ nb.1 nb.2 (k4 h3 (nl h3 nk)),⟨df,g3⟩,g4,g5,nfl,nn f1,nn f2,nn f3⟩ (B4.off ⟨dx,bd,ch,fi0,ns4⟩ ch4 ss.r ss.o u5) (u5 _ _ nls nlc l4) (fun x o n1 n2 n3 e=>u5 _ _ n1 n2 (k4 e n3))
end
abbrev bP:=Str×Str
def N2(z:bP):Prop:=Nl z.1/\Nl z.2
theorem N2.lay{z:bP}(h:N2 z):(iO z).canLay0=true:=a0N h.1 h.2
theorem bC.upd{p:Addr}:bC p H (upd H p o):=fun b u n e=>by rw[aH n];exact e
def kS(z:bP):List aB:=[.inr z.1,.inr z.2]
theorem a6z{z u:bP}(h:kS z=kS u):z=u:=by
 obtain⟨a,b⟩:=z;obtain⟨c,d⟩:=u;simp only[kS,List.cons.injEq,Sum.inr.injEq,and_true]at h;rw[h.1,h.2]
def iU(H:Hp)(v:V)(z:bP):Prop:=∃a,v= .ref a/\H a=some (.tup [.str z.1,.str z.2])
theorem iU.mapT{v:V}{z:bP}(k:∀a xs,H a=some (.tup xs)->H' a=some (.tup xs))(h:iU H v z):iU H' v z:=let ⟨a,e,g⟩:=h;⟨a,e,k _ _ g⟩
theorem iU.same{v:V}{z:bP}(s:aF H H')(h:iU H v z):iU H' v z:=h.mapT fun a xs e=>s _ _ e
theorem iU.dt{v:V}{z:bP}(h:iU H v z):Dt K H v (iO z):=by
 obtain⟨a,rfl,g⟩:=h;exact .tup (bR.of g) (.cons (.str _) (.cons (.str _) .nil))
def cT(H:Hp):List V->List bP->Prop:=Paired (iU H)
theorem cT.mapT{H H':Hp}(k:∀a xs,H a=some (.tup xs)->H' a=some (.tup xs)):∀{vs:List V} {zs:List bP},cT H vs zs->cT H' vs zs
 |_,_,.nil=> .nil
 |_,_,.cons r t=> .cons (r.mapT k) (cT.mapT k t)
theorem cT.same{zs:List bP}(s:aF H H')(h:cT H vs zs):cT H' vs zs:=h.mapT fun a xs e=>s _ _ e
theorem cT.length{zs:List bP}(h:cT H vs zs):vs.length=zs.length:=Paired.length h
theorem cT.at{H:Hp}:∀{vs:List V} {zs:List bP} {i:Nat} {v:V},cT H vs zs->vs[i]?=some v->∃z,zs[i]?=some z/\iU H v z
 |_,_,_,_,.nil,e=>by simp at e
 |_,_,0,_,.cons r _,e=>by simp at e;subst e;exact⟨_,rfl,r⟩
 |_,_,i+ 1,v,.cons _ t,e=>by
  obtain⟨z,h1,h2⟩:=cT.at (i:=i) (v:=v) t (by simpa using e);exact⟨z,by simpa using h1,h2⟩
theorem cT.snoc{H:Hp}{v:V}{z:bP}(h:iU H v z):∀{vs:List V} {zs:List bP},cT H vs zs->cT H (vs++ [v]) (zs++ [z])
 |_,_,.nil=> .cons h .nil
 |_,_,.cons r t=> .cons r (cT.snoc h t)
theorem cT.dt{K:Fg}{H:Hp}:∀{vs:List V} {zs:List bP},cT H vs zs->dI K H vs (zs.map iO)
 |_,_,.nil=> .nil
 |_,_,.cons r t=> .cons r.dt (cT.dt t)
theorem a6G(h:n<3000):n<sizeLine:=Nat.lt_trans h (by decide)
def fX(p q:Addr)(H H':Hp):Prop:=∀b o,b≠p->b≠q->H b=some o->H' b=some o
theorem fX.of{p q:Addr}(s:aF H H'):fX p q H H':=fun b o _ _ e=>s b o e
theorem fX.trans{p q:Addr}(a:fX p q H H1)(b:fX p q H1 H2):fX p q H H2:=fun c o n m e=>b c o n m (a c o n m e)
theorem fX.u1{p q:Addr}:fX p q H (upd H p o):=fun b u n _ e=>by rw[aH n];exact e
theorem fX.u2{p q:Addr}:fX p q H (upd H q o):=fun b u _ n e=>by rw[aH n];exact e
theorem a3H(s:aF H H')(h:H' l=none):H l=none:=by
 cases e:H l with
 |none=>rfl
 |some o=>rw[s l o e]at h;cases h
theorem a4d{κ:Type} [DecidableEq κ](kvs:List (κ×V))(k:κ)(y:V):(aR kvs k y).length<=kvs.length+ 1:=by
 unfold aR;split
 ·rw[List.length_map];omega
 ·rw[List.length_append];exact Nat.le_refl _
structure rE(H:Hp)(gd:Addr)(kvs:List (List aB×V))(adj:bP->List bP):Prop where
 d:H gd=some (.dT kvs)
 a:∀z,(aE kvs (kS z)=none/\adj z= [])\/ ∃l vs,aE kvs (kS z)=some (.ref l)/\H l=some (.lst vs)/\cT H vs (adj z)
 n:∀z,∀y∈adj z,N2 y
 l:∀z,(adj z).length<=100
theorem rE.same{gd:Addr}{adj:bP->List bP}(s:aF H H')(h:rE H gd kvs adj):rE H' gd kvs adj:=
 ⟨s _ _ h.d,fun z=>(h.a z).imp id fun⟨l,vs,e1,e2,e3⟩=>⟨l,vs,e1,s _ _ e2,e3.same s⟩,h.n,h.l⟩
theorem a2c{α:Type} [DecidableEq α]:∀{l m:List α},l.Nodup->(∀x∈l,x∈m)->l.length<=m.length
 | [],_,_,_=>Nat.zero_le _
 |a::l,m,nd,h=>by
  rw[List.nodup_cons]at nd;have ih:=a2c (l:=l) (m:=m.erase a) nd.2 fun x hx=>(List.mem_erase_of_ne (fun(e:x=a)=>nd.1 (e▸hx))).mpr (h x (List.mem_cons_of_mem _ hx))
  have:=List.length_erase_of_mem (h a aa);have:=List.length_pos_of_mem (h a aa);rw[List.length_cons];omega
def oX(nodes:List bP)(cvs:List (List aB×V)):Prop:=(cvs.map (·.1)).Nodup/\∀k∈cvs.map (·.1),k∈nodes.map kS
theorem oX.len{nodes:List bP}{cvs:List (List aB×V)}(h:oX nodes cvs):cvs.length<=nodes.length:=by
 have:=a2c h.1 h.2
 rwa [List.length_map,List.length_map]at this
theorem a3B{κ:Type} [DecidableEq κ]{k:κ}:∀{kvs:List (κ×V)},aE kvs k=none->k∉kvs.map (·.1)
 | [],_,h=>by cases h
 |x::r,e,h=>by
  by_cases y:x.1=k
  ·rw[kA y]at e;cases e
  ·rw[jG y]at e
   rw[List.map_cons]at h
   rcases List.mem_cons.mp h with h|h
   ·exact y h.symm
   ·exact a3B e h
theorem oX.put{nodes:List bP}{cvs:List (List aB×V)}{y:bP}{v:V}(h:oX nodes cvs)(hy:y∈nodes)(e:aE cvs (kS y)=none):oX nodes (aR cvs (kS y) v)/\(aR cvs (kS y) v).length=cvs.length+ 1:=by
 rw[sH _ e];refine⟨⟨?_,fun k hk=> ?_⟩,by rw[List.length_append];rfl⟩
 ·rw[List.map_append,List.nodup_append]
  exact⟨h.1,List.nodup_cons.mpr ⟨fun h=>(by cases h),List.nodup_nil⟩,fun a ha b hb z=>a3B e (by rw[<- show b=kS y from List.mem_singleton.mp hb,<- z];exact ha)⟩
 ·rw[List.map_append]at hk
  rcases List.mem_append.mp hk with hk|hk
  ·exact h.2 k hk
  ·rw[List.mem_singleton.mp hk]
   exact List.mem_map.mpr ⟨y,hy,rfl⟩
section
inductive zD(K:Fg)(vs:List V)(H:Hp)(Q:VK)(E:XK):Prop
 |mk (gd:Addr) (v0:V) (kvs:List (List aB×V)) (adj:bP->List bP) (s:bP) (nodes:List bP):vs= [.ref gd,v0] ->rE H gd kvs adj->iU H v0 s->N2 s->(∀x,∀y∈adj x,y∈nodes)->nodes.length<=100->s∉nodes->(∀H',aF H H'->Q .non H')->zD K vs H Q E
structure pA(H0 H:Hp)(cd fl:Addr)(nodes:List bP)(n:Nat)(cvs:List (List aB×V))(fvs:List V)(fz:List bP):Prop where
 s:aF H0 H
 c:H cd=some (.dT cvs)
 f:H fl=some (.lst fvs)
 z:cT H fvs fz
 k:oX nodes cvs
 n:cvs.length=n+ fvs.length
theorem pA.same{cd fl:Addr}{nodes:List bP}{cvs:List (List aB×V)}{fvs:List V}{fz:List bP}(s:aF H H')(h:pA H0 H cd fl nodes n cvs fvs fz):pA H0 H' cd fl nodes n cvs fvs fz:=⟨h.s.trans s,s _ _ h.c,s _ _ h.f,h.z.same s,h.k,h.n⟩
theorem oK:aY ["leanings","spot","came_from","waiting","farther","leaning","leant"] ["leanings","spot"] (aL a1Y):={}
theorem a7c(T:bA K mg):bD P w K mg af aD 2 "ring_from" ["leanings","spot"] (zD K):=by
 refine T.d_ring_from.known oK (fun _ _ _ _ _ _ us hl=>eG (fun _ _=>rfl) us hl) (fun vs H Q E h=> ?_) (fun f ah A ag s H vs Q E hr h=> ?_)
 ·obtain⟨gd,v0,kvs,adj,z,nodes,rfl,_⟩:=h
  rfl
 ·obtain⟨gd,v0,kvs,adj,z,nodes,rfl,hG,h0,hzN,hnodes,h100,hns,q⟩:=h
  have hu:=dY hr
  refine⟨_,(aJ (cA (i:=2) oK.nd rfl (Or.inl rfl) pJ)
   (aJ (cA (i:=3) oK.nd rfl (Or.inl rfl) (fC (aA (pv 1) aG)))
   (aJ (a1R PassesOwn.never (a4V (pv 3) (fun _=>rfl)) (aJ (cA (i:=4) oK.nd rfl (Or.inl rfl) (fC aG))
   (aJ (nM PassesOwn.never rfl (mJ (pv 3)) (iG (i:=5) oK.nd rfl (Or.inl rfl)) (aK (nM PassesOwn.never rfl (mJ (a8u hu (pv 0) (pv 5) (fC aG) ⟨rfl,rfl,rfl,rfl⟩)) (iG (i:=6) oK.nd rfl (Or.inl rfl))
   (aJ (bI (cR (a8E hr.units) (pv 6) (pv 1) (dA _)) (aK cJ) bL)
   (aK (bI (iY (lP hu (pv 6) (pv 2))) (aJ (iX hu (pv 2) (pv 6) (pv 5) rfl) (aK (bW (lZ F.plainAttrs_list F.slot_list_append F.type_list_append lO (pv 4) (aA (pv 6) aG))))) bL))))))
   (aK (cA (i:=3) oK.nd rfl (Or.inl rfl) (pv 4))))))
   (aK (bH gT))))),?_⟩
  intro cd hcd;have s1:=aF.new (o:=.dT []) hcd;have hc1:=aI (H:=H) (a:=cd) (o:=.dT [])
  generalize upd H cd (.dT [])=H1 at s1 hc1|-
  refine⟨_,rfl,sl,fun wl hwl=> ?_⟩;have s2:=aF.new (o:=.lst [v0]) hwl
  let Wf:Nat->St->Hp->Prop:=fun m σ H2=>∃(wz:List bP) (cvs:List (List aB×V)) (wl:Addr) (wvs:List V) (o4 o5 o6:Option V),σ= [some (.ref gd),some v0,some (.ref cd),some (.ref wl),o4,o5,o6] /\m=2* (nodes.length- cvs.length)+ (if wvs= [] then 0 else 1)/\aF H H2/\H2 cd=some (.dT cvs)/\oX nodes cvs/\H2 wl=some (.lst wvs)/\cT H2 wvs wz/\H wl=none
  refine⟨Wf,⟨_,[z],[],wl,[v0],_,_,_,rfl,rfl,s1.trans s2,s2 _ _ hc1,⟨List.nodup_nil,fun k hk=>by cases hk⟩,aI,.cons (h0.same (s1.trans s2)) .nil,a3H s1 hwl⟩,?_⟩;clear hwl s2 wl;rintro m σ H2 ⟨wz,cvs,wl,wvs,o4,o5,o6,rfl,hm,sH2,hc2,ck,hw2,hz2,hwl⟩;refine⟨_,rfl,_,.inl ⟨wvs,aM.of hw2,rfl⟩,?_⟩;refine bY (fun g=> ?_) (fun g=> ?_)
  rotate_left
  ·exact q H2 sH2
  have hwz:wvs≠ []:=fun e=>by
   rw[e]at g;cases g
  rw[if_neg hwz]at hm;refine⟨fun σ' H'=>∃m',m'<m/\Wf m' σ' H',fun σ' H' h=>h,?_⟩;refine⟨sl,fun fl hfl=> ?_⟩;have s3:=aF.new (o:=.lst []) hfl;have A3:pA H (upd H2 fl (.lst [])) cd fl nodes cvs.length cvs [] []:=⟨sH2.trans s3,s3 _ _ hc2,aI,.nil,ck,rfl⟩;have hw3:=s3 _ _ hw2;have hz3:=hz2.same s3;have ncf:cd≠fl:=aX hc2 hfl;have nwf:wl≠fl:=aX hw2 hfl;have nwc:wl≠cd:=kZ hw2 hc2 (fun z=>by cases z);have hfl0:H fl=none:=a3H sH2 hfl
  generalize upd H2 fl (.lst [])=H3 at A3 hw3 hz3|-
  refine⟨_,rfl,wl,rfl,⟨_,aM.of hw3⟩,?_⟩;refine pF (K:=K) (a:=wl) (xs:=wvs) (fun i σ H4=>∃(fz:List bP) (cvs':List (List aB×V)) (fvs:List V) (o5 o6:Option V),σ= [some (.ref gd),some v0,some (.ref cd),some (.ref wl),some (.ref fl),o5,o6] /\fX cd fl H3 H4/\pA H H4 cd fl nodes cvs.length cvs' fvs fz)
   ⟨[],cvs,[],_,_,rfl,fX.of (aF.refl _),A3⟩ (by rintro i σ H4 _ ⟨_,_,_,_,_,_,b4,_⟩;exact aM.of (b4 _ _ nwc nwf hw3)) ?_ ?_
  ·rintro i x σ H4 hx ⟨fz,cvs',fvs,o5,o6,rfl,b4,A4⟩
   obtain⟨xz,hxz,hxs⟩:=hz3.at hx;have tup34:∀a xs,H3 a=some (.tup xs)->H4 a=some (.tup xs):=fun a xs e=>b4 _ _ (kZ e A3.c (fun z=>by cases z)) (kZ e A3.f (fun z=>by cases z)) e
   have hx4:=hxs.mapT tup34;have hG4:=hG.same A4.s;obtain⟨ax,rfl,hax⟩:=hx4;refine⟨_,rfl,gd,rfl,.inr ⟨kvs,.inl hG4.d⟩,_,rfl,sl,fun dl hdl=> ?_⟩;have s5:=aF.new (o:=.lst []) hdl;have hdl5:=aI (H:=H4) (a:=dl) (o:=.lst []);have A5:=A4.same s5;have b5:fX cd fl H3 (upd H4 dl (.lst [])):=b4.trans (fX.of s5);have ndc:dl≠cd:=fun e=>by rw[e,A4.c]at hdl;cases hdl
   have ndf:dl≠fl:=fun e=>by rw[e,A4.f]at hdl;cases hdl
   have hG5:=hG4.same s5;have hax5:=s5 _ _ hax
   generalize upd H4 dl (.lst [])=H5 at s5 hdl5 A5 b5 hG5 hax5|-
   obtain⟨la,avs,hget,hla,hSa,nlc,nlf⟩:∃(la:Addr) (avs:List V),(aE kvs (kS xz)).getD (.ref dl)= .ref la/\H5 la=some (.lst avs)/\cT H5 avs (adj xz)/\la≠cd/\la≠fl:=by
    rcases hG.a xz with⟨e1,e2⟩|⟨l,vs,e1,e2,e3⟩
    ·exact⟨dl,[],by rw[e1];rfl,hdl5,by rw[e2];exact .nil,ndc,ndf⟩
    ·have hs:=A5.s
     exact⟨l,vs,by rw[e1];rfl,hs _ _ e2,e3.same hs,aX e2 hcd,aX e2 hfl0⟩
   refine⟨_,bU.t (k:=kS xz) hG5.d hax5,?_⟩;refine⟨la,hget,⟨_,aM.of hla⟩,?_⟩;refine pF (K:=K) (a:=la) (xs:=avs) (fun j σ H6=>∃(fz2:List bP) (cvs2:List (List aB×V)) (fvs2:List V) (o6:Option V),σ= [some (.ref gd),some v0,some (.ref cd),some (.ref wl),some (.ref fl),some (.ref ax),o6] /\fX cd fl H5 H6/\pA H H6 cd fl nodes cvs.length cvs2 fvs2 fz2)
    ⟨fz,cvs',fvs,_,rfl,fX.of (aF.refl _),A5⟩ (by rintro j σ H6 _ ⟨_,_,_,_,_,b6,_⟩;exact aM.of (b6 _ _ nlc nlf hla)) ?_ ?_
   ·have hc5:=A5.c
    have hf5:=A5.f;clear A4 A5;rintro j y σ H6 hy ⟨fz2,cvs2,fvs2,o6,rfl,b6,A6⟩;obtain⟨yz,hyz,hys⟩:=hSa.at hy;have tup56:∀a xs,H5 a=some (.tup xs)->H6 a=some (.tup xs):=fun a xs e=>b6 _ _ (kZ e hc5 (fun z=>by cases z)) (kZ e hf5 (fun z=>by cases z)) e
    have hy6:=hys.mapT tup56;have h06:=h0.same A6.s;have hyz':yz∈adj xz:=List.mem_of_getElem? hyz;have hya:yz∈nodes:=hnodes xz yz hyz';have hyN:=hG.n xz yz hyz';refine⟨_,rfl,_,rfl,_,_,hy6.dt,h06.dt,hyN.lay,hzN.lay,(show max 0 (max 0 0)+ 1<=64 by decide),_,rfl,?_⟩;rw[a4l];refine bY (fun g1=> ?_) (fun g1=> ?_)
    ·have g1:yz=z:=by simpa using g1
     exact absurd (g1▸hya) hns
    ·obtain⟨ay,rfl,hay⟩:=hy6
     refine⟨_,rfl,_,rfl,cd,_,rfl,bU.t (k:=kS yz) A6.c hay,_,rfl,?_⟩;have l6:=A6.k.len;have n6:=A6.n
     cases hv:aE cvs2 (kS yz)with
     |none=>
      refine cI ⟨_,rfl,_,rfl,_,rfl,cd,_,rfl,gO.t (k:=kS yz) A6.c hay (a6G (by omega)),?_⟩;have s7:aF H (upd H6 cd (.dT (aR cvs2 (kS yz) (.ref ax)))):=A6.s.on hcd
      have hf7:upd H6 cd (.dT (aR cvs2 (kS yz) (.ref ax))) fl=some (.lst fvs2):=by rw[aH ncf.symm];exact A6.f
      have tup67:∀a xs,H6 a=some (.tup xs)->upd H6 cd (.dT (aR cvs2 (kS yz) (.ref ax))) a=some (.tup xs):=fun a xs e=>by rw[aH (kZ e A6.c (fun z=>by cases z))];exact e
      have hc7:=aI (H:=H6) (a:=cd) (o:=.dT (aR cvs2 (kS yz) (.ref ax)));have b7:fX cd fl H5 (upd H6 cd (.dT (aR cvs2 (kS yz) (.ref ax)))):=b6.trans fX.u1
      generalize upd H6 cd (.dT (aR cvs2 (kS yz) (.ref ax)))=H7 at s7 hf7 tup67 hc7 b7|-
      refine⟨_,rfl,.inl ⟨rfl,_,aM.of hf7⟩,_,rfl,fl,_,_,rfl,rfl,hf7,eD (by omega),?_⟩;have tup78:∀a xs,H7 a=some (.tup xs)->upd H7 fl (.lst (fvs2++ [.ref ay])) a=some (.tup xs):=fun a xs e=>by rw[aH (kZ e hf7 (fun z=>by cases z))];exact e
      have tup68:=fun a xs e=>tup78 a xs (tup67 a xs e)
      obtain⟨ck8,l8⟩:=A6.k.put (v:=.ref ax) hya hv;exact⟨fz2++ [yz],aR cvs2 (kS yz) (.ref ax),fvs2++ [.ref ay],_,rfl,b7.trans fX.u2,⟨s7.on hfl0,by rw[aH ncf];exact hc7,aI,(A6.z.mapT tup68).snoc ⟨ay,rfl,tup68 _ _ hay⟩,ck8,by rw[List.length_append,l8];show _=_+ (fvs2.length+ 1);omega⟩⟩
     |some u=>exact bG ⟨fz2,cvs2,fvs2,_,rfl,b6,A6⟩
   ·rintro σ H6 ⟨fz2,cvs2,fvs2,o6,rfl,b6,A6⟩
    exact⟨fz2,cvs2,fvs2,_,_,rfl,b5.trans b6,A6⟩
  ·rintro σ H4 ⟨fz,cvs',fvs,o5,o6,rfl,b4,A4⟩
   refine⟨_,rfl,_,?_,fz,cvs',fl,fvs,_,_,_,rfl,rfl,A4.s,A4.c,A4.k,A4.f,A4.z,hfl0⟩;have l4:=A4.k.len;have n4:=A4.n;rw[hm];by_cases e:fvs= []
   ·rw[if_pos e]
    rw[e]at n4;have n4:cvs'.length=cvs.length+ 0:=n4;omega
   ·rw[if_neg e]
    have:0<fvs.length:=List.length_pos_iff.mpr e;omega
inductive xJ(K:Fg)(vs:List V)(H:Hp)(Q:VK)(E:XK):Prop
 |mk (p C dx:Addr) (fs:List (Str×V)) (v:V):vs= [.ref p,v] ->H p=some (.ins C dx fs)->cG K C->cE K C "function" ->fs.length<1000->Q .non (upd H p (.ins C dx (aN "function" v fs)))->xJ K vs H Q E
theorem a5G:aY ["self","function"] ["self","function"] (aL a32):={}
theorem a1h(T:bA K mg)(Y:tP K mg C):aS P w K mg af aD 1 C "__init__" ["self","function"] (xJ K):=by
 refine Y.m_init.known a5G (fun _ _ _ _ _ _ us hl=>eG (fun _ _=>rfl) us hl) (fun vs H Q E h=> ?_) (fun f ah A ag s H vs Q E hr h=> ?_)
 ·obtain⟨p,C',dx,fs,v,rfl,_⟩:=h
  rfl
 ·obtain⟨p,C',dx,fs,v,rfl,hp,hC,hN,hl,q⟩:=h
  refine⟨_,(aK (cV (pv 0) (pv 1) rfl)),?_⟩;exact⟨_,rfl,_,rfl,p,C',dx,fs,rfl,hp,hC,hN,hl,q⟩
def jB(nl fa:Addr):List (Str×V):=[("function",V.ref fa),("names",V.ref nl)]
theorem rN(nl fa:Addr):(jB nl fa).lookup ("function":Str)=some (.ref fa)/\(jB nl fa).lookup ("names":Str)=some (.ref nl)/\(jB nl fa).lookup ("leans":Str)=none/\(jB nl fa).lookup ("gather":Str)=none/\(jB nl fa).lookup ("reckon":Str)=none:=⟨rfl,rfl,rfl,rfl,rfl⟩
inductive a0M(K:Fg)(C:Addr)(vs:List V)(H:Hp)(Q:VK)(E:XK):Prop
 |mk (p dx a fa:Addr) (zs:List Str):vs= [.ref p,.ref a,.ref fa] ->H p=some (.ins C dx [])->aM K H a (zs.map V.str)->a≠p->zs.length<=6->(∀z∈zs,Nl z)->(∀H' nl,bC p H H'->H nl=none->H' p=some (.ins C dx (jB nl fa))->H' nl=some (.lst (zs.map V.str))->Q .non H')->a0M K C vs H Q E
theorem a51:aY ["self","names","function"] ["self","names","function"] (aL a4O):={}
theorem a99(T:bA K mg){R:Addr}(Z:tP K mg R)(Y:kN K mg C):eO P w K mg af aD 4 C ["self","names","function"] (a0M K C):=by
 have G_init:aS P w K mg af aD 1 R "__init__" ["self","function"] (xJ K):=a1h T Z;have G_names:bD P w K mg af aD 3 "checked_names" ["names"] (yX K):=a9m T;refine(Y.m_init.known a51 (fun _ _ _ _ _ _ us hl=>jN (fun _ _ _=>rfl) us hl) (fun vs H Q E h=> ?_) (fun f ah A ag s H vs Q E hr h=> ?_)).init Y.mks Y.kc
 ·obtain⟨p,dx,a,fa,zs,rfl,_⟩:=h
  rfl
 ·obtain⟨p,dx,a,fa,zs,rfl,hp,hS,nap,z6,hz,q⟩:=h
  refine⟨_,(aJ (bW (a2K (vL Z.c) Z.v_init G_init hr.mn aO (aA (pv 0) (aA (pv 2) aG))))
   (aK (cV (pv 0) (bK G_names hr aO (aA (pv 1) aG)) rfl))),?_⟩
  refine⟨_,rfl,_,rfl,p,C,dx,[],.ref fa,rfl,hp,Y.cl,Y.n_function,by decide,?_⟩;have b1:bC p H (upd H p (.ins C dx (aN "function" (.ref fa) []))):=bC.upd;have p1:upd H p (.ins C dx (aN "function" (.ref fa) [])) p=some (.ins C dx (aN "function" (.ref fa) [])):=aI;have n1:∀{b:Addr},upd H p (.ins C dx (aN "function" (.ref fa) [])) b=none->H b=none/\b≠p:=iC
  generalize upd H p (.ins C dx (aN "function" (.ref fa) []))=H1 at b1 p1 n1|-
  have hS1:aM K H1 a (zs.map V.str):=by
   rcases hS with(h|⟨o,h⟩)|h
   ·exact .inl (.inl (b1 _ _ nap h))
   ·exact .inl (.inr ⟨o,b1 _ _ nap h⟩)
   ·exact .inr h
  refine⟨_,rfl,a,zs,rfl,hS1,z6,hz,fun H2 nl s2 hnl h2=> ?_⟩;obtain⟨hn0,nnp⟩:=n1 hnl;refine⟨_,rfl,p,C,dx,_,rfl,s2 _ _ p1,Y.cl,Y.n_names,(by show 1<1000;decide),?_⟩;exact q _ nl ((b1.trans (bC.of s2)).trans bC.upd) hn0 aI (by rw[aH nnp];exact h2)
inductive a0A(vs:List V)(H:Hp)(Q:VK)(E:XK):Prop
 |mk (a:Addr) (xs:List V) (zs:List bP):vs= [.ref a] ->H a=some (.lst xs)->cT H xs zs->(∀z∈zs,N2 z)->zs.length<=100->(∀H' l ys,aF H H'->H l=none->H' l=some (.lst ys)->cT H' ys (fA zs)->Q (.ref l) H')->a0A vs H Q E
theorem b0o(T:bA K mg):bD P w K mg af aD 2 "each_once" ["spots"] a0A:=by
 refine T.d_each_once.known a0m (fun _ _ _ _ _ _ us hl=>eU (fun _=>rfl) us hl) (fun vs H Q E h=> ?_) (fun f ah A ag s H vs Q E hr h=> ?_)
 ·obtain⟨a,xs,ps,rfl,_⟩:=h
  rfl
 ·obtain⟨a,xs,ps,rfl,ha,hsp,hN,h100,q⟩:=h
  refine⟨_,(aJ (cA (i:=1) a0m.nd rfl (Or.inl rfl) (fC aG))
   (aJ (nM PassesOwn.never rfl (mJ (pv 0)) (iG (i:=2) a0m.nd rfl (Or.inl rfl)) (aK (bI (cR (a6E hr.units) (pv 2) (pv 1) (by with_unfolding_all rfl)) (aK (bW (lZ F.plainAttrs_list F.slot_list_append F.type_list_append lO (pv 1) (aA (pv 2) aG)))) bL)))
   (aK (bH (pv 1))))),?_⟩
  have hq:aM K H a xs:=aM.of ha;have hlx:xs.length=ps.length:=hsp.length;refine⟨sl,fun l hl=> ?_⟩;refine⟨_,rfl,a,rfl,⟨_,(aF.new hl).seq hq⟩,?_⟩;refine pF (K:=K) (a:=a) (xs:=xs) (fun i σ H2=>∃o ys,σ= [some (.ref a),some (.ref l),o] /\aF H H2/\H2 l=some (.lst ys)/\cT H ys (fA (ps.take i))) ⟨_,[],rfl,aF.new hl,aI,.nil⟩ (fun i σ H2 _ ⟨_,_,_,s2,_⟩=>s2.seq hq) ?_ ?_
  ·rintro i x σ H2 hx ⟨o,ys,rfl,s2,h2,hd⟩
   obtain⟨p,e,hp2⟩:=hsp.at hx;have hp:=List.mem_of_getElem? e;have hle:=hd.length
   have hyl:ys.length<=100:=by
    have h3:=a1a (ps.take i);rw[List.length_take]at h3;omega
   have lay2:(PyData.list ((fA (ps.take i)).map iO)).canLay0=true:=a3k fun p' hp'=>hN p' (List.mem_of_mem_take (xC hp'))
   have et:fA (ps.take (i+ 1))=if p∈fA (ps.take i) then fA (ps.take i) else fA (ps.take i)++ [p]:=by
    rw[List.take_add_one,e];exact b0h _ _
   refine⟨_,rfl,_,rfl,iO p,_,(iU.dt hp2).same s2,Dt.lst (aM.of h2) (dI.same s2 (cT.dt hd)),a0N (hN p hp).1 (hN p hp).2,lay2,(show max 0 (max 0 0)+ 1<=62 by decide),_,rfl,?_⟩;rw[a3P];by_cases hm:p∈fA (ps.take i)
   ·rw[decide_eq_true hm]
    rw[if_pos hm]at et;exact bG ⟨_,ys,rfl,s2,h2,by rw[et];exact hd⟩
   ·rw[decide_eq_false hm]
    rw[if_neg hm]at et;refine cI ?_;refine⟨_,rfl,.inl ⟨rfl,_,aM.of h2⟩,_,rfl,l,_,_,rfl,rfl,h2,eD (by omega),?_⟩;have s3:aF H (upd H2 l (.lst (ys++ [x]))):=s2.on hl;refine⟨_,ys++ [x],rfl,s3,aI,?_⟩;rw[et];exact hd.snoc hp2
  ·rintro σ H2 ⟨o,ys,rfl,s2,h2,hd⟩
   refine⟨_,rfl,q H2 l ys s2 hl h2 ?_⟩;rw[hlx,List.take_length]at hd;exact hd.same s2
inductive wL(C:Addr)(vs:List V)(H:Hp)(Q:VK)(E:XK):Prop
 |mk (p dx nl fa:Addr) (t:Str) (zs:List Str):vs= [.ref p,.str t] ->H p=some (.ins C dx (jB nl fa))->H nl=some (.lst (zs.map V.str))->zs.length<=6->(∀z∈zs,Nl z)->Nl t->(∀H' l ys,aF H H'->H l=none->H' l=some (.lst ys)->cT H' ys (fA (zs.map fun z=>(t,z)))->Q (.ref l) H')->wL C vs H Q E
theorem a5p:aY ["self","table"] ["self","table"] (aL rW):={}
theorem a7J(T:bA K mg)(Y:kN K mg C):aS P w K mg af aD 3 C "leans" ["self","table"] (wL C):=by
 have G_each_once:bD P w K mg af aD 2 "each_once" ["spots"] a0A:=b0o T;refine Y.m_leans.known a5p (fun _ _ _ _ _ _ us hl=>eG (fun _ _=>rfl) us hl) (fun vs H Q E h=> ?_) (fun f ah A ag s H vs Q E hr h=> ?_)
 ·obtain⟨p,dx,nl,fa,t,zs,rfl,_⟩:=h
  rfl
 ·obtain⟨p,dx,nl,fa,t,zs,rfl,h1,h4,h6,h5,ht,q⟩:=h
  have hcl:∀x,(dF aD P w K mg af ["self","table"] "Cells.leans" (aL rW) f ah A ag s H E).nox.env.scope.names.lookup x=some .cell->∃c,(dF aD P w K mg af ["self","table"] "Cells.leans" (aL rW) f ah A ag s H E).nox.env.cells.lookup x=some c:=fun x hx=>Option.isSome_iff_exists.mp (W.cellsFrom_some _ _ _ (.inl hx))
  refine⟨_,(aK (bH (bK G_each_once hr.mn aO (aA (vV (mD (sc:=aL rW) (N:=["self","table"]) (cp:=[(1,"table")]) hcl) rfl rfl (by decide) (mJ (aV (pv 0) rfl)) (fun _ _ _ _ _=>rZ) (fun _ _ _ _ _=>(fF (aA (pv 1) (aA (pv 0) aG))))) aG)))),?_⟩;refine⟨_,rfl,p,C,dx,_,_,rfl,h1,Y.cl,Y.n_names,(rN nl fa).2.1,nl,rfl,⟨_,aM.of h4⟩,fun D hD=> ?_⟩;refine yQ (K:=K) (a:=nl) (xs:=zs.map V.str) (fun i ys H2=>aF H H2/\cT H2 ys ((zs.take i).map fun z=>(t,z))) ⟨aF.new hD,.nil⟩ (by rintro i ys H2 _ ⟨s2,_⟩;exact aM.of (s2 _ _ h4)) ?_ ?_
  ·rintro i x ys H2 hx h2D ⟨s2,hd⟩
   rw[List.getElem?_map]at hx
   cases e:zs[i]? with
   |none=>rw[e]at hx;cases hx
   |some z=>
    rw[e]at hx;cases hx;have hi:i<zs.length:=(List.getElem?_eq_some_iff.mp e).1
    have hyl:ys.length<=6:=by
     have:=hd.length;rw[List.length_map,List.length_take]at this;omega
    refine⟨_,rfl,_,rfl,sl,fun tp htp=> ?_⟩;have s3:aF H2 (upd H2 tp (.tup [.str t,.str z])):=aF.new htp;have t3:upd H2 tp (.tup [.str t,.str z]) tp=some (.tup [.str t,.str z]):=aI
    generalize upd H2 tp (.tup [.str t,.str z])=H3 at s3 t3|-
    have h3D:=s3 _ _ h2D;refine⟨h3D,eD (by omega),(s2.trans s3).on hD,?_⟩;have kt:∀a xs,H3 a=some (.tup xs)->upd H3 D (.lst (ys++ [.ref tp])) a=some (.tup xs):=fun a xs e=>by
     rw[aH (fun y=>by rw[y,h3D]at e;cases e)];exact e
    have et:((zs.take (i+ 1)).map fun z=>(t,z))=((zs.take i).map fun z=>(t,z))++ [(t,z)]:=by
     rw[List.take_add_one,e,List.map_append];rfl
    rw[et];exact((hd.same s3).mapT kt).snoc ⟨tp,rfl,kt _ _ t3⟩
  ·rintro ys H2 h2D ⟨s2,hd⟩
   rw[List.length_map,List.take_length]at hd;refine⟨D,ys,_,rfl,h2D,hd,fun z hz=> ?_,by rw[List.length_map];omega,fun H4 l' ys' s4 hl' h4' hs=> ?_⟩
   ·obtain⟨y,hy,rfl⟩:=List.mem_map.mp hz
    exact⟨ht,h5 y hy⟩
   ·exact q H4 l' ys' (s2.trans s4) (gU s2 hl') h4' hs
inductive yW(CS CB CT:Addr)(vs:List V)(H:Hp)(Q:VK)(E:XK):Prop
 |mk (s bd ch fi dx l:Addr) (sv:V) (kb:List (aB×V)) (ys:List V) (zs:List bP):vs= [.ref s,sv,.ref l] ->H s=some (.ins CS dx (dZ bd ch fi))->H bd=some (.dK kb)->H l=some (.lst ys)->cT H ys zs->(∀z∈zs,N2 z/\∃B:BM,aE kb (.inr z.1:aB)=some (.ref B.b)/\cO CB CT H B/\z.2∈B.ord)->(∀H',aF H H'->Q .non H')->yW CS CB CT vs H Q E
theorem vO:aY ["self","spot","leans","table","column","there"] ["self","spot","leans"] (aL a2E):={}
theorem a7N(T:bA K mg)(Y:gR K mg CS)(W:cY K mg CB):aS P w K mg af aD 3 CS "check_leans" ["self","spot","leans"] (yW CS CB CT):=by
 have G_has:aS P w K mg af aD 2 CB "has_column" ["self","column"] (xH CB CT):=a37 T W;refine Y.m_check_leans.known vO (fun _ _ _ _ _ _ us hl=>jN (fun _ _ _=>rfl) us hl) (fun vs H Q E h=> ?_) (fun f ah A ag s H vs Q E hr h=> ?_)
 ·obtain⟨s',bd,ch,fi,dx,l,sv,kb,ys,zs,rfl,_⟩:=h
  rfl
 ·obtain⟨s',bd,ch,fi,dx,l,sv,kb,ys,zs,rfl,h1,h2,h3,hz,hb,q⟩:=h
  have hu:=dY hr
  refine⟨_,(aK (nM PassesOwn.never rfl (mJ (pv 2)) (yG rfl (nV (iG (i:=3) vO.nd rfl (Or.inl rfl)) (nV (iG (i:=4) vO.nd rfl (Or.inl rfl)) zQ)))
   (aJ (cA (i:=5) vO.nd rfl (Or.inl rfl) (qC (yI (oC hu (pv 3) (aV (pv 0) rfl))) (qL (cF (gE hu (aV (pv 0) rfl) (pv 3) (fun _ _=>rfl)) W.cl G_has hr aO (aA (pv 4) aG)))))
   (aK (bI (PW.pt (oP (fS (dH (pv 5) (fun _=>rfl))) (oH (cR (rL hr.units) (fF (aA (pv 3) (aA (pv 4) aG))) (pv 1) (dA _))))) (aK cJ) bL))))),?_⟩
  refine⟨_,rfl,l,rfl,⟨_,aM.of h3⟩,?_⟩;refine pF (K:=K) (a:=l) (xs:=ys) (fun i σ H2=>∃o3 o4 o5,σ= [some (.ref s'),some sv,some (.ref l),o3,o4,o5] /\aF H H2) ⟨_,_,_,rfl,aF.refl _⟩ (by rintro i σ H2 _ ⟨_,_,_,_,s2⟩;exact aM.of (s2 _ _ h3)) ?_ ?_
  ·rintro i x σ H2 hx ⟨o3,o4,o5,rfl,s2⟩
   obtain⟨z,e,hz2⟩:=hz.at hx;obtain⟨a,rfl,ha⟩:=hz2.same s2;obtain⟨nz,B,b1,b2,b3⟩:=hb z (List.mem_of_getElem? e);have hB2:=b2.same s2;obtain⟨dB,hB⟩:=hB2.at_;refine⟨a,_,rfl,bR.of ha,rfl,_,_,rfl,_,_,rfl,rfl,?_⟩;refine⟨_,rfl,_,rfl,s',CS,dx,_,_,rfl,s2 _ _ h1,Y.cl,Y.n_boards,(lY _ _ _).1,bd,_,rfl,bU.k (k:=Sum.inr z.1) (s2 _ _ h2),?_⟩;rw[b1];refine⟨_,rfl,cI ?_⟩;refine⟨_,rfl,s',CS,dx,_,_,rfl,s2 _ _ h1,Y.cl,Y.n_boards,(lY _ _ _).1,_,rfl,bd,_,rfl,b1▸bU.k (k:=Sum.inr z.1) (s2 _ _ h2),B.b,dB,_,rfl,hB,oI,_,rfl,B,z.2,rfl,hB2,nz.2,fun H3 s3=> ?_⟩;rw[decide_eq_true b3];exact⟨_,rfl,_,rfl,bG ⟨_,_,_,rfl,s2.trans s3⟩⟩
  ·rintro σ H2 ⟨o3,o4,o5,rfl,s2⟩
   exact q H2 s2
theorem wI{κ:Type} [DecidableEq κ]:∀{kvs:List (κ×V)} {kv:κ×V},(kvs.map (·.1)).Nodup->kv∈kvs->aE kvs kv.1=some kv.2
 | [],_,_,h=>by cases h
 |x::xs,kv,nd,h=>by
  rw[List.map_cons,List.nodup_cons]at nd;unfold aE
  rcases List.mem_cons.mp h with rfl|h
  ·simp[List.find?]
  ·have ne:¬x.1=kv.1:=fun y=>nd.1 (y▸List.mem_map.mpr ⟨kv,h,rfl⟩)
   have ih:=wI nd.2 h;unfold aE at ih;rw[List.find?_cons_of_neg (by simpa using ne)];exact ih
def jL(H H':Hp):Prop:=∀b o,((∃C dx fs,o= .ins C dx fs)\/ ∃xs,o= .lst xs)->H b=some o->H' b=some o
theorem jL.of(s:aF H H'):jL H H':=fun b o _ e=>s _ _ e
theorem jL.trans(a:jL H H1)(b:jL H1 H2):jL H H2:=fun x o h e=>b _ _ h (a _ _ h e)
def mO(spl:Sp)(gr:Addr)(nm:Str)(ys:List bP)(H:Hp):Prop:=∀(Hb:Hp) (Q':VK),jL H Hb->(∀H' l vs,aF Hb H'->Hb l=none->H' l=some (.lst vs)->cT H' vs ys->Q' (.ref l) H')->spl [.ref gr,.str nm] Hb Q' E0
theorem a3C{gr nl:Addr}{nm:Str}{zs:List Str}(h1:H gr=some (.ins C dx (jB nl fa)))(h2:H nl=some (.lst (zs.map V.str)))(z6:zs.length<=6)(hz:∀z∈zs,Nl z)(ht:Nl nm):mO (wL C) gr nm (fA (zs.map fun z=>(nm,z))) H:=
 fun Hb Q' k q=>⟨gr,dx,nl,fa,nm,zs,rfl,k _ _ (.inl ⟨_,_,_,rfl⟩) h1,k _ _ (.inr ⟨_,rfl⟩) h2,z6,hz,ht,q⟩
inductive pM(CB CT bd:Addr)(RL:Addr->Sp->Prop)(gl:List bP)(H:Hp)(kv:aB×V):Prop
 |mk (nm:Str) (B:BM):kv=((.inr nm:aB),V.ref B.b)->Nl nm->cO CB CT H B->bd≠B.ru->(B.rus.map (·.1)).Nodup->B.rus.length<=8->(∀rv∈B.rus,∃(c:Str) (gr dx CG:Addr) (spl:Sp) (fs:List (Str×V)) (ys:List bP),RL CG spl/\rv=((.inr c:aB),V.ref gr)/\Nl c/\H gr=some (.ins CG dx fs)/\fs.lookup ("leans":Str)=none/\mO spl gr nm ys H/\(∀y∈ys,N2 y/\y∈gl)/\ys.length<=100)->pM CB CT bd RL gl H kv
inductive zT(CS CB CT:Addr)(RL:Addr->Sp->Prop)(vs:List V)(H:Hp)(Q:VK)(E:XK):Prop
 |mk (s bd ch fi dx l:Addr) (sv:V) (kb:List (aB×V)) (ys:List V) (sp:bP) (zs gl:List bP):vs= [.ref s,sv,.ref l] ->H s=some (.ins CS dx (dZ bd ch fi))->H bd=some (.dK kb)->(kb.map (·.1)).Nodup->kb.length<=4->H l=some (.lst ys)->cT H ys zs->(∀z∈zs,N2 z/\z∈gl)->zs.length<=100->iU H sv sp->N2 sp->sp∉gl->gl.length<=100->(∀kv∈kb,pM CB CT bd RL gl H kv)->(∀H',aF H H'->Q .non H')->zT CS CB CT RL vs H Q E
abbrev Ncr:List Str:=["self","spot","leans","leanings","table","rules","column","found"]
theorem qQ:aY Ncr ["self","spot","leans"] (aL a3c):={}
def iZ(gl:List bP)(n:Nat)(gd:Addr)(H:Hp):Prop:=∃kvs adj,rE H gd kvs adj/\(∀z,∀y∈adj z,y∈gl)/\kvs.length<=n
theorem iZ.put{gl:List bP}{gd:Addr}{z:bP}{ys:List bP}{adj:bP->List bP}(g:rE H gd kvs adj)(ha:∀z,∀y∈adj z,y∈gl)(hn:kvs.length<=n)(u:bC gd H H')(e:H' gd=some (.dT (aR kvs (kS z) (.ref l))))(hl:H l=some (.lst vs))(hs:cT H vs ys)(hy:∀y∈ys,N2 y/\y∈gl)(h100:ys.length<=100):iZ gl (n+ 1) gd H':=by
 have k:∀{x:Addr} {o:HO},H x=some o->(∀y,o≠ .dT y)->H' x=some o:=fun e2 n=>u _ _ (fun y=>by rw[y,g.d]at e2;exact n _ (Option.some.inj e2).symm) e2
 have kt:∀a xs,H a=some (.tup xs)->H' a=some (.tup xs):=fun a xs e2=>k e2 nk
 refine⟨aR kvs (kS z) (.ref l),fun x=>if x=z then ys else adj x,⟨e,fun x=> ?_,fun x y hm=> ?_,fun x=> ?_⟩,fun x y hm=> ?_,Nat.le_trans (a4d _ _ _) (by omega)⟩
 ·rw[gA]
  by_cases h:x=z
  ·rw[if_pos (by rw[h])]
   exact .inr ⟨l,vs,rfl,k hl nk,by show cT H' vs (if x=z then ys else adj x);rw[if_pos h];exact hs.mapT kt⟩
  ·rw[if_neg (fun y=>h (a6z y))]
   rcases g.a x with⟨a1,a2⟩|⟨l',vs',a1,a2,a3⟩
   ·exact .inl ⟨a1,by show(if x=z then ys else adj x)= [];rw[if_neg h];exact a2⟩
   ·exact .inr ⟨l',vs',a1,k a2 nk,by show cT H' vs' (if x=z then ys else adj x);rw[if_neg h];exact a3.mapT kt⟩
 ·have hm:y∈(if x=z then ys else adj x):=hm
  split at hm
  ·exact(hy y hm).1
  ·exact g.n x y hm
 ·show(if x=z then ys else adj x).length<=100
  split
  ·exact h100
  ·exact g.l x
 ·have hm:y∈(if x=z then ys else adj x):=hm
  split at hm
  ·exact(hy y hm).2
  ·exact ha x y hm
theorem iZ.mv{gl:List bP}{gd:Addr}(u:∀b o,(∀y,o≠ .dK y)->(∀q y,o≠ .frz q y)->H b=some o->H' b=some o)(h:iZ gl n gd H):iZ gl n gd H':=by
 obtain⟨kvs,adj,g,h1,h2⟩:=h;exact⟨kvs,adj,⟨u _ _ nk (fun _ _ y=>by cases y) g.d,fun z=>(g.a z).imp id fun⟨l,vs,e1,e2,e3⟩=>⟨l,vs,e1,u _ _ nk (fun _ _ y=>by cases y) e2,e3.mapT fun a xs e=>u _ _ nk (fun _ _ y=>by cases y) e⟩,g.n,g.l⟩,h1,h2⟩
theorem a7l(T:bA K mg)(Y:gR K mg CS)(W:cY K mg CB){RL:Addr->Sp->Prop}(hRL:∀C sp,RL C sp->cG K C/\aS P w K mg af aD 3 C "leans" ["self","table"] sp):aS P w K mg af aD 4 CS "check_ring" ["self","spot","leans"] (zT CS CB CT RL):=by
 have G_ring:bD P w K mg af aD 2 "ring_from" ["leanings","spot"] (zD K):=a7c T;refine Y.m_check_ring.known qQ (fun _ _ _ _ _ _ us hl=>jN (fun _ _ _=>rfl) us hl) (fun vs H Q E h=> ?_) (fun f ah A ag s H vs Q E hr h=> ?_)
 ·obtain⟨s',bd,ch,fi,dx,l,sv,kb,ys,sp,zs,gl,rfl,_⟩:=h
  rfl
 ·obtain⟨s',bd,ch,fi,dx,l,sv,kb,ys,sp,zs,gl,rfl,h1,h2,nd,k4,h3,hz,hN,z100,hsv,nsp,hns,g100,hb,q⟩:=h
  have hu:=dY hr
  refine⟨_,(aJ (cA (i:=3) qQ.nd rfl (Or.inl rfl) pJ)
   (aJ (a4c PassesOwn.never rfl (aV (pv 0) rfl) (iG (i:=4) qQ.nd rfl (Or.inl rfl)) (aJ (cA (i:=5) qQ.nd rfl (Or.inl rfl) (aV (gE hu (aV (pv 0) rfl) (pv 4) (fun _ _=>rfl)) rfl))
   (aK (a4c PassesOwn.never rfl (pv 5) (iG (i:=6) qQ.nd rfl (Or.inl rfl)) (aK (iX hu (pv 3) (fF (aA (pv 4) (aA (pv 6) aG))) (tJ (R:=RL) (gE hu (pv 5) (pv 6) (fun _ _=>rfl)) hRL hr aO (aA (pv 4) aG)) rfl))))))
   (aJ (iX hu (pv 3) (pv 1) (pv 2) rfl)
   (aJ (cA (i:=7) qQ.nd rfl (Or.inl rfl) (bK G_ring hr.mn aO (aA (pv 3) (aA (pv 1) aG))))
   (aK (bI (cR a8K (pv 7) gT (dA _)) (aK cJ) bL)))))),?_⟩
  intro gd hgd;have s1:=aF.new (o:=.dT []) hgd;have g1:upd H gd (.dT []) gd=some (.dT []):=aI
  generalize upd H gd (.dT [])=H1 at s1 g1|-
  have h2':=s1 _ _ h2;refine⟨_,rfl,s',CS,dx,_,_,rfl,s1 _ _ h1,Y.cl,Y.n_boards,(lY _ _ _).1,bd,_,rfl,h2',fun nf ob=> ?_⟩;obtain⟨Hf,eHf⟩:∃Hf,Hf=upd H1 bd (.frz ob (.dK kb)):=⟨_,rfl⟩;rw[<- eHf]
  have hf:Hf bd=some (.frz ob (.dK kb)):=by rw[eHf,aI]
  have ngb:gd≠bd:=fun y=>by rw[y,h2]at hgd;cases hgd
  have kf:∀{x:Addr} {o:HO},x≠bd->H1 x=some o->Hf x=some o:=fun n e=>by rw[eHf,aH n];exact e
  have gf:Hf gd=some (.dT []):=kf ngb g1;have ins_f:jL H Hf:=fun b o h e=>kf (fun y=>by rw[y,h2]at e;rcases h with⟨_,_,_,rfl⟩|⟨_,rfl⟩<;>cases e) (s1 _ _ e)
  have gr0:iZ gl 0 gd Hf:=⟨[],fun _=> [],⟨gf,fun z=> .inl ⟨rfl,rfl⟩,fun z y hy=>by{cases hy},fun z=>Nat.zero_le _⟩,fun z y hy=>by{cases hy},Nat.le_refl _⟩;refine a4g (a:=bd) (ob:=ob) (kvs:=kb) (fun i σ H2=>(∃o4 o5 o6,σ= [some (.ref s'),some sv,some (.ref l),some (.ref gd),o4,o5,o6,none])/\bC gd Hf H2/\iZ gl (8* i) gd H2) ⟨⟨_,_,_,rfl⟩,bC.of (aF.refl _),gr0⟩ (fun i σ H2 _ ⟨_,b2,_⟩=>b2 _ _ ngb.symm hf) ?_ ?_
  ·rintro j pv' σ H2 hp ⟨⟨o4,o5,o6,rfl⟩,b2,gS⟩
   have hpm:=List.mem_of_getElem? hp;have hj:j<kb.length:=(List.getElem?_eq_some_iff.mp hp).1;obtain⟨nm,B,rfl,nnm,b1,nbr,ndr,r8,hrv⟩:=hb pv' hpm;have hv:aE kb (.inr nm:aB)=some (.ref B.b):=wI nd hpm;obtain⟨dB,e1⟩:=(b1.same s1).at_;have nb:B.b≠bd:=fun y=>by rw[y,h2']at e1;cases e1
   have ns:s'≠bd:=fun y=>by rw[y,h2]at h1;cases h1
   have ng:∀{x:Addr} {o:HO},Hf x=some o->(∀y,o≠ .dT y)->x≠gd:=fun e n y=>by rw[y,gf]at e;exact n _ (Option.some.inj e).symm
   have up2:∀{x:Addr} {o:HO},Hf x=some o->(∀y,o≠ .dT y)->H2 x=some o:=fun e n=>b2 _ _ (ng e n) e
   have eb:=up2 (kf nb e1) nk;have es:=up2 (kf ns (s1 _ _ h1)) nk;have er:=up2 (kf nbr.symm (b1.same s1).rul) nk;have bd2:=up2 hf nk;refine⟨_,rfl,s',CS,dx,_,_,rfl,es,Y.cl,Y.n_boards,(lY _ _ _).1,_,rfl,bd,_,rfl,.inl ⟨kb,.inr nm,.inr ⟨ob,bd2⟩,rfl,hv.symm⟩,B.b,CB,dB,_,_,rfl,eb,W.cl,W.n_rules,(dN _ _ _ _).2.1,?_⟩;refine⟨_,rfl,B.ru,_,rfl,er,fun nf2 ob2=> ?_⟩;obtain⟨Hg,eHg⟩:∃Hg,Hg=upd H2 B.ru (.frz ob2 (.dK B.rus)):=⟨_,rfl⟩;rw[<- eHg]
   have hg:Hg B.ru=some (.frz ob2 (.dK B.rus)):=by rw[eHg,aI]
   have kg:∀{x:Addr} {o:HO},x≠B.ru->H2 x=some o->Hg x=some o:=fun n e=>by rw[eHg,aH n];exact e
   have gSg:iZ gl (8* j) gd Hg:=gS.mv fun b o n1 n2 e=>kg (fun y=>by rw[y,er]at e;exact n1 _ (Option.some.inj e).symm) e
   have gg:∃kvs,Hg gd=some (.dT kvs):=let ⟨kvs,_,g,_⟩:=gSg;⟨kvs,g.d⟩;obtain⟨kv0,gg0⟩:=gg;have ngr:B.ru≠gd:=fun y=>by rw[y,gg0]at hg;cases hg
   have ins_g:jL H Hg:=fun b o h e=>kg (fun y=>by rw[y,b1.rul]at e;rcases h with⟨_,_,_,rfl⟩|⟨_,rfl⟩<;>cases e) (up2 (ins_f b o h e) (fun y ey=>by rcases h with⟨_,_,_,rfl⟩|⟨_,rfl⟩<;>cases ey))
   refine a4g (a:=B.ru) (ob:=ob2) (kvs:=B.rus) (fun i σ H3=>(∃o6,σ= [some (.ref s'),some sv,some (.ref l),some (.ref gd),some (.str nm),some (.ref B.ru),o6,none])/\bC gd Hg H3/\iZ gl (8* j+ i) gd H3) ⟨⟨_,rfl⟩,bC.of (aF.refl _),gSg⟩ (fun i σ H3 _ ⟨_,b3,_⟩=>b3 _ _ ngr hg) ?_ ?_
   ·rintro i rv σ H3 hr3 ⟨⟨o6,rfl⟩,b3,gS3⟩
    have hi:i<B.rus.length:=(List.getElem?_eq_some_iff.mp hr3).1;have hrm:=List.mem_of_getElem? hr3;obtain⟨c,gr,dg,CG,spl,fs,ys2,hRc,rfl,nc,hgr,hnl,le,hy2,y100⟩:=hrv rv hrm;have hvr:aE B.rus (.inr c:aB)=some (.ref gr):=wI ndr hrm;have ng3:∀{x:Addr} {o:HO},Hg x=some o->(∀y,o≠ .dT y)->H3 x=some o:=fun e n=>b3 _ _ (fun y=>by rw[y,gg0]at e;exact n _ (Option.some.inj e).symm) e
    have ins_3:jL H H3:=fun b o h e=>ng3 (ins_g b o h e) (fun y ey=>by rcases h with⟨_,_,_,rfl⟩|⟨_,rfl⟩<;>cases ey)
    refine⟨_,rfl,_,rfl,B.ru,_,rfl,.inl ⟨B.rus,.inr c,.inr ⟨ob2,ng3 hg nk⟩,rfl,hvr.symm⟩,CG,spl,gr,dg,fs,hRc,rfl,ins_3 _ _ (.inl ⟨_,_,_,rfl⟩) hgr,hnl,_,rfl,le H3 _ ins_3 fun H4 l4 vs4 s4 hl4 h4 hs4=> ?_⟩;obtain⟨kvs,adj,G3,ha3,hn3⟩:=gS3;refine⟨_,rfl,_,rfl,_,rfl,sl,fun tp htp=> ?_⟩;have s5:=aF.new (o:=.tup [V.str nm,kV ((Sum.inr c:aB),V.ref gr).fst]) htp;have t5:upd H4 tp (.tup [V.str nm,kV ((Sum.inr c:aB),V.ref gr).fst]) tp=some (.tup [.str nm,.str c]):=aI
    generalize upd H4 tp (.tup [V.str nm,kV ((Sum.inr c:aB),V.ref gr).fst])=H5 at s5 t5|-
    have s35:=s4.trans s5;have G5:=G3.same s35;refine⟨gd,_,rfl,.inr ⟨kvs,kS (nm,c),tp,G5.d,rfl,t5,eD (by omega),rfl⟩,?_⟩;have u6:bC gd H5 (upd H5 gd (.dT (aR kvs (kS (nm,c)) (.ref l4)))):=bC.upd;have e6:upd H5 gd (.dT (aR kvs (kS (nm,c)) (.ref l4))) gd=some (.dT (aR kvs (kS (nm,c)) (.ref l4))):=aI
    generalize upd H5 gd (.dT (aR kvs (kS (nm,c)) (.ref l4)))=H6 at u6 e6|-
    exact⟨⟨_,rfl⟩,fun b o n e=>u6 _ _ n (s35 _ _ (b3 _ _ n e)),iZ.put G5 ha3 hn3 u6 e6 (s5 _ _ h4) (hs4.same s5) hy2 y100⟩
   ·rintro σ H3 ⟨⟨o6,rfl⟩,b3,gS3⟩
    refine⟨B.ru,ob2,B.rus,nf2,b3 _ _ ngr hg,⟨_,_,_,rfl⟩,fun b o n e=> ?_,?_⟩
    ·by_cases y:b=B.ru
     ·rw[y,aI]
      rw[y]at e;rw[b2 _ _ ngr e]at er;exact er.symm
     ·rw[aH y]
      exact b3 _ _ n (kg y (b2 _ _ n e))
    ·have m:iZ gl (8* j+ B.rus.length) gd (upd H3 B.ru (.dK B.rus)):=gS3.mv fun b o n1 n2 e=>by
      rw[aH (fun y=>by rw[y,b3 _ _ ngr hg]at e;exact n2 _ _ (Option.some.inj e).symm)];exact e
     obtain⟨kvs,adj,x1,x2,x3⟩:=m;exact⟨kvs,adj,x1,x2,by omega⟩
  ·rintro σ H2 ⟨⟨o4,o5,o6,rfl⟩,b2,gS⟩
   have bd2:=b2 _ _ ngb.symm hf;refine⟨bd,ob,kb,nf,bd2,?_⟩;have b3:bC gd H1 (upd H2 bd (.dK kb)):=fun b o n e=>by
    by_cases y:b=bd
    ·rw[y,aI]
     rw[y,h2']at e;exact e
    ·rw[aH y]
     exact b2 _ _ n (kf y e)
   have gS3:iZ gl (8* kb.length) gd (upd H2 bd (.dK kb)):=gS.mv fun b o n1 n2 e=>by
    rw[aH (fun y=>by rw[y,bd2]at e;exact n2 _ _ (Option.some.inj e).symm)];exact e
   generalize upd H2 bd (.dK kb)=H3 at b3 gS3|-
   have s13:aF H H3:=fun b o e=>b3 _ _ (aX e hgd) (s1 _ _ e)
   obtain⟨sa,rfl,hsa⟩:=hsv.same s13;obtain⟨kvs,adj,G3,ha3,hn3⟩:=gS3;refine⟨_,rfl,_,rfl,_,rfl,gd,_,rfl,.inr ⟨kvs,kS sp,sa,G3.d,rfl,hsa,eD (by omega),rfl⟩,?_⟩;have s4:aF H (upd H3 gd (.dT (aR kvs (kS sp) (.ref l)))):=s13.on hgd;have u4:bC gd H3 (upd H3 gd (.dT (aR kvs (kS sp) (.ref l)))):=bC.upd;have g4:upd H3 gd (.dT (aR kvs (kS sp) (.ref l))) gd=some (.dT (aR kvs (kS sp) (.ref l))):=aI
   generalize upd H3 gd (.dT (aR kvs (kS sp) (.ref l)))=H4 at s4 u4 g4|-
   obtain⟨kvs',adj',G4,ha4,_⟩:=iZ.put G3 ha3 hn3 u4 g4 (s13 _ _ h3) (hz.same s13) hN z100;refine⟨_,rfl,_,rfl,gd,_,kvs',adj',sp,gl,rfl,G4,hsv.same s4,nsp,ha4,g100,hns,fun H5 s5=> ?_⟩;exact⟨_,rfl,rfl,_,rfl,bG (q H5 (s4.trans s5))⟩
theorem mO.mv{spl:Sp}{gr:Addr}{nm:Str}{ys:List bP}(k:jL H H')(h:mO spl gr nm ys H):mO spl gr nm ys H':=fun Hb Q' kb q=>h Hb Q' (k.trans kb) q
theorem pM.same{RL:Addr->Sp->Prop}{gl:List bP}{kv:aB×V}(s:aF H H')(h:pM CB CT bd RL gl H kv):pM CB CT bd RL gl H' kv:=by
 obtain⟨nm,B,h1,h2,h3,h4,h5,h6,h7⟩:=h;refine⟨nm,B,h1,h2,h3.same s,h4,h5,h6,fun rv hrv=> ?_⟩;obtain⟨c,gr,dx,CG,spl,fs,ys,e0,e1,e2,e3,e4,e5,e6,e7⟩:=h7 rv hrv;exact⟨c,gr,dx,CG,spl,fs,ys,e0,e1,e2,s _ _ e3,e4,e5.mv (jL.of s),e6,e7⟩
inductive nE(K:Fg)(CS CF CB CT:Addr)(RL:Addr->Sp->Prop)(vs:List V)(H:Hp)(Q:VK)(E:XK):Prop
 |mk (CG:Addr) (spl:Sp) (s bd ch gr dg:Addr) (cs:List V) (kb:List (aB×V)) (nm t:Str) (fs:List (Str×V)) (B:BM) (zs gl:List bP):vs= [.ref s,.str nm,.str t,.ref gr] ->RL CG spl->tF CS s bd ch cs kb H->cs.length<900->Nl nm->aE kb (.inr nm:aB)=some (.ref B.b)->cO CB CT H B->B.sep->nG bd ch B->qS B t->Nl t->H gr=some (.ins CG dg fs)->fs.lookup ("leans":Str)=none->mO spl gr nm zs H->(∀z∈zs,N2 z/\z∈gl/\∃B':BM,aE kb (.inr z.1:aB)=some (.ref B'.b)/\cO CB CT H B'/\z.2∈B'.ord)->zs.length<=100->(nm,t)∉gl->gl.length<=100->(kb.map (·.1)).Nodup->kb.length<=4->(∀kv∈kb,pM CB CT bd RL gl H kv)->B.rus.length<100->B.mes.length<100->B.ord.length<8->(∀H' fi fd lk c m,oR CS CF s bd ch fi fd lk (cs++ [.ref c]) kb H H'->H m=none->cO CB CT H' {B with rus:=aR B.rus (.inr t:aB) (.ref gr),mes:=aR B.mes (.inr t:aB) (.ref m),ord:=B.ord++ [t]} ->H' m=some (.dK [])->(∀x o,x≠s->x≠ch->x≠B.od->x≠B.ru->x≠B.me->H x=some o->H' x=some o)->Q .non H')->nE K CS CF CB CT RL vs H Q E
theorem zW:aY ["self","table","column","rule","board","leans"] ["self","table","column","rule"] (aL a1F):={}
structure wO(K:Fg)(C:Addr):Prop where
 cl:cG K C
 ty:∀{H:Hp} {a dx:Addr} {fs:List (Str×V)},H a=some (.ins C dx fs)->gZ K H (.ref a) (.ref C)
 isl:W.kitOne K (.ref C) (.type "list")=some false
theorem a9U(T:bA K mg)(Y:gR K mg CS)(Z:fO K mg CF)(W:cY K mg CB)(U:dQ K mg CT)(C:qZ K mg CC){RL:Addr->Sp->Prop}(hRI:∀C sp,RL C sp->wO K C)(hRL:∀C sp,RL C sp->cG K C/\aS P w K mg af aD 3 C "leans" ["self","table"] sp):aS P w K mg af aD 9 CS "rule" ["self","table","column","rule"] (nE K CS CF CB CT RL):=by
 have G_for:aS P w K mg af aD 3 CS "board_for" ["self","table","column"] (xP CS CB CT):=a4R T Y W;have G_cl:aS P w K mg af aD 3 CS "check_leans" ["self","spot","leans"] (yW CS CB CT):=a7N T Y W;have G_cr:aS P w K mg af aD 4 CS "check_ring" ["self","spot","leans"] (zT CS CB CT RL):=a7l T Y W hRL;have GI:eO P w K mg af aD 1 CC ["self","board","column","content"] (wX CC):=a4n T C;have G_make:aS P w K mg af aD 8 CS "make" ["self","change"] (rB CS CF CC (sJ CC CB CT (vI K CB CT))):=vE T Y Z C.cl (a1u a40) (a1q T C W (a4Y T W));refine Y.m_rule.known zW (fun _ _ _ _ _ _ us hl=>kP (fun _ _ _ _=>rfl) us hl) (fun vs H Q E h=> ?_) (fun f ah A ag s H vs Q E hr h=> ?_)
 ·obtain⟨CG,spl,s',bd,ch,gr,dg,cs,kb,nm,t,fs,B,zs,gl,rfl,_⟩:=h
  rfl
 ·obtain⟨CG,spl,s',bd,ch,gr,dg,cs,kb,nm,t,fs,B,zs,gl,rfl,hRc,hS,cl,hn,hv,hB,sep,ss,new,ht,hgr,hnl,le,hzs,z100,ngl,g100,nd,k4,hbd,r100,m100,o8,q⟩:=h
  refine⟨_,(aJ (cA (i:=4) zW.nd rfl (Or.inl rfl) (cF (pv 0) Y.cl G_for hr.mn aO (aA (pv 1) (aA (pv 2) aG))))
   (aJ (cA (i:=5) zW.nd rfl (Or.inl rfl) (tJ (R:=RL) (pv 3) hRL hr.mn aO (aA (pv 1) aG)))
   (aJ (bW (cF (pv 0) Y.cl G_cl hr.mn aO (aA (fF (aA (pv 1) (aA (pv 2) aG))) (aA (pv 5) aG))))
   (aJ (bW (cF (pv 0) Y.cl G_cr hr.mn aO (aA (fF (aA (pv 1) (aA (pv 2) aG))) (aA (pv 5) aG))))
   (aK (bW (cF (pv 0) Y.cl G_make hr aO (aA (jE GI hr.mn C.c aO (aA (pv 4) (aA (pv 2) (aA (pv 3) aG)))) aG)))))))),?_⟩
  obtain⟨⟨dx,fi0,h1⟩,h2,h3⟩:=hS;refine⟨_,rfl,s',dx,_,rfl,h1,fN,_,rfl,_,rfl,s',bd,ch,fi0,dx,kb,nm,t,B,rfl,h1,h3,hn,hv,hB,ht,o8,fun H1 s1=> ?_⟩;have Gr:=hRI _ _ hRc;refine⟨_,rfl,CG,spl,gr,dg,_,hRc,rfl,s1 _ _ hgr,hnl,_,rfl,le H1 _ (jL.of s1) fun H2 l ys s2 hl h2l hsp=> ?_⟩;have s12:=s1.trans s2;refine⟨_,rfl,s',dx,_,rfl,s12 _ _ h1,fN,_,rfl,_,rfl,sl,fun t1 ht1=> ?_⟩;have s3':=aF.new (o:=.tup [.str nm,.str t]) ht1;have tt1:upd H2 t1 (.tup [.str nm,.str t]) t1=some (.tup [.str nm,.str t]):=aI
  generalize upd H2 t1 (.tup [.str nm,.str t])=H3 at s3' tt1|-
  have s3:=s12.trans s3';refine⟨_,rfl,s',bd,ch,fi0,dx,l,.ref t1,kb,ys,zs,rfl,s3 _ _ h1,s3 _ _ h3,s3' _ _ h2l,hsp.same s3',fun z hz=> ?_,fun H4 s4=> ?_⟩
  ·obtain⟨n2,_,B',b1,b2,b3⟩:=hzs z hz
   exact⟨n2,B',b1,b2.same s3,b3⟩
  have s4':=s3.trans s4;refine⟨_,rfl,s',dx,_,rfl,s4' _ _ h1,fN,_,rfl,_,rfl,sl,fun t2 ht2=> ?_⟩;have s5':=aF.new (o:=.tup [.str nm,.str t]) ht2;have tt2:upd H4 t2 (.tup [.str nm,.str t]) t2=some (.tup [.str nm,.str t]):=aI
  generalize upd H4 t2 (.tup [.str nm,.str t])=H5 at s5' tt2|-
  have s5:=s4'.trans s5';have s25:=(s3'.trans s4).trans s5';refine⟨_,rfl,s',bd,ch,fi0,dx,l,.ref t2,kb,ys,(nm,t),zs,gl,rfl,s5 _ _ h1,s5 _ _ h3,nd,k4,s25 _ _ h2l,hsp.same s25,fun z hz=>⟨(hzs z hz).1,(hzs z hz).2.1⟩,z100,⟨t2,rfl,tt2⟩,⟨hn,ht⟩,ngl,g100,fun kv hkv=>(hbd kv hkv).same s5,fun H6 s6'=> ?_⟩;have s6:=s5.trans s6';refine⟨_,rfl,s',dx,_,rfl,s6 _ _ h1,fN,_,rfl,_,rfl,_,rfl,?_⟩;intro c dc hc hdc ne;refine⟨c,dc,B.b,gr,t,rfl,aI,fun H7 b7 c7=>⟨rfl,?_⟩⟩;have s7:aF H H7:=fun b o z=>b7 b o (aX (s6 _ _ z) hc) (by rw[aH (aX (s6 _ _ z) hc),aH (aX (s6 _ _ z) hdc)];exact s6 _ _ z)
  have hB7:=hB.same s7;have gr7:=s7 _ _ hgr;refine⟨s',c,bd,ch,fi0,dx,dc,cs,_,rfl,c7,(yF _ _ _).2.2.2.1,c,dc,gr,B,t,rfl,c7,hB7,new,B,t,gr,CG,dg,_,rfl,hB7,sep,new,gr7,Gr.ty gr7,Gr.isl,r100,m100,by omega,fun H8 m hm B8 m8 u8=> ?_⟩;have ho:=hB.ord;have hru:=hB.rul;have hme:=hB.mem;have k8:∀{x:Addr} {o:HO},H x=some o->x≠B.od->x≠B.ru->x≠B.me->H8 x=some o:=fun e n1 n2 n3=>u8 _ _ n1 n2 n3 (s7 _ _ e)
  have ns4:=k8 h1 (fun y=>by rw[y,ho]at h1;cases h1) (fun y=>by rw[y,hru]at h1;cases h1) (fun y=>by rw[y,hme]at h1;cases h1);have ch4:=k8 h2 ss.o (fun y=>by rw[y,hru]at h2;cases h2) (fun y=>by rw[y,hme]at h2;cases h2);refine⟨ns4,ch4,cl,fun H9 fi fd lk df f1 f2 f3 nfl g1 g2 g3 g4 g5 u9=> ?_⟩;have nn:∀{x:Addr},H8 x=none->H x=none:=fun{x} e=>by
   cases e2:H x with
   |none=>rfl
   |some o=>
    by_cases y:x=B.od
    ·rw[y,B8.ord]at e;cases e
    ·by_cases y2:x=B.ru
     ·rw[y2,B8.rul]at e;cases e
     ·by_cases y3:x=B.me
      ·rw[y3,B8.mem]at e;cases e
      ·rw[k8 e2 y y2 y3]at e;cases e
  have hm0:H m=none:=gU s7 hm;have nm':m≠s'/\m≠ch:=⟨fun y=>by{rw[y,h1]at hm0;cases hm0},fun y=>by{rw[y,h2]at hm0;cases hm0}⟩;have nb:bd≠s'/\bd≠ch:=⟨fun y=>by{rw[y,h1]at h3;cases h3},fun y=>by{rw[y,h2]at h3;cases h3}⟩;exact q H9 fi fd lk c m ⟨⟨dx,g1⟩,g2,u9 _ _ nb.1 nb.2 (k8 h3 (fun y=>by rw[y,ho]at h3;cases h3) ss.u ss.m),⟨df,g3⟩,g4,g5,nfl,nn f1,nn f2,nn f3⟩ hm0 (B8.off ⟨dx,bd,ch,fi0,ns4⟩ ch4 ss.r ss.o u9) (u9 _ _ nm'.1 nm'.2 m8) (fun x o n1 n2 n3 n4 n5 e=>u9 _ _ n1 n2 (k8 e n3 n4 n5))
theorem a6Y(Y:kN K mg C):wO K C:=⟨Y.cl,fun e=> .ins e Y.cl Y.hc Y.own.2.1 Y.own.2.2 Y.own.1,Y.isl⟩
theorem a6A(Y:kN K mg C):qX K C:=⟨Y.cl,Y.m_reckon,Y.n_function⟩
inductive qB(P:Program)(w:World)(K:Fg)(mg:Str->Option Value)(af:Heap)(C:Addr)(vs:List V)(H:Hp)(Q:VK)(E:XK):Prop
 |mk (gr look many nl fa dx:Addr) (nm c:Str) (p:Nat) (zs:List Str) (Vc:aQ->Prop) (J:Option GT->Hp->Prop) (W M:List Addr):vs= [.ref gr,.ref look,.ref many,.str nm,.str c,.int (p:Int)] ->H gr=some (.ins C dx (jB nl fa))->H nl=some (.lst (zs.map V.str))->zs.length<=6->eT P w K mg af 6 look (oG K Vc J M)->(J (some (fP .done (zs.map fun z=>(nm,z,p)) [])) H)->gP J W M->(∀z∈zs,Vc (nm,z,p))->(∀H' fv tf,dU M H H'->oV K H H' fv tf->(J (some (.done tf)) H'\/ J none H')->Q fv H')->qB P w K mg af C vs H Q E
abbrev sY:List Str:=["self","look","many","table","column","place"]
theorem a9j:aY sY sY (aL sN):={}
theorem a8d(T:bA K mg)(Y:kN K mg C):aS P w K mg af aD 8 C "gather" ["self","look","many","table","column","place"] (qB P w K mg af C):=by
 have G_turn:bD P w K mg af aD 7 "look_in_turn" ["look","cells"] (zY P w K mg af 6):=a7j T (by decide);refine Y.m_gather.known a9j (fun _ _ _ _ _ _ us hl=>bi6 (fun _ _ _ _ _ _=>rfl) us hl) (fun vs H Q E h=> ?_) (fun f ah A ag s H vs Q E hr h=> ?_)
 ·obtain⟨gr,look,many,nl,fa,dx,nm,c,p,zs,Vc,J,W,M,rfl,_⟩:=h
  rfl
 ·obtain⟨gr,look,many,nl,fa,dx,nm,c,p,zs,Vc,J,W,M,rfl,h1,h4,z6,F1,hJ,S,hV,q⟩:=h
  have hcl:∀x,(dF aD P w K mg af sY "Cells.gather" (aL sN) f ah A ag s H E).nox.env.scope.names.lookup x=some .cell->∃c,(dF aD P w K mg af sY "Cells.gather" (aL sN) f ah A ag s H E).nox.env.cells.lookup x=some c:=fun x hx=>Option.isSome_iff_exists.mp (PySem.W.cellsFrom_some _ _ _ (.inl hx))
  refine⟨_,(aK (bH (bK G_turn hr aO (aA (pv 1) (aA (vV (mD (sc:=aL sN) (N:=sY) (cp:=[(3,"table"),(5,"place")]) hcl) rfl rfl (by decide) (mJ (aV (pv 0) rfl)) (fun _ _ _ _ _=>rZ) (fun _ _ _ _ _=>(fF (aA (pv 1) (aA (pv 0) (aA (pv 2) aG)))))) aG))))),?_⟩;refine⟨_,rfl,_,rfl,gr,C,dx,_,_,rfl,h1,Y.cl,Y.n_names,(rN nl fa).2.1,nl,rfl,⟨_,aM.of h4⟩,fun D hD=> ?_⟩;refine yQ (K:=K) (a:=nl) (xs:=zs.map V.str) (fun i ys H2=>aF H H2/\Paired (oF H2) ys ((zs.map fun z=>(nm,z,p)).take i)) ⟨aF.new hD,.nil⟩ (by rintro i ys H2 _ ⟨s2,_⟩;exact aM.of (s2 _ _ h4)) ?_ ?_
  ·rintro i xv ys H2 hx h2D ⟨s2,hd⟩
   rw[List.getElem?_map]at hx
   cases e:zs[i]? with
   |none=>rw[e]at hx;cases hx
   |some z=>
    rw[e]at hx;cases hx;have hi:i<zs.length:=(List.getElem?_eq_some_iff.mp e).1
    have hyl:ys.length<=6:=by
     have:=Paired.length hd;rw[List.length_take,List.length_map]at this;omega
    refine⟨_,rfl,_,rfl,_,rfl,sl,fun tp htp=> ?_⟩;have s3:aF H2 (upd H2 tp (.tup [.str nm,.str z,.int (p:Int)])):=aF.new htp;have t3:upd H2 tp (.tup [.str nm,.str z,.int (p:Int)]) tp=some (.tup [.str nm,.str z,.int (p:Int)]):=aI
    generalize upd H2 tp (.tup [.str nm,.str z,.int (p:Int)])=H3 at s3 t3|-
    have h3D:=s3 _ _ h2D;refine⟨h3D,eD (by omega),(s2.trans s3).on hD,?_⟩;have kt:bQ H3 (upd H3 D (.lst (ys++ [.ref tp]))):=fun a xs e=>by
     rw[aH (fun y=>by rw[y,h3D]at e;cases e)];exact e
    have kt2:bQ H2 (upd H3 D (.lst (ys++ [.ref tp]))):=fun a xs e=>kt _ _ (s3 _ _ e)
    rw[List.take_add_one,List.getElem?_map,e];exact Paired.snoc ⟨tp,rfl,kt _ _ t3⟩ (Paired.imp (fun a b h=>h.keep kt2) hd)
  ·rintro ys H2 h2D ⟨s2,hd⟩
   rw[List.length_map,show zs.length=(zs.map fun z=>(nm,z,p)).length by rw[List.length_map],List.take_length]at hd;refine⟨look,D,Vc,J,W,M,.done,ys,_,rfl,F1,S.same s2 hJ,S,h2D,hd,fun c hc=> ?_,by rw[List.length_map];omega,fun H' fv tf f' t j _=>q H' fv tf (fun b o n1 e=>f' _ _ n1 (s2 _ _ e)) (a5L s2 t) (j.imp id fun h=>h.2)⟩;obtain⟨z,hz,rfl⟩:=List.mem_map.mp hc;exact hV z hz
def jI(nm:Str)(zs:List Str)(p:Nat):GT:=fP .done (zs.map fun z=>(nm,z,p)) []
theorem a5v{gr nl:Addr}{nm:Str}{zs:List Str}(h1:H gr=some (.ins C dx (jB nl fa)))(h2:H nl=some (.lst (zs.map V.str)))(z6:zs.length<=6)(hV:∀z∈zs,Vc (nm,z,p)):lS P w K mg af (qB P w K mg af C) gr [gr,nl] tabs Vc nm c p (jI nm zs p) H:=
 fun look many J W M HB Q' kx n hJ S L1 L2 q=>⟨gr,look,many,nl,fa,dx,nm,c,p,zs,Vc,J,W,M,rfl,kx _ aa _ h1,kx _ (List.mem_cons_of_mem _ aa) _ h2,z6,L1,hJ,S,hV,q⟩
def jC(z:Str)(fa:Addr):List (Str×V):=[("function",V.ref fa),("name",V.str z)]
theorem qA(z:Str)(fa:Addr):(jC z fa).lookup ("function":Str)=some (.ref fa)/\(jC z fa).lookup ("name":Str)=some (.str z)/\(jC z fa).lookup ("leans":Str)=none/\(jC z fa).lookup ("gather":Str)=none/\(jC z fa).lookup ("reckon":Str)=none:=⟨rfl,rfl,rfl,rfl,rfl⟩
inductive zM(C:Addr)(vs:List V)(H:Hp)(Q:VK)(E:XK):Prop
 |mk (p dx fa:Addr) (z:Str):vs= [.ref p,.str z,.ref fa] ->H p=some (.ins C dx [])->Nl z->(∀H',bC p H H'->H' p=some (.ins C dx (jC z fa))->Q .non H')->zM C vs H Q E
theorem a5r:aY ["self","name","function"] ["self","name","function"] (aL a3Z):={}
theorem a9r(T:bA K mg){R:Addr}(Z:tP K mg R)(Y:kG K mg C):eO P w K mg af aD 3 C ["self","name","function"] (zM C):=by
 have G_init:aS P w K mg af aD 1 R "__init__" ["self","function"] (xJ K):=a1h T Z;have G_check_name:bD P w K mg af aD 2 "check_name" ["name"] uP:=a1N T;refine(Y.m_init.known a5r (fun _ _ _ _ _ _ us hl=>jN (fun _ _ _=>rfl) us hl) (fun vs H Q E h=> ?_) (fun f ah A ag s H vs Q E hr h=> ?_)).init Y.mks Y.kc
 ·obtain⟨p,dx,fa,z,rfl,_⟩:=h
  rfl
 ·obtain⟨p,dx,fa,z,rfl,hp,hz,q⟩:=h
  refine⟨_,(aJ (bW (a2K (vL Z.c) Z.v_init G_init hr.mn aO (aA (pv 0) (aA (pv 2) aG))))
   (aJ (bW (bK G_check_name hr.mn aO (aA (pv 1) aG)))
   (aK (cV (pv 0) (pv 1) rfl)))),?_⟩
  have b1:bC p H (upd H p (.ins C dx (aN "function" (.ref fa) []))):=bC.upd;refine⟨_,rfl,_,rfl,p,C,dx,[],.ref fa,rfl,hp,Y.cl,Y.n_function,by decide,?_⟩;refine⟨_,rfl,z,rfl,hz,fun H2 s2=> ?_⟩;refine⟨_,rfl,_,rfl,p,C,dx,_,rfl,s2 _ _ aI,Y.cl,Y.n_name,(by show 1<1000;decide),?_⟩;exact q _ ((b1.trans (bC.of s2)).trans bC.upd) aI
inductive vQ(C:Addr)(vs:List V)(H:Hp)(Q:VK)(E:XK):Prop
 |mk (p dx fa:Addr) (t z:Str):vs= [.ref p,.str t] ->H p=some (.ins C dx (jC z fa))->(∀H' l ys,aF H H'->H l=none->H' l=some (.lst ys)->cT H' ys [(t,z)] ->Q (.ref l) H')->vQ C vs H Q E
theorem a6f:aY ["self","table"] ["self","table"] (aL a3D):={}
theorem a8n(T:bA K mg)(Y:kG K mg C):aS P w K mg af aD 3 C "leans" ["self","table"] (vQ C):=by
 refine Y.m_leans.known a6f (fun _ _ _ _ _ _ us hl=>eG (fun _ _=>rfl) us hl) (fun vs H Q E h=> ?_) (fun f ah A ag s H vs Q E hr h=> ?_)
 ·obtain⟨p,dx,fa,t,z,rfl,_⟩:=h
  rfl
 ·obtain⟨p,dx,fa,t,z,rfl,h1,q⟩:=h
  refine⟨_,(aK (bH (fC (aA (fF (aA (pv 1) (aA (aV (pv 0) rfl) aG))) aG)))),?_⟩;refine⟨_,rfl,_,rfl,p,C,dx,_,_,rfl,h1,Y.cl,Y.n_name,(qA z fa).2.1,sl,fun t1 ht1=> ?_⟩;have s1:aF H (upd H t1 (.tup [.str t,.str z])):=aF.new ht1;refine⟨sl,fun l hl=> ?_⟩;have s3:=aF.new (o:=.lst [.ref t1]) hl;exact q _ l _ (s1.trans s3) (gU s1 hl) aI (.cons ⟨t1,rfl,s3 _ _ aI⟩ .nil)
theorem a33{gr:Addr}{nm z:Str}(h1:H gr=some (.ins C dx (jC z fa))):mO (vQ C) gr nm [(nm,z)] H:=
 fun Hb Q' k q=>⟨gr,dx,fa,nm,z,rfl,k _ _ (.inl ⟨_,_,_,rfl⟩) h1,q⟩
theorem a9o(Y:kG K mg C):wO K C:=⟨Y.cl,fun e=> .ins e Y.cl Y.hc Y.own.2.1 Y.own.2.2 Y.own.1,Y.isl⟩
theorem a87(Y:kG K mg C):qX K C:=⟨Y.cl,Y.m_reckon,Y.n_function⟩
def sT(nm z:Str)(p:Nat):GT:=.look (nm,z,p) fun d=> .done (if isT d then .inr [] else .inl d)
inductive tM(P:Program)(w:World)(K:Fg)(mg:Str->Option Value)(af:Heap)(C:Addr)(vs:List V)(H:Hp)(Q:VK)(E:XK):Prop
 |mk (gr look many fa dx:Addr) (nm c z:Str) (p:Nat) (Vc:aQ->Prop) (J:Option GT->Hp->Prop) (W M:List Addr):vs= [.ref gr,.ref look,.ref many,.str nm,.str c,.int (p:Int)] ->H gr=some (.ins C dx (jC z fa))->eT P w K mg af 6 look (oG K Vc J M)->J (some (sT nm z p)) H->gP J W M->Vc (nm,z,p)->(∀H' fv tf,dU M H H'->oV K H H' fv tf->(J (some (.done tf)) H'\/ J none H')->Q fv H')->tM P w K mg af C vs H Q E
abbrev Nmg:List Str:=["self","look","many","table","column","place","value"]
theorem a4x:aY Nmg ["self","look","many","table","column","place"] (aL a3N):={}
theorem a46(T:bA K mg)(Y:kG K mg C):aS P w K mg af aD 8 C "gather" ["self","look","many","table","column","place"] (tM P w K mg af C):=by
 have G_is_fault:bD P w K mg af aD 2 "is_fault" ["thing"] (tW K):=a0q T;refine Y.m_gather.known a4x (fun _ _ _ _ _ _ us hl=>bi6 (fun _ _ _ _ _ _=>rfl) us hl) (fun vs H Q E h=> ?_) (fun f ah A ag s H vs Q E hr h=> ?_)
 ·obtain⟨gr,look,many,fa,dx,nm,c,z,p,Vc,J,W,M,rfl,_⟩:=h
  rfl
 ·obtain⟨gr,look,many,fa,dx,nm,c,z,p,Vc,J,W,M,rfl,h1,F1,hJ,S,hV,q⟩:=h
  refine⟨_,(aJ (cA (i:=6) a4x.nd rfl (Or.inl rfl) (a4P 1 (hr.mono (show 6<=7 by decide)) (aA (pv 3) (aA (aV (pv 0) rfl) (aA (pv 5) aG)))))
   (aJ (bI (dH (bK G_is_fault hr.mn aO (aA (pv 6) aG)) (fun _=>rfl)) (aK (bH (fF (aA bT (aA (fC aG) aG))))) bL)
   (aK (bH (fF (aA bT (aA (pv 6) aG))))))),?_⟩
  refine⟨look,_,rfl,F1,_,rfl,_,rfl,gr,C,dx,_,_,rfl,h1,Y.cl,Y.n_name,(qA z fa).2.1,_,rfl,nm,z,p,_,rfl,hJ,hV,fun τ e=>⟨_,(Option.some.inj e).symm⟩,fun H3 v d f3 p3 end3=> ?_⟩;refine⟨_,rfl,v,d,rfl,p3.2,p3.1.short.1,fun H4 s4=>⟨_,rfl,?_⟩⟩;rw[p3.1.isT];have f4:=f3.trans (dU.of s4);have p4:=p3.same s4
  have hE:(J (some (.done (if isT d then .inr [] else .inl d))) H4)\/ (d=kT/\J none H4):=by
   rcases end3 with⟨k,ek,J3⟩|⟨rfl,J3⟩
   ·cases ek
    exact .inl (S.same s4 J3)
   ·exact .inr ⟨rfl,S.same s4 J3⟩
  cases hT:isT d with
  |false=>
   rw[hT]at hE;refine bG ⟨_,rfl,sl,fun tp htp=> ?_⟩;have s5:=aF.new (o:=.tup [.str ("value":Str),v]) htp;exact q _ _ (.inl d) (f4.trans (dU.of s5)) ⟨tp,_,rfl,aI,p4.same s5⟩ (hE.imp (fun h=>S.same s5 h) fun h=>S.same s5 h.2)
  |true=>
   rw[hT]at hE;refine cI ⟨sl,fun l hl=>⟨sl,fun tp htp=> ?_⟩⟩;have s5:=aF.new (o:=.lst []) hl;have s6:=aF.new (o:=.tup [.str ("call":Str),.ref l]) htp
   have hl0:H l=none:=by
    cases e:H l with
    |none=>rfl
    |some o=>
     by_cases m:l∈M
     ·exfalso
      have thM:∀o',J o' H4->False:=fun o' h=>by rcases S.mt o' H4 h l m with⟨k,e2⟩|⟨C,dx,fs,e2⟩<;>rw[hl]at e2<;>cases e2
      rcases hE with h|h
      ·exact thM _ h
      ·exact thM _ h.2
     ·rw[f4 _ _ m e]at hl;cases hl
   exact q _ _ (.inr []) ((f4.trans (dU.of s5)).trans (dU.of s6)) ⟨tp,l,rfl,aI,s6 _ _ aI,hl0⟩ (hE.imp (fun h=>S.same s6 (S.same s5 h)) fun h=>S.same s6 (S.same s5 h.2))
theorem a6h{gr:Addr}{nm z:Str}(h1:H gr=some (.ins C dx (jC z fa)))(hV:Vc (nm,z,p)):lS P w K mg af (tM P w K mg af C) gr [gr] tabs Vc nm c p (sT nm z p) H:=
 fun look many J W M HB Q' kx n hJ S L1 L2 q=>⟨gr,look,many,fa,dx,nm,c,z,p,Vc,J,W,M,rfl,kx _ aa _ h1,L1,hJ,S,hV,q⟩
def KnR(CF CB CT:Addr)(C:Addr)(sp:Sp):Prop:=C=CF/\(sp=vT CF CB CT\/ sp=uL CF CB CT)
inductive wZ(CR CF CB CT pU:Addr)(vs:List V)(H:Hp)(Q:VK)(E:XK):Prop
 |mk (tr tl fi bd fd lk dx:Addr) (nm c:Str) (p:Nat) (B:BM) (kf kt:List (Ky×V)) (u:V):vs= [.ref tr,.str nm,.str c,.int (p:Int)] ->H tr=some (.ins CR dx (eF fi tl u))->H tl=some (.dT kt)->kt.length<900->tl≠fd->dR CF CB CT H fi bd fd lk nm B kf->((u= .non/\∃l ys v,aE B.rus (.inr c:aB)=none/\Nl c/\aE B.kvs (.inr c:aB)=some (.ref l)/\H l=some (.lst ys)/\p<B.xs.length/\cL ys (p:Int)=some v/\(∀v',aE kf (bE nm c p)=some v'->v'=v)/\kf.length<899/\
  ∀H' kf',(kf'=kf\/ kf'=aR kf (bE nm c p) v)->aE kf' (bE nm c p)=some v->dR CF CB CT H' fi bd fd lk nm B kf'->H' tl=some (.dT (aR kt (bE nm c p) (.bl true)))->(∀x o,x≠fd->x≠tl->H x=some o->H' x=some o)->Q v H')\/
  (u= .non/\∃r v,aE B.rus (.inr c:aB)=some r/\aE kf (bE nm c p)=some v/\∀H',H' tl=some (.dT (aR kt (bE nm c p) (.bl true)))->(∀x o,x≠tl->H x=some o->H' x=some o)->Q v H')\/
  (u= .non/\∃r,aE B.rus (.inr c:aB)=some r/\aE kf (bE nm c p)=none/\∀H' la,H la=none->H' la=some (.tup ((bE nm c p).map kV))->H' tr=some (.ins CR dx (eF fi tl (.ref la)))->H' tl=some (.dT (aR kt (bE nm c p) (.bl true)))->(∀x o,x≠tl->x≠tr->H x=some o->H' x=some o)->Q (.ref pU) H')\/
  ((∃la,u= .ref la)/\∀H',H' tl=some (.dT (aR kt (bE nm c p) (.bl true)))->(∀x o,x≠tl->H x=some o->H' x=some o)->Q (.ref pU) H'))->wZ CR CF CB CT pU vs H Q E
theorem a8B(T:bA K mg){CR pU:Addr}(hpU:mg "UNKNOWN"=some (.ref pU))(X:mR K mg CR)(Y:fO K mg CF)(W:cY K mg CB)(Z:dQ K mg CT):aS P w K mg af aD 5 CR "look" ["self","table","column","place"] (wZ CR CF CB CT pU):=by
 have G_knows:∀C sp,KnR CF CB CT C sp->cG K C/\aS P w K mg af aD 4 C "knows" ["self","cell"] sp:=fun C sp h=>by
  obtain⟨rfl,rfl|rfl⟩:=h
  ·exact⟨Y.cl,a36 T Y W Z⟩
  ·exact⟨Y.cl,yY T Y W⟩
 refine X.m_look.known a2i (fun _ _ _ _ _ _ us hl=>kP (fun _ _ _ _=>rfl) us hl) (fun vs H Q E h=> ?_) (fun f ah A ag s H vs Q E hr h=> ?_)
 ·obtain⟨tr,tl,fi,bd,fd,lk,dx,nm,c,p,B,kf,kt,u,rfl,_⟩:=h
  rfl
 ·obtain⟨tr,tl,fi,bd,fd,lk,dx,nm,c,p,B,kf,kt,u,rfl,htr,htl,ktl,ntf,hF,q⟩:=h
  have hu:=dY hr
  refine⟨_,(aJ (cA (i:=4) a2i.nd rfl (Or.inl rfl) (fF (aA (pv 1) (aA (pv 2) (aA (pv 3) aG)))))
   (aJ (iX hu (aV (pv 0) rfl) (pv 4) oE rfl)
   (aJ (bI (PW.pt (oP (cR pL (aV (pv 0) rfl) gT (dA _)) (oH (fS (dH (tJ (aV (pv 0) rfl) G_knows hr aO (aA (pv 4) aG)) (fun _=>rfl)))))) (aK (cV (pv 0) (pv 4) rfl)) bL)
   (aJ (bI (cR pL (aV (pv 0) rfl) gT (dA _)) (aK (bH (gE hu (aV (aV (pv 0) rfl) rfl) (pv 4) (fun _ _=>rfl)))) bL)
   (aK (bH (vL hpU))))))),?_⟩
  obtain⟨a1,a2,a3,a4⟩:=rM fi tl u;refine⟨_,rfl,_,rfl,_,rfl,sl,fun ce hce=> ?_⟩;have s1:=aF.new (o:=.tup ((bE nm c p).map kV)) hce;have c1:upd H ce (.tup ((bE nm c p).map kV)) ce=some (.tup ((bE nm c p).map kV)):=aI;have hcf:H ce=none:=hce;generalize hH1:upd H ce (.tup ((bE nm c p).map kV))=H1 at s1 c1;rw[show upd H ce (.tup [V.str nm,V.str c,V.int (p:Int)])=H1 from hH1];have nct:ce≠tl:=fun z=>by rw[z,htl]at hcf;cases hcf
  refine⟨_,rfl,tr,CR,dx,_,_,rfl,s1 _ _ htr,X.cl,X.n_looked,a2,_,rfl,tl,_,rfl,.inr ⟨kt,bE nm c p,ce,s1 _ _ htl,rfl,c1,eD (by omega),rfl⟩,?_⟩;have u2:bC tl H1 (upd H1 tl (.dT (aR kt (bE nm c p) (.bl true)))):=fun b o n z=>by rw[aH n];exact z
  have t2:upd H1 tl (.dT (aR kt (bE nm c p) (.bl true))) tl=some (.dT (aR kt (bE nm c p) (.bl true))):=aI
  generalize upd H1 tl (.dT (aR kt (bE nm c p) (.bl true)))=H2 at u2 t2|-
  have ntr:tr≠tl:=fun z=>by rw[z,htl]at htr;cases htr
  have tr2:=u2 _ _ ntr (s1 _ _ htr);have hF1:=hF.same s1;have hl1:=s1 _ _ htl;have nd:∀{x:Addr} {o:HO},H1 x=some o->(∀kvs,o≠ .dT kvs)->H2 x=some o:=fun z n=>u2 _ _ (fun y=>by rw[y,hl1]at z;exact n _ (Option.some.inj z).symm) z
  have F2:dR CF CB CT H2 fi bd fd lk nm B kf:=by
   obtain⟨d0,e1⟩:=hF1.fin;obtain⟨kb,e2,e3⟩:=hF1.bds;obtain⟨⟨d1,b1⟩,⟨⟨d2,b2⟩,b3,b4⟩,b5,b6,b7⟩:=hF1.B;exact⟨⟨d0,nd e1 (fun _ z=>by cases z)⟩,⟨kb,nd e2 (fun _ z=>by cases z),e3⟩,⟨⟨d1,nd b1 (fun _ z=>by cases z)⟩,⟨⟨d2,nd b2 (fun _ z=>by cases z)⟩,nd b3 (fun _ z=>by cases z),nd b4 (fun _ z=>by cases z)⟩,nd b5 (fun _ z=>by cases z),nd b6 (fun _ z=>by cases z),nd b7 (fun _ z=>by cases z)⟩,u2 _ _ ntf.symm hF1.fnd,hF1.len⟩
  obtain⟨df,f2⟩:=F2.fin;have ce2:=u2 _ _ nct c1;have u12:∀x o,x≠tl->H x=some o->H2 x=some o:=fun x o n z=>u2 _ _ n (s1 _ _ z)
  have ntrf:tr≠fd:=fun z=>by rw[z,hF.fnd]at htr;cases htr
  have ncf:ce≠fd:=fun z=>by rw[z,hF.fnd]at hcf;cases hcf
  have ncr:ce≠tr:=fun z=>by rw[z,htr]at hcf;cases hcf
  rcases q with⟨rfl,l,ys,v,hru,hc,hv,hl,hp,ha,hcon,kl,q⟩|⟨rfl,r,v,hru,hv,q⟩|⟨rfl,r,hru,hv,q⟩|⟨⟨la,rfl⟩,q⟩
  ·refine⟨_,rfl,tr,CR,dx,_,_,rfl,tr2,X.cl,X.n_lacking,a3,rfl,_,rfl,cI ?_⟩
   refine⟨_,rfl,tr,CR,dx,_,_,rfl,tr2,X.cl,X.n_finder,a1,CF,_,fi,df,_,⟨rfl,.inl rfl⟩,rfl,f2,jJ,_,rfl,fi,bd,fd,lk,ce,l,nm,c,p,B,kf,ys,v,rfl,F2,ce2,hru,hc,hv,nd (s1 _ _ hl) (fun _ z=>by cases z),hp,ha,hcon,kl,fun H3 kf' hk' vk' F3 b3=>⟨_,rfl,bG ?_⟩⟩;have tr3:=b3 _ _ ntrf tr2;obtain⟨df3,f3⟩:=F3.fin;refine⟨_,rfl,tr,CR,dx,_,_,rfl,tr3,X.cl,X.n_lacking,a3,rfl,_,rfl,cI ?_⟩;refine⟨_,rfl,tr,CR,dx,_,_,rfl,tr3,X.cl,X.n_finder,a1,fi,CF,df3,_,_,rfl,f3,Y.cl,Y.n_found,(jO _ _ _).2.1,_,rfl,fd,v,rfl,?_,?_⟩
   ·rw[<- vk']
    exact .inr ⟨_,bE nm c p,ce,.inl F3.fnd,rfl,b3 _ _ ncf ce2,rfl⟩
   ·exact q H3 kf' hk' vk' F3 (b3 _ _ ntf t2) (fun x o n1 n2 z=>b3 _ _ n1 (u12 _ _ n2 z))
  ·refine⟨_,rfl,tr,CR,dx,_,_,rfl,tr2,X.cl,X.n_lacking,a3,rfl,_,rfl,cI ?_⟩
   refine⟨_,rfl,tr,CR,dx,_,_,rfl,tr2,X.cl,X.n_finder,a1,CF,_,fi,df,_,⟨rfl,.inr rfl⟩,rfl,f2,jJ,_,rfl,fi,bd,fd,lk,ce,nm,c,p,B,kf,r,rfl,F2,ce2,hru,?_⟩;rw[hv];refine⟨_,rfl,bG ?_⟩;refine⟨_,rfl,tr,CR,dx,_,_,rfl,tr2,X.cl,X.n_lacking,a3,rfl,_,rfl,cI ?_⟩;refine⟨_,rfl,tr,CR,dx,_,_,rfl,tr2,X.cl,X.n_finder,a1,fi,CF,df,_,_,rfl,f2,Y.cl,Y.n_found,(jO _ _ _).2.1,_,rfl,fd,v,rfl,?_,q H2 t2 u12⟩;rw[<- hv];exact .inr ⟨_,bE nm c p,ce,.inl F2.fnd,rfl,ce2,rfl⟩
  ·refine⟨_,rfl,tr,CR,dx,_,_,rfl,tr2,X.cl,X.n_lacking,a3,rfl,_,rfl,cI ?_⟩
   refine⟨_,rfl,tr,CR,dx,_,_,rfl,tr2,X.cl,X.n_finder,a1,CF,_,fi,df,_,⟨rfl,.inr rfl⟩,rfl,f2,jJ,_,rfl,fi,bd,fd,lk,ce,nm,c,p,B,kf,r,rfl,F2,ce2,hru,?_⟩;rw[hv];refine⟨_,rfl,cI ?_⟩;refine⟨_,rfl,_,rfl,tr,CR,dx,_,rfl,tr2,X.cl,X.n_lacking,(by show 3<1000;decide),?_⟩;rw[show aN "lacking" (.ref ce) (eF fi tl .non)=eF fi tl (.ref ce) from rfl];have u3:bC tr H2 (upd H2 tr (.ins CR dx (eF fi tl (.ref ce)))):=fun b o n z=>by rw[aH n];exact z
   have t3:upd H2 tr (.ins CR dx (eF fi tl (.ref ce))) tr=some (.ins CR dx (eF fi tl (.ref ce))):=aI
   generalize upd H2 tr (.ins CR dx (eF fi tl (.ref ce)))=H3 at u3 t3|-
   refine⟨_,rfl,tr,CR,dx,_,_,rfl,t3,X.cl,X.n_lacking,(rM fi tl (.ref ce)).2.2.1,rfl,_,rfl,bG ?_⟩;exact q H3 ce hcf (u3 _ _ ncr ce2) t3 (u3 _ _ ntr.symm t2) (fun x o n1 n2 z=>u3 _ _ n2 (u12 _ _ n1 z))
  ·refine⟨_,rfl,tr,CR,dx,_,_,rfl,tr2,X.cl,X.n_lacking,a3,rfl,_,rfl,bG ?_⟩
   refine bG ?_;refine⟨_,rfl,tr,CR,dx,_,_,rfl,tr2,X.cl,X.n_lacking,a3,rfl,_,rfl,bG ?_⟩;exact q H2 t2 u12
end
def eJ(Ks:List Ky)(kvs:List (Ky×V)):Prop:=(kvs.map (·.1)).Nodup/\∀k∈kvs.map (·.1),k∈Ks
theorem tO{α:Type} [DecidableEq α]:∀{l m:List α},l.Nodup->(∀x∈l,x∈m)->l.length<=m.length
 | [],_,_,_=>Nat.zero_le _
 |x::r,m,h,hs=>by
  rw[List.nodup_cons]at h;have hx:=hs x List.mem_cons_self;have:=tO (l:=r) (m:=m.erase x) h.2 fun y hy=>(List.mem_erase_of_ne (fun e=>by rw[e]at hy;exact h.1 hy)).mpr (hs y (List.mem_cons_of_mem _ hy))
  rw[List.length_erase_of_mem hx]at this;have:0<m.length:=List.length_pos_of_mem hx;rw[List.length_cons];omega
theorem eJ.len{Ks:List Ky}{kvs:List (Ky×V)}(h:eJ Ks kvs):kvs.length<=Ks.length:=by
 have:=tO h.1 h.2
 rwa [List.length_map]at this
theorem eJ.nil{Ks:List Ky}:eJ Ks []:=⟨List.nodup_nil,fun k hk=>by cases hk⟩
theorem a7v{kvs:List (Ky×V)}{k:Ky}{v x:V}(h:aE kvs k=some x):(aR kvs k v).map (·.1)=kvs.map (·.1):=by
 unfold aR;rw[mX,h,if_pos (show(some x).isSome=true from rfl),List.map_map];refine List.map_congr_left fun p _=> ?_
 show(if p.1=k then _ else _:Ky×V).1=p.1;split<;>rfl
theorem eJ.put{Ks:List Ky}{kvs:List (Ky×V)}{k:Ky}{v:V}(h:eJ Ks kvs)(hk:k∈Ks):eJ Ks (aR kvs k v):=by
 cases e:aE kvs k with
 |some x=>unfold eJ;rw[a7v e];exact h
 |none=>
  refine⟨a07 v h.1 e,fun k' hk'=> ?_⟩;rw[sH v e,List.map_append]at hk'
  rcases List.mem_append.mp hk' with hk'|hk'
  ·exact h.2 k' hk'
  ·rw[List.mem_singleton.mp hk']
   exact hk
theorem a0r{t t' c':Str}{p':Nat}(h:bE t c p=bE t' c' p'):t=t'/\c=c'/\p=p':=by
 unfold bE at h;simp only[List.cons.injEq,Sum.inr.injEq,Sum.inl.injEq,and_true]at h;exact⟨h.1,h.2.1,by omega⟩
theorem dR.mvW{nm:Str}{B:BM}(F:dR CF CB CT H fi bd fd lk nm B kf)(u:∀b o,b∈ [fi,bd,fd] ++ B.foot->H b=some o->H' b=some o):dR CF CB CT H' fi bd fd lk nm B kf:=by
 obtain⟨dx,e1⟩:=F.fin;obtain⟨kb,e2,e3⟩:=F.bds;obtain⟨⟨d1,b1⟩,⟨⟨d2,b2⟩,b3,b4⟩,b5,b6,b7⟩:=F.B;exact⟨⟨dx,u _ _ (by simp[BM.foot]) e1⟩,⟨kb,u _ _ (by simp[BM.foot]) e2,e3⟩,⟨⟨d1,u _ _ (by simp[BM.foot]) b1⟩,⟨⟨d2,u _ _ (by simp[BM.foot]) b2⟩,u _ _ (by simp[BM.foot]) b3,u _ _ (by simp[BM.foot]) b4⟩,u _ _ (by simp[BM.foot]) b5,u _ _ (by simp[BM.foot]) b6,u _ _ (by simp[BM.foot]) b7⟩,u _ _ (by simp[BM.foot]) F.fnd,F.len⟩
theorem dR.isthere{nm:Str}{B:BM}(F:dR CF CB CT H fi bd fd lk nm B kf)(hb:b∈ [fi,bd,fd] ++ B.foot):H b≠none:=fun z=>by
 obtain⟨dx,e1⟩:=F.fin;obtain⟨kb,e2,e3⟩:=F.bds;obtain⟨⟨d1,b1⟩,⟨⟨d2,b2⟩,b3,b4⟩,b5,b6,b7⟩:=F.B;have e0:=F.fnd;simp only[BM.foot,List.cons_append,List.nil_append,List.mem_cons,List.not_mem_nil,or_false]at hb
 rcases hb with rfl|rfl|rfl|rfl|rfl|rfl|rfl|rfl|rfl|rfl
 ·rw[e1]at z;cases z
 ·rw[e2]at z;cases z
 ·rw[e0]at z;cases z
 ·rw[b1]at z;cases z
 ·rw[b2]at z;cases z
 ·rw[b3]at z;cases z
 ·rw[b4]at z;cases z
 ·rw[b5]at z;cases z
 ·rw[b6]at z;cases z
 ·rw[b7]at z;cases z
theorem a4p{κ:Type} [DecidableEq κ]{kvs:List (κ×V)}{k:κ}{v:V}(h:aE kvs k=some v):(k,v)∈kvs:=by
 unfold aE at h;cases e:kvs.find? fun kv=>decide (kv.1=k)with
 |none=>rw[e]at h;cases h
 |some kv=>
  rw[e]at h;have h2:kv.2=v:=Option.some.inj h
  have h1:kv.1=k:=by have:=List.find?_some e;simpa using this
  rw[<- h1,<- h2];exact List.mem_of_find?_eq_some e
open Classical in
noncomputable def a0X (tabs:List (Str×BM)) (gv:Str->Str->Option (List V)):List Addr:=tabs.flatMap fun tb=>tb.2.kvs.filterMap fun kv=>match kv with
 |(.inr c,.ref l)=>if(gv tb.1 c).isSome/\aE tb.2.kvs (.inr c:aB)=some (.ref l) then some l else none
 |_=>none
theorem a7L{gv:Str->Str->Option (List V)}{t:Str}{B:BM}(g:gv t c=some ys)(h:(t,B)∈tabs)(e:aE B.kvs (.inr c:aB)=some (.ref l)):l∈a0X tabs gv:=by
 refine List.mem_flatMap.mpr ⟨(t,B),h,List.mem_filterMap.mpr ⟨_,a4p e,?_⟩⟩;show(if(gv t c).isSome/\aE B.kvs (.inr c:aB)=some (.ref l) then some l else none)=some l;rw[if_pos ⟨by rw[g];rfl,e⟩]
theorem a62{gv:Str->Str->Option (List V)}(h:l∈a0X tabs gv):∃t c ys B,gv t c=some ys/\(t,B)∈tabs/\aE B.kvs (.inr c:aB)=some (.ref l):=by
 obtain⟨tb,h1,h2⟩:=List.mem_flatMap.mp h;obtain⟨kv,h3,h4⟩:=List.mem_filterMap.mp h2;split at h4
 ·next c l'=>
  split at h4
  ·next hc=>
   cases h4;obtain⟨ys,hy⟩:=Option.isSome_iff_exists.mp hc.1;exact⟨tb.1,c,ys,tb.2,hy,h1,hc.2⟩
  ·cases h4
 ·cases h4
theorem dR.noext{nm:Str}{B:BM}(F:dR CF CB CT H fi bd fd lk nm B kf)(hb:b∈ [fi,bd,fd] ++ B.foot){φ:Heap->Prop}(z:H b=some (HO.ext φ)):False:=by
 obtain⟨dx,e1⟩:=F.fin;obtain⟨kb,e2,e3⟩:=F.bds;obtain⟨⟨d1,b1⟩,⟨⟨d2,b2⟩,b3,b4⟩,b5,b6,b7⟩:=F.B;have e0:=F.fnd;simp only[BM.foot,List.cons_append,List.nil_append,List.mem_cons,List.not_mem_nil,or_false]at hb
 rcases hb with rfl|rfl|rfl|rfl|rfl|rfl|rfl|rfl|rfl|rfl
 ·rw[e1]at z;cases z
 ·rw[e2]at z;cases z
 ·rw[e0]at z;cases z
 ·rw[b1]at z;cases z
 ·rw[b2]at z;cases z
 ·rw[b3]at z;cases z
 ·rw[b4]at z;cases z
 ·rw[b5]at z;cases z
 ·rw[b6]at z;cases z
 ·rw[b7]at z;cases z
structure jV where
 fi:Addr
 bd:Addr
 fd:Addr
 lk:Addr
 tr:Addr
 tl:Addr
 tabs:List (Str×BM)
 Ks:List Ky
 gv:Str->Str->Option (List V)
 Vc:aQ->Prop
 val:aQ->PyData
 kf0:List (Ky×V)
 t0:GT
structure OkT(tabs:List (Str×BM))(Ks:List Ky)(gv:Str->Str->Option (List V))(Vc:aQ->Prop):Prop where
 k8:Ks.length<=800
 v:∀x,Vc x->cK x∈Ks/\∃B,(x.1,B)∈tabs/\x.2.2<B.xs.length/\((∃ys,gv x.1 x.2.1=some ys/\ys.length=B.xs.length/\Nl x.2.1/\aE B.rus (.inr x.2.1:aB)=none)\/ (gv x.1 x.2.1=none/\∃r,aE B.rus (.inr x.2.1:aB)=some r))
def oN(CR:Addr)(X:jV)(kt:List (Ky×V))(H:Hp):Option GT->Prop
 |some τ=>(∃dx,H X.tr=some (.ins CR dx (eF X.fi X.tl .non)))/\∃us,GT.Path X.val X.t0 us τ/\(∀x,(aE kt (cK x)).isSome=true↔x∈us)/\∀y∈us,X.gv y.1 y.2.1=none->(aE X.kf0 (cK y)).isSome=true
 |none=>∃dx la x,H X.tr=some (.ins CR dx (eF X.fi X.tl (.ref la)))/\H la=some (.tup ((cK x).map kV))/\x∈X.t0.looks X.val/\X.Vc x/\X.gv x.1 x.2.1=none/\aE X.kf0 (cK x)=none
theorem oN.tr{CR:Addr}{X:jV}{kt:List (Ky×V)}:∀{o:Option GT},oN CR X kt H o->∃dx u,H X.tr=some (.ins CR dx (eF X.fi X.tl u))
 |some _,⟨⟨dx,e⟩,_⟩=>⟨dx,_,e⟩
 |none,⟨dx,la,_,e,_⟩=>⟨dx,_,e⟩
theorem oN.mv{CR:Addr}{X:jV}{kt:List (Ky×V)}(k:bQ H H')(e:∀o,H X.tr=some o->H' X.tr=some o):∀{o:Option GT},oN CR X kt H o->oN CR X kt H' o
 |some _,⟨⟨dx,h⟩,r⟩=>⟨⟨dx,e _ h⟩,r⟩
 |none,⟨dx,la,x,h,h2,r⟩=>⟨dx,la,x,e _ h,k _ _ h2,r⟩
structure JT(K:Fg)(CR CF CB CT:Addr)(X:jV)(o:Option GT)(H:Hp):Prop where
 kf:∃kf,(∀tb∈X.tabs,dR CF CB CT H X.fi X.bd X.fd X.lk tb.1 tb.2 kf)/\H X.fd=some (.dT kf)/\eJ X.Ks kf/\(∀t c p v ys,X.gv t c=some ys->aE kf (bE t c p)=some v->cL ys (p:Int)=some v)/\∀t c p,X.gv t c=none->aE kf (bE t c p)=aE X.kf0 (bE t c p)
 pd:∀x v,X.Vc x->X.gv x.1 x.2.1=none->aE X.kf0 (cK x)=some v->Pd K H v (X.val x)
 tl:∃kt,H X.tl=some (.dT kt)/\eJ X.Ks kt/\oN CR X kt H o
 cols:∀t c ys B,X.gv t c=some ys->(t,B)∈X.tabs->∃l,aE B.kvs (.inr c:aB)=some (.ref l)/\H l=some (.lst ys)
 cd:∀t c ys (p:Nat) v,X.gv t c=some ys->cL ys (p:Int)=some v->Pd K H v (X.val (t,c,p))
structure vJ(X:jV)(W:List Addr):Prop where
 o:X.fd∈W/\X.tr∈W/\X.tl∈W
 f:∀tb∈X.tabs,∀b∈ [X.fi,X.bd,X.fd] ++ tb.2.foot,b∈W
 c:∀t c ys B l,X.gv t c=some ys->(t,B)∈X.tabs->aE B.kvs (.inr c:aB)=some (.ref l)->l∈W
 n:∀b∈W,b=X.fd\/ b=X.tr\/ b=X.tl\/ (∃tb∈X.tabs,b∈ [X.fi,X.bd,X.fd] ++ tb.2.foot)\/ ∃t c ys B,X.gv t c=some ys/\(t,B)∈X.tabs/\aE B.kvs (.inr c:aB)=some (.ref b)
theorem JT.st{CR:Addr}{X:jV}{W:List Addr}(w:vJ X W):gP (JT K CR CF CB CT X) W [X.fd,X.tl,X.tr] where
 there:=fun o H h b mb z=>by
  obtain⟨kf,F,e0,_⟩:=h.kf;obtain⟨kt,t2,_,tr⟩:=h.tl;obtain⟨d3,u,t1⟩:=tr.tr
  rcases w.n b mb with rfl|rfl|rfl|⟨tb,h1,h2⟩|⟨t,c,ys,B,g1,g2,g3⟩
  ·rw[e0]at z;cases z
  ·rw[t1]at z;cases z
  ·rw[t2]at z;cases z
  ·exact(F tb h1).isthere h2 z
  ·obtain⟨l,g4,g5⟩:=h.cols t c ys B g1 g2
   rw[g3]at g4;cases g4;rw[g5]at z;cases z
 stay:=fun o H H' k kz kt h=>by
  obtain⟨kf,F,e0,r1,r2,r3⟩:=h.kf;obtain⟨kt',t2,t3,tr⟩:=h.tl
  exact⟨⟨kf,fun tb htb=>(F tb htb).mvW fun b o hb e=>k _ _ (w.f tb htb b hb) e,k _ _ w.o.1 e0,r1,r2,r3⟩,fun x v a b c=>(h.pd x v a b c).keep kt,⟨kt',k _ _ w.o.2.2 t2,t3,tr.mv kt.t (fun o e=>k _ _ w.o.2.1 e)⟩,fun t c ys B g1 g2=>by
   obtain⟨l,g3,g4⟩:=h.cols t c ys B g1 g2;exact⟨l,g3,k _ _ (w.c t c ys B l g1 g2 g3) g4⟩,fun t c ys p v a b=>(h.cd t c ys p v a b).keep kt⟩
 mt:=fun o H h b hb=>by
  obtain⟨kf,_,e,_⟩:=h.kf;obtain⟨kt,e2,_,tr⟩:=h.tl;obtain⟨d3,u,t1⟩:=tr.tr;simp only[List.mem_cons,List.not_mem_nil,or_false]at hb
  rcases hb with rfl|rfl|rfl
  ·exact .inl ⟨kf,e⟩
  ·exact .inl ⟨kt,e2⟩
  ·exact .inr ⟨_,_,_,t1⟩
theorem a3E{X:jV}{kt:List (Ky×V)}{us:List aQ}{c:aQ}(h:∀x,(aE kt (cK x)).isSome=true↔x∈us)(v:V):∀x,(aE (aR kt (cK c) v) (cK x)).isSome=true↔x∈us++ [c]:=fun x=>by
 rw[gA,List.mem_append,List.mem_singleton];by_cases e:cK x=cK c
 ·rw[if_pos e]
  exact⟨fun _=> .inr (sM e),fun _=>rfl⟩
 ·rw[if_neg e]
  exact⟨fun y=> .inl ((h x).mp y),fun y=>y.elim (h x).mpr (fun z=>absurd (by rw[z]) e)⟩
theorem a9S(bd fd lk fi tl:Addr)(u:V):gY bd fd lk≠eF fi tl u:=fun h=>by
 have h1:(gY bd fd lk).map (·.1)=(eF fi tl u).map (·.1):=by rw[h]
 exact absurd h1 (show¬([("boards":Str),("found":Str),("looked":Str)]= [("finder":Str),("looked":Str),("lacking":Str)])by decide+kernel)
theorem a6F(r:Addr)(n:Int)(d fi tl:Addr)(u:V):kU r n d≠eF fi tl u:=fun h=>by
 have h1:(kU r n d).map (·.1)=(eF fi tl u).map (·.1):=by rw[h]
 exact absurd h1 (show¬([("row_numbers":Str),("fresh_number":Str),("kept":Str)]= [("finder":Str),("looked":Str),("lacking":Str)])by decide+kernel)
section
theorem JT.look{CR pU:Addr}(hU:∀H,bR K H pU [V.str ("fault":Str),V.str ("unknown":Str)]){X:jV}{W:List Addr}(wf:vJ X W)(ne:X.tl≠X.fd)(O:OkT X.tabs X.Ks X.gv X.Vc){o:Option GT}{t:Str}(hJ:JT K CR CF CB CT X o H)(hV:X.Vc (t,c,p))(hτ:∀τ,o=some τ->∃k,τ= .look (t,c,p) k){Q:VK}
 (q:∀H' v d,dU [X.fd,X.tl,X.tr] H H'->Pd K H' v d->((∃k,o=some (.look (t,c,p) k)/\JT K CR CF CB CT X (some (k d)) H')\/ (d=kT/\JT K CR CF CB CT X none H'))->Q v H'):
 wZ CR CF CB CT pU [.ref X.tr,.str t,.str c,.int (p:Int)] H Q E0:=by
 obtain⟨kf,F,e0,r1,r2,r3⟩:=hJ.kf;obtain⟨kt,t2,t3,trO⟩:=hJ.tl;obtain⟨dx,u,htr⟩:=trO.tr;obtain⟨kin,B,hB,hp,hcase⟩:=O.v _ hV;have k8:=O.k8;have lk:=r1.len;have lt:=t3.len;have S:=JT.st (K:=K) (CR:=CR) (CF:=CF) (CB:=CB) (CT:=CT) wf;have nrf:X.tr≠X.fd:=fun y=>by rw[y,e0]at htr;cases htr
 have nrl:X.tr≠X.tl:=fun y=>by rw[y,t2]at htr;cases htr
 have fr3:∀{H':Hp},(∀x o,x≠X.fd->x≠X.tl->x≠X.tr->H x=some o->H' x=some o)->dU [X.fd,X.tl,X.tr] H H':=fun h b ob n e=>by
  simp only[List.mem_cons,List.not_mem_nil,or_false,not_or]at n;exact h b ob n.1 n.2.1 n.2.2 e
 have upd':Pd K H (.ref pU) kT:=⟨a6X,.tup (hU H) (.cons (.str _) (.cons (.str _) .nil))⟩;have mk:∀{H':Hp} {o':Option GT} {kf' kt':List (Ky×V)},(∀x ob,x≠X.fd->x≠X.tl->x≠X.tr->H x=some ob->H' x=some ob)->H' X.fd=some (.dT kf')->kf'.length<900->eJ X.Ks kf'->(∀t c p v ys,X.gv t c=some ys->aE kf' (bE t c p)=some v->cL ys (p:Int)=some v)->(∀t c p,X.gv t c=none->aE kf' (bE t c p)=aE X.kf0 (bE t c p))->H' X.tl=some (.dT kt')->eJ X.Ks kt'->oN CR X kt' H' o'->JT K CR CF CB CT X o' H':=fun{H' o' kf' kt'} fr h1 h1l h2 h3 h4 h5 h6 h7=>by
  have k:∀{x:Addr} {ob:HO},H x=some ob->(∀y,ob≠ .dT y)->x≠X.tr->H' x=some ob:=fun e n m=>fr _ _ (fun y=>by rw[y,e0]at e;exact n _ (Option.some.inj e).symm) (fun y=>by rw[y,t2]at e;exact n _ (Option.some.inj e).symm) m e
  have kt:=S.tup hJ (fr3 fr);have nt:∀{x:Addr} {ob:HO},H x=some ob->(∀a b c,ob≠ .ins a b c)->x≠X.tr:=fun e n y=>by rw[y,htr]at e;exact n _ _ _ (Option.some.inj e).symm
  refine⟨⟨kf',fun tb htb=> ?_,h1,h2,h3,h4⟩,fun x v a b c=>(hJ.pd x v a b c).keep kt,⟨kt',h5,h6,h7⟩,fun t c ys B g1 g2=> ?_,fun t c ys p v a b=>(hJ.cd t c ys p v a b).keep kt⟩
  ·obtain⟨d0,e1⟩:=(F tb htb).fin
   obtain⟨kb,e2,e3⟩:=(F tb htb).bds;obtain⟨⟨d1,b1⟩,⟨⟨d2,b2⟩,b3,b4⟩,b5,b6,b7⟩:=(F tb htb).B;have n1:X.fi≠X.tr:=fun y=>by
    rw[y,htr]at e1;exact a9S _ _ _ _ _ _ (HO.ins.inj (Option.some.inj e1)).2.2.symm
   have n2:tb.2.g≠X.tr:=fun y=>by
    rw[y,htr]at b2;exact a6F _ _ _ _ _ _ (HO.ins.inj (Option.some.inj b2)).2.2.symm
   exact⟨⟨d0,k e1 nk n1⟩,⟨kb,k e2 nk (nt e2 (fun _ _ _ y=>by cases y)),e3⟩,⟨⟨d1,k b1 nk (xX b1 htr (show 4≠3 by decide))⟩,⟨⟨d2,k b2 nk n2⟩,k b3 nk (nt b3 (fun _ _ _ y=>by cases y)),k b4 nk (nt b4 (fun _ _ _ y=>by cases y))⟩,k b5 nk (nt b5 (fun _ _ _ y=>by cases y)),k b6 nk (nt b6 (fun _ _ _ y=>by cases y)),k b7 nk (nt b7 (fun _ _ _ y=>by cases y))⟩,h1,h1l⟩
  ·obtain⟨l,g3,g4⟩:=hJ.cols t c ys B g1 g2
   exact⟨l,g3,k g4 nk (nt g4 (fun _ _ _ y=>by cases y))⟩
 have ktp:eJ X.Ks (aR kt (bE t c p) (.bl true)):=t3.put kin;refine⟨X.tr,X.tl,X.fi,X.bd,X.fd,X.lk,dx,t,c,p,B,kf,kt,u,rfl,htr,t2,by omega,ne,F _ hB,?_⟩
 cases o with
 |none=>
  obtain⟨dx',la,x,g1,g2,g3⟩:=trO
  have eu:u= .ref la:=by
   rw[htr]at g1;have:=(HO.ins.inj (Option.some.inj g1)).2.2
   have h2:(eF X.fi X.tl u).lookup ("lacking":Str)=(eF X.fi X.tl (.ref la)).lookup ("lacking":Str):=by rw[this]
   exact Option.some.inj h2
  refine .inr (.inr (.inr ⟨⟨la,eu⟩,fun H' h1 h2=> ?_⟩));have fr:∀x ob,x≠X.fd->x≠X.tl->x≠X.tr->H x=some ob->H' x=some ob:=fun x ob _ n _ e=>h2 x ob n e
  have kt2:=S.tup hJ (fr3 fr);exact q H' _ kT (fr3 fr) (upd'.keep kt2) (.inr ⟨rfl,mk fr (h2 _ _ ne.symm e0) (by omega) r1 r2 r3 h1 ktp ⟨dx',la,x,h2 _ _ nrl g1,kt2.t _ _ g2,g3⟩⟩)
 |some τ=>
  obtain⟨⟨dx',g1⟩,us,path,hus,hkn⟩:=trO
  have eu:u= .non:=by
   rw[htr]at g1;have:=(HO.ins.inj (Option.some.inj g1)).2.2
   have h2:(eF X.fi X.tl u).lookup ("lacking":Str)=(eF X.fi X.tl .non).lookup ("lacking":Str):=by rw[this]
   exact Option.some.inj h2
  obtain⟨kk,rfl⟩:=hτ _ rfl;have path':=path.snoc
  rcases hcase with⟨ys,g,ly,nc,hru⟩|⟨g,r,hru⟩
  ·obtain⟨l,hv,hl⟩:=hJ.cols t c ys B g hB
   have hpy:p<ys.length:=by rw[ly];exact hp
   obtain⟨v,hv'⟩:∃v,ys[p]?=some v:=⟨_,List.getElem?_eq_getElem hpy⟩;have ha:=rF hv';refine .inl ⟨eu,l,ys,v,hru,nc,hv,hl,hp,ha,fun v' e=> ?_,by omega,fun H' kf' hk vk F' h1 h2=> ?_⟩
   ·have:=r2 t c p v' ys g e
    rw[ha]at this;exact(Option.some.inj this).symm
   ·have fr:∀x ob,x≠X.fd->x≠X.tl->x≠X.tr->H x=some ob->H' x=some ob:=fun x ob n1 n2 _ e=>h2 x ob n1 n2 e
    have kt2:=S.tup hJ (fr3 fr)
    have w1':eJ X.Ks kf':=by
     rcases hk with rfl|rfl
     ·exact r1
     ·exact r1.put kin
    refine q H' v (X.val (t,c,p)) (fr3 fr) ((hJ.cd t c ys p v g ha).keep kt2) (.inl ⟨kk,rfl,mk fr F'.fnd F'.len w1' (fun t' c' p' v' ys' g' e=> ?_) (fun t' c' p' g'=> ?_) h1 ktp ⟨⟨dx',h2 _ _ nrf nrl g1⟩,us++ [(t,c,p)],path',a3E (X:=X) (c:=(t,c,p)) hus _,fun y hy gy=>(List.mem_append.mp hy).elim (fun h=>hkn y h gy) (fun h=>by rw[List.mem_singleton]at h;subst h;rw[show X.gv t c=some ys from g]at gy;cases gy)⟩⟩)
    ·rcases hk with rfl|rfl
     ·exact r2 t' c' p' v' ys' g' e
     ·rw[gA]at e
      split at e
      ·next h=>
       obtain⟨rfl,rfl,rfl⟩:=a0r h;rw[g]at g';rw[<- Option.some.inj g',<- Option.some.inj e];exact ha
      ·exact r2 t' c' p' v' ys' g' e
    ·rcases hk with rfl|rfl
     ·exact r3 t' c' p' g'
     ·rw[gA,if_neg (fun h=>by
       obtain⟨rfl,rfl,rfl⟩:=a0r h;rw[g]at g'
       cases g')]
      exact r3 t' c' p' g'
  ·have k0:=r3 t c p g
   cases hv:aE kf (bE t c p)with
   |some v=>
    refine .inr (.inl ⟨eu,r,v,hru,rfl,fun H' h1 h2=> ?_⟩);have fr:∀x ob,x≠X.fd->x≠X.tl->x≠X.tr->H x=some ob->H' x=some ob:=fun x ob _ n _ e=>h2 x ob n e
    have kt2:=S.tup hJ (fr3 fr);exact q H' v (X.val (t,c,p)) (fr3 fr) ((hJ.pd (t,c,p) v hV g (by rw[<- hv];exact k0.symm)).keep kt2) (.inl ⟨kk,rfl,mk fr (h2 _ _ ne.symm e0) (by omega) r1 r2 r3 h1 ktp ⟨⟨dx',h2 _ _ nrl g1⟩,us++ [(t,c,p)],path',a3E (X:=X) (c:=(t,c,p)) hus _,fun y hy gy=>(List.mem_append.mp hy).elim (fun h=>hkn y h gy) (fun h=>by rw[List.mem_singleton]at h;subst h;rw[show aE X.kf0 (cK (t,c,p))=some v from by rw[<- hv];exact k0.symm];rfl)⟩⟩)
   |none=>
    refine .inr (.inr (.inl ⟨eu,r,hru,rfl,fun H' la h0 h1 h2 h3 h4=> ?_⟩));have fr:∀x ob,x≠X.fd->x≠X.tl->x≠X.tr->H x=some ob->H' x=some ob:=fun x ob _ n m e=>h4 x ob n m e
    have kt2:=S.tup hJ (fr3 fr);refine q H' _ kT (fr3 fr) (upd'.keep kt2) (.inr ⟨rfl,mk fr (h4 _ _ ne.symm nrf.symm e0) (by omega) r1 r2 r3 h3 ktp ⟨dx,la,(t,c,p),h2,h1,?_,hV,g,by rw[<- hv];exact k0.symm⟩⟩);rw[path.looks];exact List.mem_append_right _ aa
end
theorem rP{H₁:Hp}{f:eS}{cv:List V}{k:Nat}{spB:List V->Hp->VK->Prop}{sc:Scope}(la:gN q params body ai (fW X.env.cells ai.names []) H₁ fa)(L:lL X σ H₁ f)
 (hcell:∀x,X.env.scope.names.lookup x=some .cell->∃c,X.env.cells.lookup x=some c)
 (hcv:cp.map (fun p=>σ[p.1]?)=cv.map fun v=>some (some v))
 (hb:∀(pm ctv:Value) (c:Addr) (clos:List (Str×Addr)) (us:List Value),us.length=ps.length->bindArgs (W.kla_fn "<lambda>" q params body ai clos pm (.ref c) ctv) ⟨us,[]⟩=pure (ps.zip us))
 (hbody:∀(cd:Value) (A:Around) (ag:List Env) (s:Shared) (H:Hp) (vs:List V) (Q:VK),bV k (A.deeper (W.envX q ai s.heap.objs.size fa cd (fW X.env.cells ai.names [])))->spB vs H Q->
  ∃t,PE (sX X.prog X.w X.K X.mg X.base (ps++ cp.map (·.2)) q ai fa cd (fW X.env.cells ai.names []) A ag s H) body t/\t ((vs++ cv).map some) H Q)
 (hs:X.env.scope=sc:=by rfl)(hN:X.N=N:=by rfl)
 (hcp:∀p∈cp,N[p.1]?=some p.2/\sc.names.lookup p.2=some .cell/\ai.names.lookup p.2=some .free:=by decide+kernel)
 (free:∀y∈ai.names,y.2= .free->sc.names.lookup y.1=some .cell:=by decide+kernel)
 (kind:ai.kind= .function:=by rfl)(co:ai.isCoroutine=false:=by rfl)(gen:ai.isGenerator=false:=by rfl)(nocell:∀y∈ai.names,y.2≠ .cell:=by decide+kernel)(par:∀x∈ps,ai.names.lookup x=some .local:=by decide+kernel)(nd:(ps++ cp.map (·.2)).Nodup:=by decide+kernel):
 eT X.prog X.w X.K X.mg X.base (k+ 1) fa (mY fa f q params body ai (fW X.env.cells ai.names []) ps.length spB):=by
 subst hs hN;exact a5m L hcell hcv hcp free kind co gen nocell par nd hb hbody
theorem lT{P:Addr}(s:aF H H')(h:gM q H P):gM q H' P:=by
 obtain⟨S,e,r⟩:=h;exact⟨S,s _ _ e,fun c hc=>let ⟨o,e1,e2⟩:=r c hc;⟨o,s _ _ e1,e2⟩⟩
theorem rA{f:eS}(h:dL f H b=some o):f b=none/\H b=some o:=by
 cases e:f b with
 |none=>rw[dO e]at h;exact⟨rfl,h⟩
 |some ob=>rw[kJ e]at h;cases h
theorem zB{f:eS}(h:∀b o,f b=some o->H b=none):dL f (dE f H)=H:=by
 funext b
 cases e:f b with
 |none=>rw[dO e,dM e]
 |some ob=>rw[kJ e,h b ob e]
theorem iL(s:cD H H')(h:gN q params body ai clos H fa):gN q params body ai clos H' fa:=by
 obtain⟨pm,c,ctv,o,e1,e2,e3⟩:=h;exact⟨pm,c,ctv,o,s _ _ e1,s _ _ e2,e3⟩
def nD(f:eS)(LL:Hp->Prop)(J:Option GT->Hp->Prop)(o:Option GT)(H:Hp):Prop:=LL H/\(∀b ob,f b=some ob->H b=some (Fz ob))/\J o (dL f H)
theorem nD.st{f:eS}{W:List Addr}(S:gP J W M)(sl:∀H H',cD H H'->LL H->LL H'):gP (nD f LL J) W M where
 there:=fun o H h b mb z=>S.there _ _ h.2.2 b mb (by
  cases e:f b with
  |none=>rw[dO e];exact z
  |some ob=>exact kJ e)
 stay:=fun o H H' k kz kt h=>⟨sl _ _ kz h.1,fun b ob e=>kz _ _ (h.2.1 b ob e),S.stay _ _ _ (fun b ob mb e=>by
  obtain⟨e1,e2⟩:=rA e;rw[dO e1]
  exact k _ _ mb e2) (fun b u e=>by
  obtain⟨e1,e2⟩:=rA e;rw[dO e1]
  exact kz _ _ e2) (fun x ob hx e=>by
  obtain⟨e1,e2⟩:=rA e;rw[dO e1]
  exact kt _ _ hx e2) h.2.2⟩
 mt:=fun o H h b hb=>(S.mt o _ h.2.2 b hb).imp (fun⟨k,e⟩=>⟨k,(rA e).2⟩) (fun⟨C,dx,fs,e⟩=>⟨C,dx,fs,(rA e).2⟩)
section
variable{k:Nat}{f:eS}
theorem a02{W:List Addr}(S:gP J W M)(sl:∀H H',cD H H'->LL H->LL H'){o o':Option GT}(h:nD f LL J o H)(fr:∀b ob,f b=some ob->H' b=none)(u:dU M (dL f H) H')(j:J o' H'):dU M H (dE f H')/\nD f LL J o' (dE f H'):=by
 have f2:dU M H (dE f H'):=fun b ob n1 e=>by
  cases e2:f b with
  |none=>rw[dM e2];exact u _ _ n1 (by rw[dO e2];exact e)
  |some ob=>rw[h.2.1 b ob e2]at e;rw[mL e2];exact e
 refine⟨f2,sl _ _ (fun b u' e=>f2 _ _ (fun hm=> ?_) e) h.1,fun b ob e=>mL e,?_⟩
 ·rcases S.mt _ _ h.2.2 b hm with⟨k,e2⟩|⟨C,dx,fs,e2⟩<;>rw[(rA e2).2]at e<;>cases e
 ·rw[zB fr]
  exact j
def a0H(K:Fg)(Vc:aQ->Prop)(J:Option GT->Hp->Prop)(M:List Addr):List V->Hp->VK->Prop:=fun vs H Q=>∃(t c:Str) (p:Nat) (o:Option GT),vs= [.str t,.str c,.int (p:Int)] /\J o H/\Vc (t,c,p)/\(∀τ,o=some τ->∃k,τ= .look (t,c,p) k)/\
 ∀H' v d,dU M H H'->Pd K H' v d->((∃k,o=some (.look (t,c,p) k)/\J (some (k d)) H')\/ (d=kT/\J none H'))->Q v H'
theorem a8c{W:List Addr}(S:gP J W M)(sl:∀H H',cD H H'->LL H->LL H')(la:∀H,LL H->gN q params body ai clos H fa)
 (F:eT P w K mg af k fa (mY fa f q params body ai clos 3 (a0H K Vc J M))):eT P w K mg af k fa (oG K Vc (nD f LL J) M):=by
 refine F.imp fun vs H Q E h=> ?_
 obtain⟨t,c,p,o,rfl,hJ,hV,hτ,qq⟩:=h;refine⟨rfl,la _ hJ.1,hJ.2.1,t,c,p,o,rfl,hJ.2.2,hV,hτ,fun H' v d fm pd en fr=> ?_⟩;have kt:eI H' (dE f H'):=fun x ob _ e=>by
  cases e2:f x with
  |none=>rw[dM e2];exact e
  |some ob2=>rw[fr x ob2 e2]at e;cases e
 rcases en with⟨kk,e1,j⟩|⟨rfl,j⟩
 ·obtain⟨f2,j2⟩:=a02 S sl hJ fr fm j
  exact qq _ v d f2 (pd.keep kt) (.inl ⟨kk,e1,j2⟩)
 ·obtain⟨f2,j2⟩:=a02 S sl hJ fr fm j
  exact qq _ v _ f2 (pd.keep kt) (.inr ⟨rfl,j2⟩)
def a0E(J:Option GT->Hp->Prop)(mv:Str->Nat->Prop):List V->Hp->VK->Prop:=fun vs H Q=>∃(t:Str) (m:Nat) (o:Option GT),vs= [.str t] /\mv t m/\J o H/\∀H',aF H H'->Q (.int (m:Int)) H'
theorem a6y{mv:Str->Nat->Prop}(la:∀H,LL H->gN q params body ai clos H fa)
 (F:eT P w K mg af k fa (mY fa f q params body ai clos 1 (a0E J mv))):eT P w K mg af k fa (xM (nD f LL J) mv):=by
 refine F.imp fun vs H Q E h=> ?_
 obtain⟨t,m,o,rfl,hm,hJ,qq⟩:=h;refine⟨rfl,la _ hJ.1,hJ.2.1,t,m,o,rfl,hm,hJ.2.2,fun H' s' fr=> ?_⟩;refine qq _ (fun b ob e=> ?_)
 cases e2:f b with
 |none=>rw[dM e2];exact s' b ob (by rw[dO e2];exact e)
 |some ob=>rw[hJ.2.1 b ob e2]at e;rw[mL e2];exact e
end
theorem a5y{k:Nat}{q':Str}{params':Arguments}{body':Expr}{scope':Scope}{clos':List (Str×Addr)}{lm:Addr}{f:eS}{W:List Addr}{mv:Str->Nat->Prop}{o:Option GT}(S:gP J W M)(free:∀b ob,f b=some ob->H b=none)(hJ:J o H)(lA:gN q params body ai clos H la)(lB:gN q' params' body' scope' clos' H lm)
 (F1:eT P w K mg af k la (mY la f q params body ai clos 3 (a0H K Vc J M)))(F2:eT P w K mg af k lm (mY lm f q' params' body' scope' clos' 1 (a0E J mv))):
 ∃J',J' o (dE f H)/\gP J' W M/\(∀o1 H1,J' o1 H1->(∀b ob,f b=some ob->H1 b=some (Fz ob))/\J o1 (dL f H1))/\eT P w K mg af k la (oG K Vc J' M)/\eT P w K mg af k lm (xM J' mv):=by
 have st:∀H H':Hp,cD H H'->(gN q params body ai clos H la/\gN q' params' body' scope' clos' H lm)->gN q params body ai clos H' la/\gN q' params' body' scope' clos' H' lm:=fun H H' s h=>⟨iL s h.1,iL s h.2⟩
 have kz:cD H (dE f H):=fun b u e=>by
  cases e2:f b with
  |none=>rw[dM e2];exact e
  |some ob=>rw[free b ob e2]at e;cases e
 refine⟨nD f (fun H=>gN q params body ai clos H la/\gN q' params' body' scope' clos' H lm) J,⟨st _ _ kz ⟨lA,lB⟩,fun b ob e=>mL e,?_⟩,nD.st S st,fun o1 H1 h=>h.2,a8c S st (fun H h=>h.1) F1,a6y (fun H h=>h.2) F2⟩;rw[zB free];exact hJ
abbrev nA:Str:=("Finder.gathered":Str)++ ".<locals>." ++ "<lambda>"
section
inductive a0d(P:Program)(w:World)(K:Fg)(mg:Str->Option Value)(af:Heap)(CR CF CB CT zt:Addr)(RG:Addr->Sp->Prop)(vs:List V)(H:Hp)(Q:VK)(E:XK):Prop
 |mk (X:jV) (W ft:List Addr) (gr dx CG:Addr) (spg:Sp) (fs:List (Str×V)) (nm c:Str) (B:BM) (p:Nat):vs= [.ref X.fi,.ref X.tr,.str nm,.str c,.int (p:Int)] ->JT K CR CF CB CT X (some X.t0) H->X.tl≠X.fd->OkT X.tabs X.Ks X.gv X.Vc->vJ X W->zt∉W->(nm,B)∈X.tabs->aE B.rus (.inr c:aB)=some (.ref gr)->H gr=some (.ins CG dx fs)->gr≠X.tr->RG CG spg->fs.lookup ("gather":Str)=none->gM nA H zt->zt∉ft->lS P w K mg af spg gr ft X.tabs X.Vc nm c p X.t0 H->(∀H' fv tf,(∀b o,b≠X.fd->b≠X.tl->b≠X.tr->b≠zt->H b=some o->H' b=some o)->gM nA H' zt->oV K H H' fv tf->(JT K CR CF CB CT X (some (.done tf)) H'\/ JT K CR CF CB CT X none H')->Q fv H')->a0d P w K mg af CR CF CB CT zt RG vs H Q E
abbrev lI:List Str:=["self","trial","table","column","place"]
theorem a6o:aY lI lI (aL iI):={}
theorem a7b(T:bA K mg){CR:Addr}(R:mR K mg CR)(Y:fO K mg CF)(Wb:cY K mg CB)(Z:dQ K mg CT){z:Addr×Addr}(B2:kO K mg "Finder" "gathered" "Finder.gathered" iI z)(M:jQ mg af z.1 z.2)(hRG:∀C sp,RG C sp->cG K C/\aS P w K mg af aD 8 C "gather" ["self","look","many","table","column","place"] sp):aS P w K mg af aD 9 CF "gathered" lI (a0d P w K mg af CR CF CB CT z.2 RG):=by
 obtain⟨pU,hpU,hU⟩:=T.g_UNKNOWN;have G_look:aS P w K mg af aD 5 CR "look" ["self","table","column","place"] (wZ CR CF CB CT pU):=a8B T hpU R Y Wb Z;have G_many:aS P w K mg af aD 1 CT "many" ["self"] (mK CT):=nR T Z;refine B2.known Y.c a6o (fun _ _ _ _ _ _ us hl=>pP (fun _ _ _ _ _=>rfl) us hl) (fun vs H Q E h=> ?_) (fun f A ag s H vs Q E hr h=> ?_)
 ·obtain⟨X,W,ft,gr,dx,CG,spg,fs,nm,c,B,p,rfl,_⟩:=h
  rfl
 ·obtain⟨X,W,ft,gr,dx,CG,spg,fs,nm,c,B,p,rfl,hJ,netl,O,wof,nzW,hB,hru,hgr,ngt,hG,hno,tb,nft,use,q⟩:=h
  have S:=JT.st (K:=K) (CR:=CR) (CF:=CF) (CB:=CB) (CT:=CT) wof;have hu:=dY hr;have hcl:∀x,(dF aD P w K mg af lI "Finder.gathered" (aL iI) f (.ref z.1) A ag s H E).nox.env.scope.names.lookup x=some .cell->∃c,(dF aD P w K mg af lI "Finder.gathered" (aL iI) f (.ref z.1) A ag s H E).nox.env.cells.lookup x=some c:=fun x hx=>Option.isSome_iff_exists.mp (PySem.W.cellsFrom_some _ _ _ (.inl hx))
  refine⟨_,(aK (bH (a80 (gE hu (aV (gE hu (aV (pv 0) rfl) (pv 2) (fun _ _=>rfl)) rfl) (pv 3) (fun _ _=>rfl)) hRG hr (aA (rC M rfl (mD (sc:=aL iI) (N:=lI) (cp:=[(1,"trial")]) hcl).clos rfl) (aA (rC M rfl (mD (sc:=aL iI) (N:=lI) (cp:=[(0,"self")]) hcl).clos rfl) (aA (pv 2) (aA (pv 3) (aA (pv 4) aG)))))))),?_⟩;obtain⟨kf,F0,e0,r1,r2,r3⟩:=hJ.kf;have F:=F0 _ hB;obtain⟨d0,e1⟩:=F.fin;obtain⟨kb,e2,e3⟩:=F.bds;obtain⟨⟨d1,b1⟩,_,b5,_,_⟩:=id F.B;refine⟨_,rfl,X.fi,CF,d0,_,_,rfl,e1,Y.cl,Y.n_boards,(jO _ _ _).1,_,rfl,X.bd,_,rfl,e3▸bU.k (k:=Sum.inr nm) e2,B.b,CB,d1,_,_,rfl,b1,Wb.cl,Wb.n_rules,(dN _ _ _ _).2.1,_,rfl,B.ru,_,rfl,hru▸bU.k (k:=Sum.inr c) b5,CG,spg,gr,dx,_,hG,rfl,hgr,hno,tb,fun la HA hla sA tA lA=>⟨tA,fun lm HB hlm sB tB lB=>⟨_,rfl,_,rfl,_,rfl,fun f' Ln=> ?_⟩⟩⟩;obtain⟨S0,t0,_⟩:=id tb;have uB:pY z.2 H HB:=fun b o n e=>sB b o n (sA b o n e)
  have nz:∀{b:Addr} {o:HO},H b=some o->(∀φ,o≠ .ext φ)->b≠z.2:=fun e n y=>by rw[y,t0]at e;exact n _ (Option.some.inj e).symm
  obtain⟨SA,tA0,_⟩:=id tA;have kzAB:cD HA HB:=fun b u e=>sB _ _ (fun y=>by rw[y,tA0]at e;cases e) e
  have kzB:cD H HB:=fun b u e=>uB _ _ (nz e (fun φ y=>by cases y)) e
  have ktB:eI H HB:=fun b u hx e=>uB _ _ (nz e (fun φ y=>by obtain⟨xs,rfl|⟨q,rfl⟩⟩:=hx<;>cases y)) e
  have JB:JT K CR CF CB CT X (some X.t0) HB:=S.stay _ _ _ (fun b o mb e=>uB _ _ (fun y=>nzW (y▸mb)) e) kzB ktB hJ
  have F1:=rP (sc:=aL iI) (N:=lI) (ps:=["theirs","name","row"]) (cp:=[(1,"trial")]) (cv:=[.ref X.tr]) (k:=5) (spB:=a0H K X.Vc (JT K CR CF CB CT X) [X.fd,X.tl,X.tr]) (iL kzAB lA) Ln hcl rfl (fun _ _ _ _ us hl=>jN (fun _ _ _=>rfl) us hl) (fun cd A' outer' s' H' vs Q' hr' h'=>by
   obtain⟨t',c',p',o',rfl,hJ',hV',hτ',q'⟩:=h';refine⟨_,(cF (pv 3) R.cl G_look hr' aO (aA (pv 0) (aA (pv 1) (aA (pv 2) aG)))),?_⟩;obtain⟨kt',t2,t3,trO⟩:=hJ'.tl;obtain⟨d3,u,t1⟩:=trO.tr
   exact⟨_,rfl,X.tr,d3,_,rfl,t1,(rM _ _ _).2.2.2,_,rfl,_,rfl,_,rfl,JT.look hU wof netl O hJ' hV' hτ' q'⟩)
  have F2:=rP (sc:=aL iI) (N:=lI) (ps:=["theirs"]) (cp:=[(0,"self")]) (cv:=[.ref X.fi]) (k:=5) (spB:=a0E (JT K CR CF CB CT X) (mvX X.tabs)) lB Ln hcl rfl (fun _ _ _ _ us hl=>eU (fun _=>rfl) us hl) (fun cd A' outer' s' H' vs Q' hr' h'=>by
   obtain⟨t',m',o',rfl,⟨B',hB',rfl⟩,hJ',q'⟩:=h';refine⟨_,(mU (aV (gE (dY hr') (aV (pv 1) rfl) (pv 0) (fun _ _=>rfl)) rfl) Z.cl G_many (hr'.mono (by decide)) aO),?_⟩;obtain⟨kf',F0',_⟩:=hJ'.kf;have F':=F0' _ hB';obtain⟨d0',e1'⟩:=F'.fin;obtain⟨kb',e2',e3'⟩:=F'.bds;obtain⟨⟨d1',b1'⟩,tb',_,_,_⟩:=id F'.B;obtain⟨⟨d2',b2'⟩,_,_⟩:=id tb'
   exact⟨_,rfl,X.fi,CF,d0',_,_,rfl,e1',Y.cl,Y.n_boards,(jO _ _ _).1,_,rfl,X.bd,_,rfl,e3'▸bU.k (k:=Sum.inr t') e2',B'.b,CB,d1',_,_,rfl,b1',Wb.cl,Wb.n_given,(dN _ _ _ _).1,B'.g,d2',_,rfl,b2',iS,B'.g,B'.r,B'.e,B'.xs,B'.n,B'.kvs,rfl,tb',q' _ (aF.refl _)⟩)
  obtain⟨J',j1,S',j2,L1,L2⟩:=a5y S Ln.free JB (iL kzAB lA) lB F1 F2;have nofL:∀b o,HB b=some o->f' b=none:=fun b o e=>by
   cases e2:f' b with
   |none=>rfl
   |some ob=>rw[Ln.free b ob e2]at e;cases e
  have sL:aF HB (dE f' HB):=fun b o e=>by rw[dM (nofL b o e)];exact e
  have ngM:gr∉ [X.fd,X.tl,X.tr]:=fun hm=>by
   simp only[List.mem_cons,List.not_mem_nil,or_false]at hm;obtain⟨kt',t2,_⟩:=hJ.tl
   rcases hm with h|h|h
   ·rw[h,e0]at hgr;cases hgr
   ·rw[h,t2]at hgr;cases hgr
   ·exact ngt h
  refine use la lm J' W [X.fd,X.tl,X.tr] (dE f' HB) _ (fun b hb o e=>sL _ _ (uB _ _ (fun y=>nft (y▸hb)) e)) ngM j1 S' L1 L2 fun H' fv tf fr told J2=> ?_
  have lf:∀b ob,f' b=some ob->H' b=some (Fz ob):=J2.elim (fun h=>(j2 _ _ h).1) (fun h=>(j2 _ _ h).1);have JJ:JT K CR CF CB CT X (some (.done tf)) (dL f' H')\/ JT K CR CF CB CT X none (dL f' H'):=J2.imp (fun h=>(j2 _ _ h).2) (fun h=>(j2 _ _ h).2);have KN:∀{b:Addr} {o:HO},(∀u,o≠Fz u)->H' b=some o->dL f' H' b=some o:=fun{b o} n e=>by
   cases e2:f' b with
   |none=>rw[dO e2];exact e
   |some ob=>rw[lf b ob e2]at e;exact absurd (Option.some.inj e).symm (n ob)
  have up:∀{b:Addr} {o:HO},b∉ [X.fd,X.tl,X.tr] ->HB b=some o->dL f' H' b=some o:=fun{b o} n1 e=>by
   rw[dO (nofL b o e)];exact fr _ _ n1 (sL _ _ e)
  refine q _ fv tf (fun b o n1 n2 n3 n4 e=>up (by simp only[List.mem_cons,List.not_mem_nil,or_false,not_or];exact⟨n1,n2,n3⟩) (uB _ _ n4 e)) ?_ ?_ JJ
  ·obtain⟨SB,tB0,tB1⟩:=tB
   refine⟨SB,up (S.out JB tB0 nk (fun _ _ _ y=>by cases y)) tB0,fun c' hc'=> ?_⟩;obtain⟨o,o1,o2⟩:=tB1 c' hc';exact⟨o,up (S.out JB o1 nk (fun _ _ _ y=>by cases y)) o1,o2⟩
  ·have ktu:eI H' (dL f' H'):=fun a o hx e=>KN (fun u y=>by obtain⟨xs,rfl|⟨q,rfl⟩⟩:=hx<;>(unfold Fz at y;cases y)) e
   cases tf with
   |inl d=>
    obtain⟨a,v,r1',r2',r3'⟩:=told;exact⟨a,v,r1',ktu.t _ _ r2',r3'.keep ktu⟩
   |inr is=>
    obtain⟨a,l,r1',r2',r3',r4'⟩:=told;refine⟨a,l,r1',ktu.t _ _ r2',KN (fun u y=>by cases y) r3',?_⟩
    cases e:H l with
    |none=>rfl
    |some o=>
     exfalso;by_cases y:l=z.2
     ·rw[y]at r4'
      obtain⟨SB,tB0,_⟩:=tB;rw[sL _ _ tB0]at r4';cases r4'
     ·rw[sL _ _ (uB _ _ y e)]at r4'
      cases r4'
end
structure RD where
 gr:Addr
 fa:Addr
 mc:Addr
 CG:Addr
 fs:List (Str×V)
 ft:List Addr
 mrk:Option V
 g:List Int->PyData
 ok:List Int->Prop
 spg:Sp
structure SX where
 fi:Addr
 bd:Addr
 fd:Addr
 lk:Addr
 tabs:List (Str×BM)
 Ks:List Ky
 gv:Str->Str->Option (List V)
 Vc:aQ->Prop
 val:aQ->PyData
 rl:Str->Str->Option RD
 tree:aQ->GT
 rk:aQ->Nat
 Rs:List aQ
 num:Str->Nat->Nat
 bnd:Nat
 ca:Option Addr
 fx:List Addr
 abn:Str->Nat->Prop
 wa:Str->Str->Nat->Option (List Int×V)
def zS(g:List Int->PyData):PyData ⊕ List Int->PyData
 | .inl d=>d
 | .inr is=>eX (g is)
structure iT(X:SX):Prop where
 o:OkT X.tabs X.Ks X.gv X.Vc
 un:∀t B B',(t,B)∈X.tabs->(t,B')∈X.tabs->B=B'
 rr:∀x,X.Vc x->X.gv x.1 x.2.1=none->∃R,X.rl x.1 x.2.1=some R
 ru:∀t c R B,X.rl t c=some R->(t,B)∈X.tabs->aE B.rus (.inr c:aB)=some (.ref R.gr)/\aE B.mes (.inr c:aB)=some (.ref R.mc)
 no:∀t c R,X.rl t c=some R->X.gv t c=none
 rf:∀t c R,X.rl t c=some R->RF R.fs R.fa/\R.fs.lookup ("gather":Str)=none
 gg:∀t c R,X.rl t c=some R->∀is,R.ok is->iK (R.g is)/\Vd (eX (R.g is))
 ft:∀t c R,X.rl t c=some R->R.gr∈R.ft/\∀b∈R.ft,X.ca≠some b
 mb:∀t c R,X.rl t c=some R->R.mc≠X.bd
 mm:∀t c R,X.rl t c=some R->∀tb∈X.tabs,R.mc≠tb.2.e/\R.mc≠tb.2.ru/\R.mc≠tb.2.me
 md:∀t c R t' c' R',X.rl t c=some R->X.rl t' c'=some R'->R.mc=R'.mc->t=t'/\c=c'
 cc:∀tb∈X.tabs,X.ca≠some tb.2.r/\X.ca≠some tb.2.od
 cl:∀t c ys B l,X.gv t c=some ys->(t,B)∈X.tabs->aE B.kvs (.inr c:aB)=some (.ref l)->X.ca≠some l
 fl:X.fd≠X.lk
 nu:∀t B p,(t,B)∈X.tabs->p<B.xs.length->cL B.xs (p:Int)=some (.int ((X.num t p:Nat):Int))/\X.num t p<X.bnd
 ni:∀t B p p',(t,B)∈X.tabs->p<B.xs.length->p'<B.xs.length->X.num t p=X.num t p'->p=p'
 b8:X.bnd<=85
 ab:∀t B p j,(t,B)∈X.tabs->p<B.xs.length->X.abn t j->X.num t p≠j
 cf:∀a,X.ca=some a->a∈X.fx
 rs:∀x,X.Vc x->X.gv x.1 x.2.1=none->x∈X.Rs
 rs':∀x∈X.Rs,X.gv x.1 x.2.1=none
 rn:X.Rs.Nodup
 sem:∀x R,X.Vc x->X.rl x.1 x.2.1=some R->X.val x=zS R.g ((X.tree x).run X.val)
 lks:∀x R,X.Vc x->X.rl x.1 x.2.1=some R->∀y∈(X.tree x).looks X.val,X.Vc y/\(X.gv y.1 y.2.1=none->X.rk y<X.rk x)
 oks:∀x R,X.Vc x->X.rl x.1 x.2.1=some R->∀is,(X.tree x).run X.val= .inr is->R.ok is/\is.length<=100
theorem iT.B{X:SX}(O:iT X){x:aQ}(h:X.Vc x):∃B,(x.1,B)∈X.tabs/\x.2.2<B.xs.length:=by
 obtain⟨_,B,h1,h2,_⟩:=O.o.v x h;exact⟨B,h1,h2⟩
def kI(n:Nat)(mk:List (aB×V)):Prop:=(mk.map (·.1)).Nodup/\∀k∈mk.map (·.1),∃j:Nat,k=(.inl (j:Int):aB)/\j<n
theorem kI.len(h:kI n mk):mk.length<=n:=by
 have h2:=tO (m:=(List.range n).map fun j:Nat=>(.inl (j:Int):aB)) h.1 (fun x hx=>by
  obtain⟨j,rfl,hj⟩:=h.2 x hx
  exact List.mem_map.mpr ⟨j,List.mem_range.mpr hj,rfl⟩)
 rw[List.length_map,List.length_map,List.length_range]at h2;exact h2
theorem kI.nil:kI n []:=⟨List.nodup_nil,fun k hk=>by cases hk⟩
theorem a7Q{κ:Type} [DecidableEq κ]{kvs:List (κ×V)}{k:κ}{v x:V}(h:aE kvs k=some x):(aR kvs k v).map (·.1)=kvs.map (·.1):=by
 unfold aR;rw[mX,h,if_pos (show(some x).isSome=true from rfl),List.map_map];refine List.map_congr_left fun p _=> ?_
 show(if p.1=k then _ else _:κ×V).1=p.1;split<;>rfl
theorem kI.put{v:V}(h:kI n mk)(hj:j<n):kI n (aR mk (.inl (j:Int):aB) v):=by
 cases e:aE mk (.inl (j:Int):aB)with
 |some x=>
  have:(aR mk (.inl (j:Int):aB) v).map (·.1)=mk.map (·.1):=a7Q e;exact⟨by rw[this];exact h.1,fun k hk=>h.2 k (by rw[<- this];exact hk)⟩
 |none=>
  refine⟨a07 v h.1 e,fun k hk=> ?_⟩;rw[sH v e,List.map_append]at hk
  rcases List.mem_append.mp hk with hk|hk
  ·exact h.2 k hk
  ·rw[List.map_cons,List.map_nil,List.mem_singleton]at hk
   exact⟨j,hk,hj⟩
def iB(fx:List Addr)(H:Hp)(mk:List (aB×V))(n:Int):Option (List Int×V)->Prop
 |none=>aE mk (.inl n:aB)=none
 |some jv=>∃tp lo,aE mk (.inl n:aB)=some (.ref tp)/\H tp=some (.tup [.ref lo,jv.2])/\H lo=some (.lst (jv.1.map V.int))/\lo∉fx
theorem iB.mv{fx:List Addr}{mk':List (aB×V)}{n:Int}(e:aE mk' (.inl n:aB)=aE mk (.inl n:aB))(k:bQ H H')(u:∀b ys,b∉fx->H b=some (.lst ys)->H' b=some (.lst ys)):∀{wo:Option (List Int×V)},iB fx H mk n wo->iB fx H' mk' n wo
 |none,h=>by show aE mk' _=none;rw[e];exact h
 |some jv,⟨tp,lo,a,b,c,d⟩=>⟨tp,lo,by rw[e];exact a,k _ _ b,u _ _ d c,d⟩
def mM(fx:List Addr)(H:Hp)(v:V)(n:Option V×List Int):Prop:=∃lc,uD H n.1 n.2 v lc/\lc∉fx
theorem mM.mv{fx:List Addr}{v:V}{n:Option V×List Int}(k:bQ H H')(u:∀b ys,b∉fx->H b=some (.lst ys)->H' b=some (.lst ys))(h:mM fx H v n):mM fx H' v n:=by
 obtain⟨lc,h1,h2⟩:=h;exact⟨lc,h1.mv k (u _ _ h2 h1.1),h2⟩
section
structure SB(P:Program)(w:World)(K:Fg)(mg:Str->Option Value)(af:Heap)(RG:Addr->Sp->Prop)(CF CB CT zt:Addr)(X:SX)(kf kl:List (Ky×V))(mem:Str->Str->List (aB×V))(wo:aQ->Option (List Int×V))(cs:List V)(ns:List (Option V×List Int))(H:Hp):Prop where
 F:∀tb∈X.tabs,dR CF CB CT H X.fi X.bd X.fd X.lk tb.1 tb.2 kf
 fd:H X.fd=some (.dT kf)
 ko:eJ X.Ks kf
 fo:∀t c p v ys,X.gv t c=some ys->aE kf (bE t c p)=some v->cL ys (p:Int)=some v
 fp:∀x v,X.Vc x->X.gv x.1 x.2.1=none->aE kf (cK x)=some v->Pd K H v (X.val x)/\∀is,(X.tree x).run X.val= .inr is->wo x=some (is,v)
 lp:∀x v,X.Vc x->X.gv x.1 x.2.1=none->aE kf (cK x)=some v->∃tl kt,aE kl (cK x)=some (.ref tl)/\H tl=some (.dT kt)/\tl≠X.fd/\tl≠X.lk/\eJ X.Ks kt/\∀y,(aE kt (cK y)).isSome=true↔y∈(X.tree x).looks X.val
 ln:∀x,X.Vc x->X.gv x.1 x.2.1=none->aE kf (cK x)=none->aE kl (cK x)=none
 cz:∀x v,X.Vc x->X.gv x.1 x.2.1=none->aE kf (cK x)=some v->∀y∈(X.tree x).looks X.val,X.gv y.1 y.2.1=none->(aE kf (cK y)).isSome=true
 hl:H X.lk=some (.dT kl)
 lo:eJ X.Ks kl
 cols:∀t c ys B,X.gv t c=some ys->(t,B)∈X.tabs->∃l,aE B.kvs (.inr c:aB)=some (.ref l)/\H l=some (.lst ys)
 cd:∀t c ys (p:Nat) v,X.gv t c=some ys->cL ys (p:Int)=some v->Pd K H v (X.val (t,c,p))
 rg:∀t c R,X.rl t c=some R->(∃dx,H R.gr=some (.ins R.CG dx R.fs))/\RG R.CG R.spg/\qX K R.CG
 rm:∀t c R,X.rl t c=some R->H R.mc=some (.dK (mem t c))/\kI X.bnd (mem t c)
 rt:∀t c R,X.rl t c=some R->∀b∈R.ft,∃o,H b=some o/\(∀y,o≠ .dT y)/\(∀y,o≠ .dK y)/\(∀y,o≠ .ext y)/\∀u,o≠Fz u
 ra:∀t c R,X.rl t c=some R->∀p,X.Vc (t,c,p)->lS P w K mg af R.spg R.gr R.ft X.tabs X.Vc t c p (X.tree (t,c,p)) H
 me:∀x R,X.Vc x->X.rl x.1 x.2.1=some R->iB X.fx H (mem x.1 x.2.1) (X.num x.1 x.2.2:Int) (wo x)/\∀is v,wo x=some (is,v)->Pd K H v (eX (R.g is))
 ab:∀t c R j,X.rl t c=some R->X.abn t j->iB X.fx H (mem t c) (j:Int) (X.wa t c j)/\∀is v,X.wa t c j=some (is,v)->Pd K H v (eX (R.g is))
 ca:fL X.ca cs H
 nt:X.ca≠none->Paired (mM X.fx H) cs ns
 fx:∀b∈X.fx,H b≠none
 tb:gM nA H zt
def mW(P:Program)(w:World)(K:Fg)(mg:Str->Option Value)(af:Heap)(X:SX)(H:Hp):Prop:=∀t c R,X.rl t c=some R->nK P w K mg af 4 H R.fa X.ca R.mrk R.g R.ok
theorem mW.keep{X:SX}(k:cD H H')(h:mW P w K mg af X H):mW P w K mg af X H':=fun t c R e=>(h t c R e).keep k
variable{X:SX}
def dP(X:SX)(zt:Addr)(H H':Hp):Prop:=∀b o,b≠X.fd->b≠X.lk->b≠zt->X.ca≠some b->(∀t c R,X.rl t c=some R->b≠R.mc)->H b=some o->H' b=some o
theorem dP.of(s:aF H H'):dP X zt H H':=fun b o _ _ _ _ _ e=>s _ _ e
theorem dP.trans(a:dP X zt H H1)(b:dP X zt H1 H2):dP X zt H H2:=fun x o n1 n2 n3 n4 n5 e=>b x o n1 n2 n3 n4 n5 (a x o n1 n2 n3 n4 n5 e)
theorem SB.k(S:SB P w K mg af RG CF CB CT zt X kf kl mem wo cs ns H)(f:dP X zt H H')(e:H b=some o)(n1:∀y,o≠ .dT y)(n2:∀y,o≠ .dK y)(n3:∀y,o≠ .ext y)(n4:X.ca≠some b):H' b=some o:=by
 obtain⟨Sz,tz,_⟩:=S.tb;exact f b o (fun y=>by rw[y,S.fd]at e;exact n1 _ (Option.some.inj e).symm) (fun y=>by rw[y,S.hl]at e;exact n1 _ (Option.some.inj e).symm) (fun y=>by rw[y,tz]at e;exact n3 _ (Option.some.inj e).symm) n4 (fun t c R hR y=>by rw[y,(S.rm t c R hR).1]at e;exact n2 _ (Option.some.inj e).symm) e
theorem SB.nl(S:SB P w K mg af RG CF CB CT zt X kf kl mem wo cs ns H)(e:H b=some o)(n:∀y,o≠ .lst y):X.ca≠some b:=S.ca.ne e n
theorem SB.ktt(S:SB P w K mg af RG CF CB CT zt X kf kl mem wo cs ns H)(f:dP X zt H H'):eI H H':=fun x o hx e=>S.k f e (fun y z=>by obtain⟨xs,rfl|⟨q,rfl⟩⟩:=hx<;>cases z) (fun y z=>by obtain⟨xs,rfl|⟨q,rfl⟩⟩:=hx<;>cases z) (fun y z=>by obtain⟨xs,rfl|⟨q,rfl⟩⟩:=hx<;>cases z) (S.nl e (fun y z=>by obtain⟨xs,rfl|⟨q,rfl⟩⟩:=hx<;>cases z))
theorem SB.kz(S:SB P w K mg af RG CF CB CT zt X kf kl mem wo cs ns H)(f:dP X zt H H'):cD H H':=fun x u e=>S.k f e (fun y z=>by cases z) (fun y z=>by cases z) (fun y z=>by cases z) (S.nl e (fun y z=>by cases z))
theorem SB.kl'(S:SB P w K mg af RG CF CB CT zt X kf kl mem wo cs ns H)(O:iT X)(f:dP X zt H H'):∀b ys,b∉X.fx->H b=some (.lst ys)->H' b=some (.lst ys):=fun b ys n e=>S.k f e (fun y z=>by cases z) (fun y z=>by cases z) (fun y z=>by cases z) (fun y=>n (O.cf b y))
theorem SB.to(S:SB P w K mg af RG CF CB CT zt X kf kl mem wo cs ns H)(O:iT X)(f:dP X zt H H'){kl':List (Ky×V)}{mem':Str->Str->List (aB×V)}
 (hfd:H' X.fd=some (.dT kf'))(ko:eJ X.Ks kf')(fo:∀t c p v ys,X.gv t c=some ys->aE kf' (bE t c p)=some v->cL ys (p:Int)=some v)
 (fp:∀x v,X.Vc x->X.gv x.1 x.2.1=none->aE kf' (cK x)=some v->Pd K H' v (X.val x)/\∀is,(X.tree x).run X.val= .inr is->wo' x=some (is,v))
 (lp:∀x v,X.Vc x->X.gv x.1 x.2.1=none->aE kf' (cK x)=some v->∃tl kt,aE kl' (cK x)=some (.ref tl)/\H' tl=some (.dT kt)/\tl≠X.fd/\tl≠X.lk/\eJ X.Ks kt/\∀y,(aE kt (cK y)).isSome=true↔y∈(X.tree x).looks X.val)
 (ln:∀x,X.Vc x->X.gv x.1 x.2.1=none->aE kf' (cK x)=none->aE kl' (cK x)=none)
 (cz:∀x v,X.Vc x->X.gv x.1 x.2.1=none->aE kf' (cK x)=some v->∀y∈(X.tree x).looks X.val,X.gv y.1 y.2.1=none->(aE kf' (cK y)).isSome=true)
 (hl:H' X.lk=some (.dT kl'))(lo:eJ X.Ks kl')(rm:∀t c R,X.rl t c=some R->H' R.mc=some (.dK (mem' t c))/\kI X.bnd (mem' t c))
 (me:∀x R,X.Vc x->X.rl x.1 x.2.1=some R->iB X.fx H' (mem' x.1 x.2.1) (X.num x.1 x.2.2:Int) (wo' x)/\∀is v,wo' x=some (is,v)->Pd K H' v (eX (R.g is)))
 (ab:∀t c R j,X.rl t c=some R->X.abn t j->iB X.fx H' (mem' t c) (j:Int) (X.wa t c j)/\∀is v,X.wa t c j=some (is,v)->Pd K H' v (eX (R.g is)))
 (ca:fL X.ca cs' H')(nt:X.ca≠none->Paired (mM X.fx H') cs' ns')(tb:gM nA H' zt):SB P w K mg af RG CF CB CT zt X kf' kl' mem' wo' cs' ns' H':=by
 have kt:=S.ktt f;have l8:=ko.len;have k8:=O.o.k8;have kd:∀{b:Addr} {y:List (aB×V)},H b=some (.dK y)->(∀t c R,X.rl t c=some R->b≠R.mc)->H' b=some (.dK y):=fun{b y} e n=>by
  obtain⟨Sz,tz,_⟩:=S.tb;exact f b _ (fun y=>by rw[y,S.fd]at e;cases e) (fun y=>by rw[y,S.hl]at e;cases e) (fun y=>by rw[y,tz]at e;cases e) (S.nl e (fun _ z=>by cases z)) n e
 have ki:∀{b C dx:Addr} {fs:List (Str×V)},H b=some (.ins C dx fs)->H' b=some (.ins C dx fs):=fun e=>S.k f e (fun _ z=>by cases z) (fun _ z=>by cases z) (fun _ z=>by cases z) (S.nl e (fun _ z=>by cases z))
 have kls:∀{b:Addr} {xs:List V},H b=some (.lst xs)->X.ca≠some b->H' b=some (.lst xs):=fun e n=>S.k f e (fun _ z=>by cases z) (fun _ z=>by cases z) (fun _ z=>by cases z) n
 refine⟨fun tb htb=> ?_,hfd,ko,fo,fp,lp,ln,cz,hl,lo,fun t c ys B g h=> ?_,fun t c ys p v a b=>(S.cd t c ys p v a b).keep kt,fun t c R hR=> ?_,rm,fun t c R hR b hb=> ?_,fun t c R hR p hp=> ?_,me,ab,ca,nt,fun b hb y=> ?_,tb⟩
 ·obtain⟨d0,e1⟩:=(S.F tb htb).fin
  obtain⟨kb,e2,e3⟩:=(S.F tb htb).bds;obtain⟨⟨d1,b1⟩,⟨⟨d2,b2⟩,b3,b4⟩,b5,b6,b7⟩:=(S.F tb htb).B;exact⟨⟨d0,ki e1⟩,⟨kb,kd e2 (fun t c R h=>(O.mb t c R h).symm),e3⟩,⟨⟨d1,ki b1⟩,⟨⟨d2,ki b2⟩,kls b3 (O.cc tb htb).1,kd b4 (fun t c R h=>(O.mm t c R h tb htb).1.symm)⟩,kd b5 (fun t c R h=>(O.mm t c R h tb htb).2.1.symm),kd b6 (fun t c R h=>(O.mm t c R h tb htb).2.2.symm),kls b7 (O.cc tb htb).2⟩,hfd,by omega⟩
 ·obtain⟨l,h1,h2⟩:=S.cols t c ys B g h
  exact⟨l,h1,kls h2 (O.cl t c ys B l g h h1)⟩
 ·obtain⟨⟨dx,e⟩,h1⟩:=S.rg t c R hR
  exact⟨⟨dx,ki e⟩,h1⟩
 ·obtain⟨o,e,n1,n2,n3,n4⟩:=S.rt t c R hR b hb
  exact⟨o,S.k f e n1 n2 n3 ((O.ft t c R hR).2 b hb),n1,n2,n3,n4⟩
 ·refine(S.ra t c R hR p hp).mv fun b hb o e=> ?_
  obtain⟨o',e',n1,n2,n3,n4⟩:=S.rt t c R hR b hb;rw[e]at e';cases e';exact S.k f e n1 n2 n3 ((O.ft t c R hR).2 b hb)
 ·cases e:H b with
  |none=>exact S.fx b hb e
  |some o=>
   by_cases h1:b=X.fd
   ·rw[h1,hfd]at y;cases y
   ·by_cases h2:b=X.lk
    ·rw[h2,hl]at y;cases y
    ·by_cases h3:b=zt
     ·obtain⟨S',tz,_⟩:=tb
      rw[h3,tz]at y;cases y
     ·by_cases h4:X.ca=some b
      ·rw[ca.2 b h4]at y;cases y
      ·by_cases h5:∃t c R,X.rl t c=some R/\b=R.mc
       ·obtain⟨t,c,R,hR,rfl⟩:=h5
        rw[(rm t c R hR).1]at y;cases y
       ·rw[f b o h1 h2 h3 h4 (fun t c R hR z=>h5 ⟨t,c,R,hR,z⟩) e]at y
        cases y
theorem SB.mvX(S:SB P w K mg af RG CF CB CT zt X kf kl mem wo cs ns H)(D:List Addr)(k1:∀b o,H b=some o->(∀y,o≠ .lst y)->(∀u,o≠Fz u)->(∀y,o≠ .ext y)->H' b=some o)(k2:∀b ys,b∉D->H b=some (.lst ys)->H' b=some (.lst ys))(fx':∀b∈X.fx,H' b≠none)
 (d0:∀b∈D,b∈X.fx)(d1:∀b∈D,∀tb∈X.tabs,b≠tb.2.r/\b≠tb.2.od)(d2:∀b∈D,∀t c ys B,X.gv t c=some ys->(t,B)∈X.tabs->aE B.kvs (.inr c:aB)≠some (.ref b))(d3:∀b∈D,∀t c R,X.rl t c=some R->b∉R.ft)
 (ca':fL X.ca cs' H')(nt':X.ca≠none->Paired (mM X.fx H') cs' ns')(tb':gM nA H' zt):SB P w K mg af RG CF CB CT zt X kf kl mem wo cs' ns' H':=by
 have kt:eI H H':=fun x o hx e=>k1 x o e (fun y z=>by obtain⟨xs,rfl|⟨q,rfl⟩⟩:=hx<;>cases z) (fun u z=>by obtain⟨xs,rfl|⟨q,rfl⟩⟩:=hx<;>(unfold Fz at z;cases z)) (fun u z=>by obtain⟨xs,rfl|⟨q,rfl⟩⟩:=hx<;>cases z)
 have kd:∀{b:Addr} {y:List (Ky×V)},H b=some (.dT y)->H' b=some (.dT y):=fun e=>k1 _ _ e (fun _ z=>by cases z) (fun _ z=>by cases z) (fun _ z=>by cases z)
 have kd':∀{b:Addr} {y:List (aB×V)},H b=some (.dK y)->H' b=some (.dK y):=fun e=>k1 _ _ e (fun _ z=>by cases z) (fun _ z=>by cases z) (fun _ z=>by cases z)
 have ki:∀{b C dx:Addr} {fs:List (Str×V)},H b=some (.ins C dx fs)->H' b=some (.ins C dx fs):=fun e=>k1 _ _ e (fun _ z=>by cases z) (fun _ z=>by cases z) (fun _ z=>by cases z)
 have klf:∀b ys,b∉X.fx->H b=some (.lst ys)->H' b=some (.lst ys):=fun b ys n e=>k2 b ys (fun hd=>n (d0 b hd)) e
 have kft:∀t c R,X.rl t c=some R->∀b∈R.ft,∀o,H b=some o->H' b=some o:=fun t c R hR b hb o e=>by
  obtain⟨o',e',n1,n2,n3,n4⟩:=S.rt t c R hR b hb;rw[e]at e';cases e';by_cases hl:∃ys,o= .lst ys
  ·obtain⟨ys,rfl⟩:=hl
   exact k2 b ys (fun hd=>d3 b hd t c R hR hb) e
  ·exact k1 b o e (fun y z=>hl ⟨y,z⟩) n4 n3
 refine⟨fun tb htb=> ?_,kd S.fd,S.ko,S.fo,fun x v a b c=>⟨(S.fp x v a b c).1.keep kt,(S.fp x v a b c).2⟩,fun x v a b c=> ?_,S.ln,S.cz,kd S.hl,S.lo,fun t c ys B g h=> ?_,fun t c ys p v a b=>(S.cd t c ys p v a b).keep kt,fun t c R hR=> ?_,fun t c R hR=>⟨kd' (S.rm t c R hR).1,(S.rm t c R hR).2⟩,fun t c R hR b hb=> ?_,fun t c R hR p hp=>(S.ra t c R hR p hp).mv (kft t c R hR),fun x R a b=>⟨(S.me x R a b).1.mv rfl kt.t klf,fun is v e=>((S.me x R a b).2 is v e).keep kt⟩,fun t c R j a b=>⟨(S.ab t c R j a b).1.mv rfl kt.t klf,fun is v e=>((S.ab t c R j a b).2 is v e).keep kt⟩,ca',nt',fx',tb'⟩
 ·obtain⟨d0,e1⟩:=(S.F tb htb).fin
  obtain⟨kb,e2,e3⟩:=(S.F tb htb).bds;obtain⟨⟨d1',b1⟩,⟨⟨d2',b2⟩,b3,b4⟩,b5,b6,b7⟩:=(S.F tb htb).B;exact⟨⟨d0,ki e1⟩,⟨kb,kd' e2,e3⟩,⟨⟨d1',ki b1⟩,⟨⟨d2',ki b2⟩,k2 _ _ (fun hd=>(d1 _ hd tb htb).1 rfl) b3,kd' b4⟩,kd' b5,kd' b6,k2 _ _ (fun hd=>(d1 _ hd tb htb).2 rfl) b7⟩,kd (S.F tb htb).fnd,(S.F tb htb).len⟩
 ·obtain⟨tl,kt',h1,h2,h3⟩:=S.lp x v a b c
  exact⟨tl,kt',h1,kd h2,h3⟩
 ·obtain⟨l,h1,h2⟩:=S.cols t c ys B g h
  exact⟨l,h1,k2 _ _ (fun hd=>d2 _ hd t c ys B g h h1) h2⟩
 ·obtain⟨⟨dx,e⟩,h1⟩:=S.rg t c R hR
  exact⟨⟨dx,ki e⟩,h1⟩
 ·obtain⟨o,e,n1,n2,n3,n4⟩:=S.rt t c R hR b hb
  exact⟨o,kft t c R hR b hb o e,n1,n2,n3,n4⟩
theorem SB.mv(S:SB P w K mg af RG CF CB CT zt X kf kl mem wo cs ns H)(D:List Addr)(k1:∀b o,H b=some o->(∀y,o≠ .lst y)->(∀u,o≠Fz u)->H' b=some o)(k2:∀b ys,b∉D->H b=some (.lst ys)->H' b=some (.lst ys))(fx':∀b∈X.fx,H' b≠none)
 (d0:∀b∈D,b∈X.fx)(d1:∀b∈D,∀tb∈X.tabs,b≠tb.2.r/\b≠tb.2.od)(d2:∀b∈D,∀t c ys B,X.gv t c=some ys->(t,B)∈X.tabs->aE B.kvs (.inr c:aB)≠some (.ref b))(d3:∀b∈D,∀t c R,X.rl t c=some R->b∉R.ft)
 (ca':fL X.ca cs' H')(nt':X.ca≠none->Paired (mM X.fx H') cs' ns')(tb':gM nA H' zt):SB P w K mg af RG CF CB CT zt X kf kl mem wo cs' ns' H':=
 S.mvX D (fun b o e n1 n2 _=>k1 b o e n1 n2) k2 fx' d0 d1 d2 d3 ca' nt' tb'
theorem SB.same(S:SB P w K mg af RG CF CB CT zt X kf kl mem wo cs ns H)(s:aF H H'):SB P w K mg af RG CF CB CT zt X kf kl mem wo cs ns H':=
 S.mv [] (fun b o e _ _=>s _ _ e) (fun b ys _ e=>s _ _ e) (fun b hb y=>S.fx b hb (gU s y)) (fun b hb=>by cases hb) (fun b hb=>by cases hb) (fun b hb=>by cases hb) (fun b hb=>by cases hb) (S.ca.same s) (fun h=>Paired.imp (fun a b h=>h.mv (bQ.of s) (fun b ys _ e=>s _ _ e)) (S.nt h)) (lT s S.tb)
end
section
inductive a00(K:Fg)(CF CB CT:Addr)(sp:Sp)(vs:List V)(H:Hp)(Q:VK)(E:XK):Prop
 |mk (fi ce ta:Addr):vs= [.ref fi,.ref ce,.ref ta] ->((∃v,H ta=some (.tup [.str ("value":Str),v])/\Q v H)\/
  ∃(bd fd lk l:Addr) (nm c:Str) (p:Nat) (B:BM) (kf:List (Ky×V)),H ta=some (.tup [.str ("call":Str),.ref l])/\dR CF CB CT H fi bd fd lk nm B kf/\H ce=some (.tup ((bE nm c p).map kV))/\sp [.ref B.b,.str c,.int (p:Int),.ref l] H Q E0)->a00 K CF CB CT sp vs H Q E
theorem a7o:aY ["self","cell","told"] ["self","cell","told"] (aL a14):={}
theorem a9G(T:bA K mg)(Y:fO K mg CF)(Wb:cY K mg CB){k:Nat}(G:aS P w K mg af aD k CB "outcome" ["self","column","place","some"] sp):aS P w K mg af aD (k+ 1) CF "settle" ["self","cell","told"] (a00 K CF CB CT sp):=by
 refine Y.m_settle.known a7o (fun _ _ _ _ _ _ us hl=>jN (fun _ _ _=>rfl) us hl) (fun vs H Q E h=> ?_) (fun f ah A ag s H vs Q E hr h=> ?_)
 ·obtain⟨fi,ce,ta,rfl,_⟩:=h
  rfl
 ·obtain⟨fi,ce,ta,rfl,h⟩:=h
  have hu:=dY hr
  refine⟨_,(aJ (bI (cR lC (cW fQ (pv 2) bB (fun _ _=>rfl)) bT (dA _)) (aK (bH (cW fQ (pv 2) bB (fun _ _=>rfl)))) bL)
   (aK (bH (cF (gE hu (aV (pv 0) rfl) (cW fQ (pv 1) bB (fun _ _=>rfl)) (fun _ _=>rfl)) Wb.cl G hr aO (aA (cW fQ (pv 1) bB (fun _ _=>rfl)) (aA (cW fQ (pv 1) bB (fun _ _=>rfl)) (aA (cW fQ (pv 2) bB (fun _ _=>rfl)) aG))))))),?_⟩
  rcases h with⟨v,hta,q⟩|⟨bd,fd,lk,l,nm,c,p,B,kf,hta,F,hce,q⟩
  ·refine⟨_,rfl,ta,_,_,_,rfl,rfl,bR.of hta,rfl,rfl,_,rfl,bY (fun _=> ?_) (fun h=>absurd (decide_eq_true rfl) h)⟩
   exact⟨_,rfl,ta,_,_,_,rfl,rfl,bR.of hta,rfl,q⟩
  ·refine⟨_,rfl,ta,_,_,_,rfl,rfl,bR.of hta,rfl,rfl,_,rfl,bY (fun h=>absurd (V.str.inj (of_decide_eq_true h)) (by decide)) (fun _=> ?_)⟩
   obtain⟨d0,e1⟩:=F.fin;obtain⟨kb,e2,e3⟩:=F.bds;obtain⟨d1,b1⟩:=F.B.at_;exact⟨_,rfl,fi,CF,d0,_,_,rfl,e1,Y.cl,Y.n_boards,(jO _ _ _).1,_,rfl,ce,_,_,_,rfl,rfl,bR.of hce,rfl,bd,_,rfl,e3▸bU.k (k:=Sum.inr nm) e2,B.b,d1,_,rfl,b1,oI,_,rfl,ce,_,_,_,rfl,rfl,bR.of hce,rfl,_,rfl,ce,_,_,_,rfl,rfl,bR.of hce,rfl,_,rfl,ta,_,_,_,rfl,rfl,bR.of hta,rfl,q⟩
inductive zC(CF CB CT:Addr)(vs:List V)(H:Hp)(Q:VK)(E:XK):Prop
 |mk (fi bd fd lk ce:Addr) (nm c:Str) (p:Nat) (B:BM) (kf:List (Ky×V)) (r v:V):vs= [.ref fi,.ref ce] ->dR CF CB CT H fi bd fd lk nm B kf->H ce=some (.tup ((bE nm c p).map kV))->aE B.rus (.inr c:aB)=some r->aE kf (bE nm c p)=some v->Q .non H->zC CF CB CT vs H Q E
abbrev a5s:List Str:=["self","cell","trial","told"]
theorem xG:aY a5s ["self","cell"] (aL zP):={}
theorem a5R(T:bA K mg)(Y:fO K mg CF)(Wb:cY K mg CB):aS P w K mg af aD 5 CF "attempt" ["self","cell"] (zC CF CB CT):=by
 have G_knows:aS P w K mg af aD 4 CF "knows" ["self","cell"] (uL CF CB CT):=yY T Y Wb;refine Y.m_attempt.known xG (fun _ _ _ _ _ _ us hl=>eG (fun _ _=>rfl) us hl) (fun vs H Q E h=> ?_) (fun f ah A ag s H vs Q E hr h=> ?_)
 ·obtain⟨fi,bd,fd,lk,ce,nm,c,p,B,kf,r,v,rfl,_⟩:=h
  rfl
 ·obtain⟨fi,bd,fd,lk,ce,nm,c,p,B,kf,r,v,rfl,F,hce,hru,hv,q⟩:=h
  refine⟨_,(aJ (bI (dH (cF (pv 0) Y.cl G_knows hr aO (aA (pv 1) aG)) (fun _=>rfl)) (aK (bH gT)) bL)
   (aJ cJ (aJ cJ (aJ cJ (aK cJ))))),?_⟩
  obtain⟨d0,e1⟩:=F.fin;refine⟨_,rfl,fi,d0,_,rfl,e1,jJ,_,rfl,fi,bd,fd,lk,ce,nm,c,p,B,kf,r,rfl,F,hce,hru,_,rfl,?_⟩;rw[hv];exact cI q
end
theorem nY{z:Addr}(h:gM q H z)(k:∀b o,(∀x,o≠ .dT x)->(∀x,o≠ .dK x)->(∀x,o≠ .lst x)->H b=some o->H' b=some o):gM q H' z:=by
 obtain⟨S,h1,h2⟩:=h;refine⟨S,k _ _ (fun x y=>by cases y) (fun x y=>by cases y) (fun x y=>by cases y) h1,fun c hc=> ?_⟩;obtain⟨o,o1,o2⟩:=h2 c hc;exact⟨o,k _ _ (fun x y=>by cases y) (fun x y=>by cases y) (fun x y=>by cases y) o1,o2⟩
noncomputable def WT (X:jV):List Addr:=[X.fd,X.tr,X.tl] ++ (X.tabs.flatMap fun tb=> [X.fi,X.bd,X.fd] ++ tb.2.foot)++ a0X X.tabs X.gv
theorem a7B(X:jV):vJ X (WT X) where
 o:=⟨by simp[WT],by simp[WT],by simp[WT]⟩
 f:=fun tb h b hb=>List.mem_append_left _ (List.mem_append_right _ (List.mem_flatMap.mpr ⟨tb,h,hb⟩))
 c:=fun t c ys B l g h e=>List.mem_append_right _ (a7L g h e)
 n:=fun b hb=>by
  rcases List.mem_append.mp hb with hb|hb
  ·rcases List.mem_append.mp hb with hb|hb
   ·simp only[List.mem_cons,List.not_mem_nil,or_false]at hb
    rcases hb with h|h|h
    ·exact .inl h
    ·exact .inr (.inl h)
    ·exact .inr (.inr (.inl h))
   ·obtain⟨tb,h1,h2⟩:=List.mem_flatMap.mp hb
    exact .inr (.inr (.inr (.inl ⟨tb,h1,h2⟩)))
  ·exact .inr (.inr (.inr (.inr (a62 hb))))
def vR(R:RD)(x:aQ)(wo wo':aQ->Option (List Int×V))(ns ns':List (Option V×List Int))(v:V):PyData ⊕ List Int->Prop
 | .inl _=>wo'=wo/\ns'=ns
 | .inr is=>(wo x=some (is,v)/\wo'=wo/\ns'=ns)\/ ((∀vv,wo x≠some (is,vv))/\wo'=(fun y=>if y=x then some (is,v) else wo y)/\ns'=ns++ [(R.mrk,is)])
section
inductive zO(P:Program)(w:World)(K:Fg)(mg:Str->Option Value)(af:Heap)(RG:Addr->Sp->Prop)(CF CB CT zt:Addr)(vs:List V)(H:Hp)(Q:VK)(E:XK):Prop
 |mk (X:SX) (x:aQ) (R:RD) (ce:Addr) (kf kl:List (Ky×V)) (mem:Str->Str->List (aB×V)) (wo:aQ->Option (List Int×V)) (cs:List V) (ns:List (Option V×List Int)):vs= [.ref X.fi,.ref ce] ->iT X->SB P w K mg af RG CF CB CT zt X kf kl mem wo cs ns H->mW P w K mg af X H->cs.length<900->X.Vc x->X.rl x.1 x.2.1=some R->aE kf (cK x)=none->H ce=some (.tup ((cK x).map kV))->(∀H' r kf' kl' mem' wo' cs' ns',SB P w K mg af RG CF CB CT zt X kf' kl' mem' wo' cs' ns' H'->dP X zt H H'->
  ((cs'=cs/\ns'=ns/\wo'=wo/\∃la y,r= .ref la/\H' la=some (.tup ((cK y).map kV))/\y∈(X.tree x).looks X.val/\X.gv y.1 y.2.1=none/\aE kf (cK y)=none/\∀z,X.gv z.1 z.2.1=none->aE kf' (cK z)=aE kf (cK z))\/
   (r= .non/\cs'.length<=cs.length+ 1/\∃v,aE kf' (cK x)=some v/\(∀z,X.gv z.1 z.2.1=none->z≠x->aE kf' (cK z)=aE kf (cK z))/\vR R x wo wo' ns ns' v ((X.tree x).run X.val)))->Q r H')->zO P w K mg af RG CF CB CT zt vs H Q E
theorem a9L(T:bA K mg){CR:Addr}(Rt:mR K mg CR)(Y:fO K mg CF)(Wb:cY K mg CB)(Z:dQ K mg CT){z:Addr×Addr}(B2:kO K mg "Finder" "gathered" "Finder.gathered" iI z)(M:jQ mg af z.1 z.2)(hRG:∀C sp,RG C sp->cG K C/\aS P w K mg af aD 8 C "gather" ["self","look","many","table","column","place"] sp):aS P w K mg af aD 10 CF "attempt" ["self","cell"] (zO P w K mg af RG CF CB CT z.2):=by
 have G_knows:aS P w K mg af aD 4 CF "knows" ["self","cell"] (uL CF CB CT):=yY T Y Wb;have GI:eO P w K mg af aD 1 CR ["self","finder"] (yU CR):=a65 T Rt;have G_gd:aS P w K mg af aD 9 CF "gathered" lI (a0d P w K mg af CR CF CB CT z.2 RG):=a7b T Rt Y Wb Z B2 M hRG;have G_st:aS P w K mg af aD 7 CF "settle" ["self","cell","told"] (a00 K CF CB CT (a0J P w K mg af 4 CB CT)):=a9G T Y Wb (a9Y T Wb Z (k:=4) (Nat.le_refl _));refine Y.m_attempt.known xG (fun _ _ _ _ _ _ us hl=>eG (fun _ _=>rfl) us hl) (fun vs H Q E h=> ?_) (fun f ah A ag s H vs Q E hr h=> ?_)
 ·obtain⟨X,x,R,ce,kf,kl,mem,wo,cs,ns,rfl,_⟩:=h
  rfl
 ·obtain⟨X,x,R,ce,kf,kl,mem,wo,cs,ns,rfl,O,S,fnA,c9,hV,hR,hno,hce,q⟩:=h
  obtain⟨kin,B,hB,hp,_⟩:=O.o.v x hV;have gvx:X.gv x.1 x.2.1=none:=O.no _ _ _ hR;obtain⟨hru,hme⟩:=O.ru _ _ _ _ hR hB;have GF:=S.F _ hB;have k8:=O.o.k8;have hu:=dY hr
  refine⟨_,(aJ (bI (dH (cF (pv 0) Y.cl G_knows hr.mn aO (aA (pv 1) aG)) (fun _=>rfl)) (aK (bH gT)) bL)
   (aJ (cA (i:=2) xG.nd rfl (Or.inl rfl) (jE GI hr.mn Rt.c aO (aA (pv 0) aG)))
   (aJ (cA (i:=3) xG.nd rfl (Or.inl rfl) (cF (pv 0) Y.cl G_gd hr aO (aA (pv 2) (aA (cW fQ (pv 1) bB (fun _ _=>rfl)) (aA (cW fQ (pv 1) bB (fun _ _=>rfl)) (aA (cW fQ (pv 1) bB (fun _ _=>rfl)) aG))))))
   (aJ (bI (cR pL (aV (pv 2) rfl) gT (dA _)) (aJ (iX hu (aV (pv 0) rfl) (pv 1) (aV (pv 2) rfl) rfl) (aK (iX hu (aV (pv 0) rfl) (pv 1) (cF (pv 0) Y.cl G_st hr.mn aO (aA (pv 1) (aA (pv 3) aG))) rfl))) bL)
   (aK (bH (aV (pv 2) rfl))))))),?_⟩
  obtain⟨d0,e1⟩:=GF.fin;refine⟨_,rfl,X.fi,d0,_,rfl,e1,jJ,_,rfl,X.fi,X.bd,X.fd,X.lk,ce,x.1,x.2.1,x.2.2,B,kf,_,rfl,GF,hce,hru,_,rfl,?_⟩;rw[show aE kf (bE x.1 x.2.1 x.2.2)=none from hno];refine bG ⟨_,rfl,?_⟩;intro tr dt htr hdt ne;refine⟨tr,dt,X.fi,rfl,aI,fun H1 tl htl t1 t2 b1=>⟨rfl,?_⟩⟩;have s1:aF H H1:=fun b o e=>b1 b o (aX e htr) (by rw[aH (aX e htr),aH (aX e hdt)];exact e)
  have htl0:H tl=none:=by
   by_cases y:tl=tr
   ·rw[y];exact htr
   ·by_cases y2:tl=dt
    ·rw[y2];exact hdt
    ·rw[aH y,aH y2]at htl;exact htl
  have ce1:=s1 _ _ hce;obtain⟨⟨dxg,hgr⟩,hG,hW⟩:=S.rg _ _ _ hR
  let Y8:jV:=⟨X.fi,X.bd,X.fd,X.lk,tr,tl,X.tabs,X.Ks,X.gv,X.Vc,X.val,kf,X.tree x⟩
  have J1:JT K CR CF CB CT Y8 (some Y8.t0) H1:=⟨⟨kf,fun tb h=>(S.F tb h).same s1,s1 _ _ S.fd,S.ko,S.fo,fun _ _ _ _=>rfl⟩,fun y v a b c=>(S.fp y v a b c).1.same s1,⟨[],t2,eJ.nil,⟨dt,t1⟩,[],.nil,fun y=>⟨fun h=>by{cases h},fun h=>by{cases h}⟩,fun y hy=>by{cases hy}⟩,fun t c ys B g h=>let ⟨l,h1,h2⟩:=S.cols t c ys B g h;⟨l,h1,s1 _ _ h2⟩,fun t c ys p v a b=>(S.cd t c ys p v a b).same s1⟩;have ntf:tl≠X.fd:=fun y=>by rw[y,S.fd]at htl0;cases htl0
  have ntk:tl≠X.lk:=fun y=>by rw[y,S.hl]at htl0;cases htl0
  have wof:=a7B Y8;obtain⟨Sz,tz,_⟩:=id S.tb;have tb1:gM nA H1 z.2:=nY S.tb fun b o _ _ _ e=>s1 _ _ e
  have nzW:z.2∉WT Y8:=by
   intro hm;have t1z:=s1 _ _ tz
   rcases wof.n _ hm with h|h|h|⟨tb',h1,h2⟩|⟨t',c',ys',B',g1,g2,g3⟩
   ·have h:z.2=X.fd:=h
    rw[h,s1 _ _ S.fd]at t1z;cases t1z
   ·have h:z.2=tr:=h
    rw[h,t1]at t1z;cases t1z
   ·have h:z.2=tl:=h
    rw[h,t2]at t1z;cases t1z
   ·exact((S.F tb' h1).same s1).noext h2 t1z
   ·obtain⟨l',g4,g5⟩:=S.cols t' c' ys' B' g1 g2
    have g3:aE B'.kvs (.inr c':aB)=some (.ref z.2):=g3;rw[g3]at g4;cases g4;rw[s1 _ _ g5]at t1z;cases t1z
  have nft:z.2∉R.ft:=fun hm=>by
   obtain⟨o,e,_,_,n,_⟩:=S.rt _ _ _ hR _ hm;rw[tz]at e;exact n _ (Option.some.inj e).symm
  refine⟨_,rfl,X.fi,d0,_,rfl,s1 _ _ e1,jJ,_,rfl,_,rfl,ce,_,_,_,rfl,rfl,bR.of ce1,rfl,_,rfl,ce,_,_,_,rfl,rfl,bR.of ce1,rfl,_,rfl,ce,_,_,_,rfl,rfl,bR.of ce1,rfl,
   Y8,WT Y8,R.ft,R.gr,dxg,R.CG,R.spg,R.fs,x.1,x.2.1,B,x.2.2,rfl,J1,ntf,O.o,wof,nzW,hB,hru,s1 _ _ hgr,(fun y=>by{rw[y,htr]at hgr;cases hgr}),hG,(O.rf _ _ _ hR).2,tb1,nft,(S.ra _ _ _ hR _ hV).mv (fun b _ o e=>s1 _ _ e),fun H2 fv tf fr tb2 told J2=> ?_⟩
  have up2:∀{y:Addr} {o:HO},y≠X.fd->y≠z.2->H y=some o->H2 y=some o:=fun n1 n2 e=>fr _ _ n1 (aX e htl0) (aX e htr) n2 (s1 _ _ e)
  have nz:∀{b:Addr} {o:HO},H b=some o->(∀y,o≠ .ext y)->b≠z.2:=fun e n y=>by rw[y,tz]at e;exact n _ (Option.some.inj e).symm
  have nf:∀{b:Addr} {o:HO},H b=some o->(∀y,o≠ .dT y)->b≠X.fd:=fun e n y=>by rw[y,S.fd]at e;exact n _ (Option.some.inj e).symm
  have lk2:=up2 O.fl.symm (nz S.hl nk) S.hl;have ce2:=up2 (nf hce nk) (nz hce nk) hce;have nl2:=S.lo.len
  rcases J2.symm with J2|J2
  ·
   obtain⟨kf2,F2',w02,ko2,fo2,ru2⟩:=J2.kf;obtain⟨kt2,tl2,to2,dx2,la,y,tr2,hla,hy,hVy,gvy,nfy⟩:=J2.tl;refine⟨_,rfl,tr,CR,dx2,_,_,rfl,tr2,Rt.cl,Rt.n_lacking,(rM X.fi tl (.ref la)).2.2.1,rfl,_,rfl,bG ?_⟩;refine⟨_,rfl,tr,CR,dx2,_,_,rfl,tr2,Rt.cl,Rt.n_lacking,(rM X.fi tl (.ref la)).2.2.1,?_⟩;have f2:dP X z.2 H H2:=fun b o n1 _ n3 _ _ e=>up2 n1 n3 e
   have kt2':=S.ktt f2;have kl2:=S.kl' O f2;refine q H2 _ kf2 kl mem wo cs ns (S.to O f2 w02 ko2 fo2 (fun x' v a b c=> ?_) (fun x' v a b c=> ?_) (fun x' a b c=> ?_) (fun x' v a b c y hy gy=> ?_) lk2 S.lo (fun t c R' h=> ?_) (fun x' R' a b=>⟨(S.me x' R' a b).1.mv rfl kt2'.t kl2,fun is v e=>((S.me x' R' a b).2 is v e).keep kt2'⟩) (fun t c R' j a b=>⟨(S.ab t c R' j a b).1.mv rfl kt2'.t kl2,fun is v e=>((S.ab t c R' j a b).2 is v e).keep kt2'⟩) ⟨S.ca.1,fun a e=> ?_⟩ (fun h=>Paired.imp (fun a b h=>h.mv kt2'.t kl2) (S.nt h)) tb2) f2 (.inl ⟨rfl,rfl,rfl,la,y,rfl,hla,hy,gvy,nfy,fun z' g=>ru2 z'.1 z'.2.1 z'.2.2 g⟩)
   ·rw[show aE kf2 (cK x')=aE kf (cK x') from ru2 x'.1 x'.2.1 x'.2.2 b]at c
    exact⟨(S.fp x' v a b c).1.keep kt2',(S.fp x' v a b c).2⟩
   ·rw[show aE kf2 (cK x')=aE kf (cK x') from ru2 x'.1 x'.2.1 x'.2.2 b]at c
    obtain⟨tl',kt',h1,h2,h3,h4,h5⟩:=S.lp x' v a b c;exact⟨tl',kt',h1,up2 h3 (nz h2 nk) h2,h3,h4,h5⟩
   ·rw[show aE kf2 (cK x')=aE kf (cK x') from ru2 x'.1 x'.2.1 x'.2.2 b]at c
    exact S.ln x' a b c
   ·rw[show aE kf2 (cK x')=aE kf (cK x') from ru2 x'.1 x'.2.1 x'.2.2 b]at c
    rw[show aE kf2 (cK y)=aE kf (cK y) from ru2 y.1 y.2.1 y.2.2 gy];exact S.cz x' v a b c y hy gy
   ·obtain⟨h1,h2⟩:=S.rm t c R' h
    exact⟨up2 (nf h1 nk) (nz h1 nk) h1,h2⟩
   ·exact up2 (nf (S.ca.2 a e) nk) (nz (S.ca.2 a e) nk) (S.ca.2 a e)
  ·obtain⟨kf2,F2',w02,ko2,fo2,ru2⟩:=J2.kf
   have F2:dR CF CB CT H2 X.fi X.bd X.fd X.lk x.1 B kf2:=F2' _ hB;obtain⟨kt2,tl2,to2,⟨d3,tr2⟩,us,path,hus,hkn⟩:=J2.tl;have hrun:(X.tree x).run X.val=tf:=path.run
   have hlooks:(X.tree x).looks X.val=us:=by
    have:=path.looks;rw[show (GT.done tf).looks Y8.val= [] from rfl,List.append_nil]at this;exact this
   obtain⟨a1,a2,a3,a4⟩:=rM X.fi tl .non;obtain⟨d02,f2⟩:=F2.fin;refine⟨_,rfl,tr,CR,d3,_,_,rfl,tr2,Rt.cl,Rt.n_lacking,a3,rfl,_,rfl,cI ?_⟩;refine⟨_,rfl,tr,CR,d3,_,_,rfl,tr2,Rt.cl,Rt.n_looked,a2,_,rfl,X.fi,CF,d02,_,_,rfl,f2,Y.cl,Y.n_looked,(jO _ _ _).2.2,_,rfl,X.lk,_,rfl,.inr ⟨kl,cK x,ce,lk2,rfl,ce2,eD (by omega),rfl⟩,?_⟩;have u3:bC X.lk H2 (upd H2 X.lk (.dT (aR kl (cK x) (.ref tl)))):=fun b o n e=>by rw[aH n];exact e
   have lk3:upd H2 X.lk (.dT (aR kl (cK x) (.ref tl))) X.lk=some (.dT (aR kl (cK x) (.ref tl))):=aI
   generalize upd H2 X.lk (.dT (aR kl (cK x) (.ref tl)))=H3 at u3 lk3|-
   have k3:∀{b:Addr} {o:HO},H2 b=some o->(∀y,o≠ .dT y)->H3 b=some o:=fun e n=>u3 _ _ (fun y=>by rw[y,lk2]at e;exact n _ (Option.some.inj e).symm) e
   have fd3:=u3 _ _ O.fl F2.fnd
   have F3:dR CF CB CT H3 X.fi X.bd X.fd X.lk x.1 B kf2:=by
    obtain⟨d0,e1⟩:=F2.fin;obtain⟨kb,e2,e3⟩:=F2.bds;obtain⟨⟨d1,b1⟩,⟨⟨d2,b2⟩,b3,b4⟩,b5,b6,b7⟩:=F2.B;exact⟨⟨d0,k3 e1 nk⟩,⟨kb,k3 e2 nk,e3⟩,⟨⟨d1,k3 b1 nk⟩,⟨⟨d2,k3 b2 nk⟩,k3 b3 nk,k3 b4 nk⟩,k3 b5 nk,k3 b6 nk,k3 b7 nk⟩,fd3,F2.len⟩
   have fr3:∀{y:Addr} {o:HO},y≠X.fd->y≠X.lk->y≠z.2->H y=some o->H3 y=some o:=fun n1 n2 n3 e=>u3 _ _ n2 (up2 n1 n3 e)
   have q3:∀{y:Addr} {o:HO},H y=some o->(∀v,o≠ .dT v)->(∀v,o≠ .ext v)->H3 y=some o:=fun e n1 n2=>k3 (up2 (nf e n1) (nz e n2) e) n1
   have ce3:=q3 hce nk nk;have tr3:=k3 tr2 nk;have tl3:=u3 _ _ ntk tl2;have tb3:gM nA H3 z.2:=nY tb2 fun b o n1 _ _ e=>k3 e n1
   have ca3:fL X.ca cs H3:=⟨S.ca.1,fun a e=>q3 (S.ca.2 a e) nk nk⟩;obtain⟨hmc,hmb⟩:=S.rm _ _ _ hR;have mc3:=q3 hmc nk nk;have gr3:=q3 hgr nk nk;have kz3:cD H H3:=fun b u e=>q3 e nk nk
   have none3:∀{y:Addr},H3 y=none->H y=none:=fun{y} e=>by
    cases e2:H y with
    |none=>rfl
    |some o=>
     by_cases y1:y=X.fd
     ·rw[y1,fd3]at e;cases e
     ·by_cases y2:y=X.lk
      ·rw[y2,lk3]at e;cases e
      ·by_cases y3:y=z.2
       ·obtain⟨S3,h3,_⟩:=tb3
        rw[y3,h3]at e;cases e
       ·rw[fr3 y1 y2 y3 e2]at e;cases e
   have l2:kf2.length<=X.Ks.length:=ko2.len;have mlen:=hmb.len;have b8:=O.b8;have fin:∀(H5:Hp) (v:V) (mem':Str->Str->List (aB×V)) (wo':aQ->Option (List Int×V)) (cs':List V) (ns':List (Option V×List Int)),(∀b o,X.ca≠some b->b≠R.mc->H3 b=some o->H5 b=some o)->(∀t c R',X.rl t c=some R'->H5 R'.mc=some (.dK (mem' t c))/\kI X.bnd (mem' t c))->fL X.ca cs' H5->cs'.length<=cs.length+ 1->vR R x wo wo' ns ns' v tf->(∀y,y≠x->wo' y=wo y)->(∀is,tf= .inr is->wo' x=some (is,v))->(∀H6,bC X.fd H5 H6->Pd K H6 v (X.val x))->
    (∀H6,bC X.fd H5 H6->(∀x' R',X.Vc x'->X.rl x'.1 x'.2.1=some R'->iB X.fx H6 (mem' x'.1 x'.2.1) (X.num x'.1 x'.2.2:Int) (wo' x')/\∀is v,wo' x'=some (is,v)->Pd K H6 v (eX (R'.g is)))/\(∀t c R' j,X.rl t c=some R'->X.abn t j->iB X.fx H6 (mem' t c) (j:Int) (X.wa t c j)/\∀is v,X.wa t c j=some (is,v)->Pd K H6 v (eX (R'.g is)))/\(X.ca≠none->Paired (mM X.fx H6) cs' ns'))->
    ∃d5 H6,H5 X.fi=some (.ins CF d5 (gY X.bd X.fd X.lk))/\gO H5 X.fd (.ref ce) v H6/\H6 tr=some (.ins CR d3 (eF X.fi tl .non))/\Q .non H6:=fun H5 v mem' wo' cs' ns' f5 rm5 ca5 cl5 en hwy hwx hpd hme5=>by
    have k5:∀{b:Addr} {o:HO},H3 b=some o->(∀y,o≠ .lst y)->(∀y,o≠ .dK y)->H5 b=some o:=fun e n1 n2=>f5 _ _ (ca3.ne e n1) (fun y=>by rw[y,mc3]at e;exact n2 _ (Option.some.inj e).symm) e
    obtain⟨d5,e5⟩:=F3.fin;have fd5:=k5 fd3 nk nk;have ce5:=k5 ce3 nk nk;refine⟨d5,_,k5 e5 nk nk,.inr ⟨kf2,cK x,ce,fd5,rfl,ce5,eD (by omega),rfl⟩,?_⟩;have u6:bC X.fd H5 (upd H5 X.fd (.dT (aR kf2 (cK x) v))):=fun b o n e=>by rw[aH n];exact e
    have fd6:upd H5 X.fd (.dT (aR kf2 (cK x) v)) X.fd=some (.dT (aR kf2 (cK x) v)):=aI
    generalize upd H5 X.fd (.dT (aR kf2 (cK x) v))=H6 at u6 fd6|-
    have k6:∀{b:Addr} {o:HO},H5 b=some o->(∀y,o≠ .dT y)->H6 b=some o:=fun e n=>u6 _ _ (fun y=>by rw[y,fd5]at e;exact n _ (Option.some.inj e).symm) e
    have fr6:dP X z.2 H H6:=fun b o n1 n2 n3 n4 n5 e=>u6 _ _ n1 (f5 _ _ n4 (n5 _ _ _ hR) (fr3 n1 n2 n3 e))
    have dt6:∀{b:Addr} {y:List (Ky×V)},b≠X.fd->b≠X.lk->H2 b=some (.dT y)->H6 b=some (.dT y):=fun n1 n2 e=>u6 _ _ n1 (k5 (u3 _ _ n2 e) (fun _ z=>by cases z) (fun _ z=>by cases z))
    refine⟨k6 (k5 tr3 nk nk) nk,?_⟩;have kt6:=S.ktt fr6;obtain⟨me6,ab6,nt6⟩:=hme5 H6 u6
    have vx:aE (aR kf2 (cK x) v) (cK x)=some v:=by rw[gA,if_pos rfl]
    have vy:∀y:aQ,X.gv y.1 y.2.1=none->y≠x->aE (aR kf2 (cK x) v) (cK y)=aE kf (cK y):=fun y g n=>by
     rw[gA,if_neg (fun h=>n (sM h))];exact ru2 y.1 y.2.1 y.2.2 g
    have ly:∀y:aQ,y≠x->aE (aR kl (cK x) (.ref tl)) (cK y)=aE kl (cK y):=fun y n=>by
     rw[gA,if_neg (fun h=>n (sM h))]
    refine q H6 .non (aR kf2 (cK x) v) (aR kl (cK x) (.ref tl)) mem' wo' cs' ns' (S.to O fr6 fd6 (ko2.put kin) (fun t c p' v' ys g e=> ?_) (fun x' v' a b c=> ?_) (fun x' v' a b c=> ?_) (fun x' a b c=> ?_) (fun x' v' a b c y hy gy=> ?_) (u6 _ _ O.fl.symm (k5 lk3 nk nk)) (S.lo.put kin) (fun t c R' h=>⟨k6 (rm5 t c R' h).1 nk,(rm5 t c R' h).2⟩) me6 ab6 ⟨ca5.1,fun a e=>k6 (ca5.2 a e) nk⟩ nt6 (nY tb3 fun b o n1 n2 n3 e=>k6 (k5 e n3 n2) n1)) fr6 (.inr ⟨rfl,cl5,v,vx,vy,by rw[hrun];exact en⟩)
    ·rw[gA,if_neg (fun y=>by
      obtain⟨rfl,rfl,_⟩:=a0r y;rw[gvx]at g
      cases g)]at e
     exact fo2 t c p' v' ys g e
    ·by_cases hx:x'=x
     ·subst hx
      rw[vx]at c;cases c;exact⟨hpd H6 u6,fun is e=>hwx is (hrun.symm.trans e)⟩
     ·rw[vy x' b hx]at c
      rw[hwy x' hx];exact⟨(S.fp x' v' a b c).1.keep kt6,(S.fp x' v' a b c).2⟩
    ·by_cases hx:x'=x
     ·subst hx
      exact⟨tl,kt2,by rw[gA,if_pos rfl],dt6 ntf ntk tl2,ntf,ntk,to2,by rw[hlooks];exact hus⟩
     ·rw[vy x' b hx]at c
      rw[ly x' hx];obtain⟨tl',kt',h1,h2,h3,h4,h5⟩:=S.lp x' v' a b c;exact⟨tl',kt',h1,dt6 h3 h4 (up2 h3 (nz h2 nk) h2),h3,h4,h5⟩
    ·by_cases hx:x'=x
     ·subst hx
      rw[vx]at c;cases c
     ·rw[vy x' b hx]at c
      rw[ly x' hx];exact S.ln x' a b c
    ·have hyx:(aE kf (cK y)).isSome=true:=by
      by_cases hx:x'=x
      ·subst hx
       rw[hlooks]at hy;exact hkn y hy gy
      ·rw[vy x' b hx]at c
       exact S.cz x' v' a b c y hy gy
     by_cases hy2:y=x
     ·rw[hy2,vx];rfl
     ·rw[vy y gy hy2];exact hyx
   obtain⟨d03,f3⟩:=F3.fin
   have hval:X.val x=zS R.g tf:=by rw[O.sem x R hV hR,hrun]
   have quiet:∀(v:V),vR R x wo wo ns ns v tf->(∀is,tf= .inr is->wo x=some (is,v))->Pd K H3 v (X.val x)->∃d5 H6,H3 X.fi=some (.ins CF d5 (gY X.bd X.fd X.lk))/\gO H3 X.fd (.ref ce) v H6/\H6 tr=some (.ins CR d3 (eF X.fi tl .non))/\Q .non H6:=fun v en hwx hpd=>by
    refine fin H3 v mem wo cs ns (fun b o _ _ e=>e) (fun t c R' h=>⟨q3 (S.rm t c R' h).1 nk nk,(S.rm t c R' h).2⟩) ca3 (Nat.le_succ _) en (fun _ _=>rfl) hwx (fun H6 b6=>hpd.keep fun b o hb e=>b6 _ _ (fun y=>by rw[y,fd3]at e;obtain⟨xs,rfl|⟨q,rfl⟩⟩:=hb<;>cases e) e) (fun H6 b6=> ?_);have kt6:eI H H6:=fun b o hb e=>b6 _ _ (nf e (fun v y=>by obtain⟨xs,rfl|⟨q,rfl⟩⟩:=hb<;>cases y)) (q3 e (fun v y=>by obtain⟨xs,rfl|⟨q,rfl⟩⟩:=hb<;>cases y) (fun v y=>by obtain⟨xs,rfl|⟨q,rfl⟩⟩:=hb<;>cases y))
    have kl6:∀b ys,b∉X.fx->H b=some (.lst ys)->H6 b=some (.lst ys):=fun b ys _ e=>b6 _ _ (nf e (fun v y=>by cases y)) (q3 e (fun v y=>by cases y) (fun v y=>by cases y))
    exact⟨fun x' R' a b=>⟨(S.me x' R' a b).1.mv rfl kt6.t kl6,fun is v e=>((S.me x' R' a b).2 is v e).keep kt6⟩,fun t c R' j a b=>⟨(S.ab t c R' j a b).1.mv rfl kt6.t kl6,fun is v e=>((S.ab t c R' j a b).2 is v e).keep kt6⟩,fun h=>Paired.imp (fun a b h=>h.mv kt6.t kl6) (S.nt h)⟩
   cases tf with
   |inl d=>
    obtain⟨ta,v,rfl,hta,hpv⟩:=told;have hta3:=k3 hta nk;have ktt3:eI H2 H3:=fun b o hb e=>k3 e (fun v y=>by obtain⟨xs,rfl|⟨q,rfl⟩⟩:=hb<;>cases y)
    obtain⟨d5,H6,g1,g2,g3,g4⟩:=quiet v ⟨rfl,rfl⟩ (fun is e=>by cases e) (by rw[hval];exact hpv.keep ktt3);exact⟨_,rfl,X.fi,d03,_,rfl,f3,jJ,_,rfl,_,rfl,X.fi,ce,ta,rfl,.inl ⟨v,hta3,_,rfl,X.fi,CF,d5,_,_,rfl,g1,Y.cl,Y.n_found,(jO _ _ _).2.1,_,rfl,X.fd,H6,rfl,g2,_,rfl,tr,CR,d3,_,_,rfl,g3,Rt.cl,Rt.n_lacking,a3,g4⟩⟩
   |inr is=>
    obtain⟨ta,l,rfl,hta,hl2,hl0⟩:=told;have hl3:=k3 hl2 nk;have hta3:=k3 hta nk;have hlH:H l=none:=gU s1 hl0;have nlfx:l∉X.fx:=fun hm=>S.fx l hm hlH
    obtain⟨okis,l100⟩:=O.oks x R hV hR is hrun;obtain⟨sh,vd⟩:=O.gg _ _ _ hR is okis;obtain⟨nu1,nu2⟩:=O.nu _ _ _ hB hp;have was:=(S.me x R hV hR).1;refine⟨_,rfl,X.fi,d03,_,rfl,f3,jJ,_,rfl,_,rfl,X.fi,ce,ta,rfl,.inr ⟨X.bd,X.fd,X.lk,l,x.1,x.2.1,x.2.2,B,kf2,hta3,F3,ce3,l,R.gr,R.mc,R.fa,dxg,R.CG,X.ca,R.mrk,x.2.1,R.fs,x.2.2,_,B,mem x.1 x.2.1,R.g,R.ok,is,cs,rfl,F3.B,hru,hme,mc3,by omega,hp,nu1,gr3,hW,(O.rf _ _ _ hR).1,(fnA _ _ _ hR).keep kz3,hl3,ca3,c9,okis,l100,sh,vd,?_⟩⟩;have called:(∀vv,wo x≠some (is,vv))->∀H5 v ns1 tp,(∀b o,X.ca≠some b->b≠R.mc->H3 b=some o->H5 b=some o)->fL X.ca (cs++ ns1) H5->sV X.ca R.mrk is H3 H5 ns1->H3 tp=none->H5 tp=some (.tup [.ref l,v])->H5 R.mc=some (.dK (aR (mem x.1 x.2.1) (.inl ((X.num x.1 x.2.2:Nat):Int):aB) (.ref tp)))->Dt K H5 v (eX (R.g is))->
     ∃d5 H6,H5 X.fi=some (.ins CF d5 (gY X.bd X.fd X.lk))/\gO H5 X.fd (.ref ce) v H6/\H6 tr=some (.ins CR d3 (eF X.fi tl .non))/\Q .non H6:=fun hh H5 v ns1 tp f5 c5 n5 n2 g3 g4 g5=>by
     have fd5:H5 X.fd=some (.dT kf2):=f5 _ _ (ca3.ne fd3 nk) (fun y=>by rw[<- y,fd3]at mc3;cases mc3) fd3
     have ln1:ns1.length<=1:=by
      cases hc:X.ca with
      |none=>rw[n5.1 hc];exact Nat.zero_le _
      |some a=>obtain⟨nv,lc,e,_⟩:=n5.2 a hc;rw[e];exact Nat.le_refl _
     let mem':Str->Str->List (aB×V):=fun t c=>if t=x.1/\c=x.2.1 then aR (mem x.1 x.2.1) (.inl ((X.num x.1 x.2.2:Nat):Int):aB) (.ref tp) else mem t c
     let wo':aQ->Option (List Int×V):=fun y=>if y=x then some (is,v) else wo y
     have n1fx:∀{b:Addr},H3 b=none->b∉X.fx:=fun e hm=>S.fx _ hm (none3 e)
     refine fin H5 v mem' wo' (cs++ ns1) (ns++ [(R.mrk,is)]) f5 (fun t c R' h=> ?_) c5 (by rw[List.length_append];omega) (.inr ⟨hh,rfl,rfl⟩) (fun y n=>if_neg n) (fun is' e=>by cases e;exact if_pos rfl) (fun H6 b6=> ?_) (fun H6 b6=> ?_)
     ·by_cases hx:t=x.1/\c=x.2.1
      ·obtain⟨rfl,rfl⟩:=hx
       rw[hR]at h;cases h;rw[show mem' x.1 x.2.1=aR (mem x.1 x.2.1) (.inl ((X.num x.1 x.2.2:Nat):Int):aB) (.ref tp) from if_pos ⟨rfl,rfl⟩];exact⟨g4,hmb.put nu2⟩
      ·rw[show mem' t c=mem t c from if_neg hx]
       obtain⟨h1,h2⟩:=S.rm t c R' h;have h13:=q3 h1 nk nk;exact⟨f5 _ _ (ca3.ne h13 nk) (fun y=>hx (O.md _ _ _ _ _ _ h hR y)) h13,h2⟩
     ·refine⟨by rw[hval];exact vd,yT (by rw[hval];exact vd) (by rw[hval];exact g5) fun b o hb e=>b6 _ _ (fun y=>by rw[y,fd5]at e;obtain⟨xs,rfl|⟨q,rfl⟩⟩:=hb<;>cases e) e⟩
     ·have k35:∀{b:Addr} {o:HO},H b=some o->(∀y,o≠ .dT y)->(∀y,o≠ .ext y)->(∀y,o≠ .dK y)->X.ca≠some b->H6 b=some o:=fun e n1 n2 n3 n4=>by
       have e3:=q3 e n1 n2;exact b6 _ _ (nf e n1) (f5 _ _ n4 (fun y=>by rw[y,mc3]at e3;exact n3 _ (Option.some.inj e3).symm) e3)
      have kt6:eI H H6:=fun b o hb e=>k35 e (fun v y=>by obtain⟨xs,rfl|⟨q,rfl⟩⟩:=hb<;>cases y) (fun v y=>by obtain⟨xs,rfl|⟨q,rfl⟩⟩:=hb<;>cases y) (fun v y=>by obtain⟨xs,rfl|⟨q,rfl⟩⟩:=hb<;>cases y) (S.nl e (fun v y=>by obtain⟨xs,rfl|⟨q,rfl⟩⟩:=hb<;>cases y))
      have kl6:∀b ys,b∉X.fx->H b=some (.lst ys)->H6 b=some (.lst ys):=fun b ys n e=>k35 e (fun v y=>by cases y) (fun v y=>by cases y) (fun v y=>by cases y) (fun y=>n (O.cf b y))
      have k56:∀{b:Addr} {o:HO},H5 b=some o->(∀y,o≠ .dT y)->H6 b=some o:=fun e n=>b6 _ _ (fun y=>by rw[y,fd5]at e;exact n _ (Option.some.inj e).symm) e
      have nlc:X.ca≠some l:=fun y=>nlfx (O.cf l y)
      have l6:H6 l=some (.lst (is.map V.int)):=k56 (f5 _ _ nlc (fun y=>by rw[y,mc3]at hl3;cases hl3) hl3) nk;refine⟨fun x' R' a b=> ?_,fun t c R' j a b=>⟨(S.ab t c R' j a b).1.mv ?_ kt6.t kl6,fun is v e=>((S.ab t c R' j a b).2 is v e).keep kt6⟩,fun h=> ?_⟩
      ·by_cases hx:x'=x
       ·subst hx
        rw[hR]at b;cases b;rw[show wo' x'=some (is,v) from if_pos rfl,show mem' x'.1 x'.2.1=aR (mem x'.1 x'.2.1) (.inl ((X.num x'.1 x'.2.2:Nat):Int):aB) (.ref tp) from if_pos ⟨rfl,rfl⟩];refine⟨⟨tp,l,by rw[gA,if_pos rfl],k56 g3 nk,l6,nlfx⟩,fun is' v' e=> ?_⟩;cases e;exact⟨vd,yT vd g5 fun b o hb e=>b6 _ _ (fun y=>by rw[y,fd5]at e;obtain⟨xs,rfl|⟨q,rfl⟩⟩:=hb<;>cases e) e⟩
       ·rw[show wo' x'=wo x' from if_neg hx]
        refine⟨(S.me x' R' a b).1.mv ?_ kt6.t kl6,fun is v e=>((S.me x' R' a b).2 is v e).keep kt6⟩;by_cases hx2:x'.1=x.1/\x'.2.1=x.2.1
        ·rw[show mem' x'.1 x'.2.1=aR (mem x.1 x.2.1) (.inl ((X.num x.1 x.2.2:Nat):Int):aB) (.ref tp) from if_pos hx2,gA,if_neg (fun y=> ?_),hx2.1,hx2.2]
         have y:=Sum.inl.inj y;obtain⟨B',hB',hp'⟩:=O.B a;rw[hx2.1]at hB' y;have:=O.un _ _ _ hB hB';subst this;exact hx (Prod.ext hx2.1 (Prod.ext hx2.2 (O.ni _ _ _ _ hB' hp' hp (by omega))))
        ·rw[show mem' x'.1 x'.2.1=mem x'.1 x'.2.1 from if_neg hx2]
      ·by_cases hx2:t=x.1/\c=x.2.1
       ·rw[show mem' t c=aR (mem x.1 x.2.1) (.inl ((X.num x.1 x.2.2:Nat):Int):aB) (.ref tp) from if_pos hx2,gA,if_neg (fun y=> ?_),hx2.1,hx2.2]
        have y:=Sum.inl.inj y;rw[hx2.1]at b;exact O.ab _ _ _ _ hB hp b (by omega)
       ·rw[show mem' t c=mem t c from if_neg hx2]
      ·obtain⟨a,ha⟩:=Option.ne_none_iff_exists'.mp h
       obtain⟨nv,lc,e,hlc,hnv⟩:=n5.2 a ha;rw[e];refine Paired.snoc ⟨lc,hnv.mv (fun a xs e=>k56 e nk) (k56 hnv.1 nk),n1fx hlc⟩ (Paired.imp (fun a b h=>h.mv kt6.t kl6) (S.nt h))
    cases hw:wo x with
    |none=>
     rw[hw]at was;refine .inr ⟨.inl was,fun H5 v ns1 tp f5 c5 n5 n2 g3 g4 g5=> ?_⟩;obtain⟨d5,H6,r1,r2,r3,r4⟩:=called (fun vv y=>by rw[hw]at y;cases y) H5 v ns1 tp f5 c5 n5 n2 g3 g4 g5;exact⟨_,rfl,X.fi,CF,d5,_,_,rfl,r1,Y.cl,Y.n_found,(jO _ _ _).2.1,_,rfl,X.fd,H6,rfl,r2,_,rfl,tr,CR,d3,_,_,rfl,r3,Rt.cl,Rt.n_lacking,a3,r4⟩
    |some jv=>
     obtain⟨js,vv⟩:=jv;rw[hw]at was;obtain⟨tp0,lo0,w1,w2,w3,w4⟩:=was;have w2:=q3 w2 nk nk;have w3:=q3 w3 nk nk;by_cases hj:js=is
     ·subst hj
      refine .inl ⟨vv,⟨tp0,lo0,w1,w2,w3⟩,?_⟩;have ktt3:eI H H3:=fun b o hb e=>q3 e (fun v y=>by obtain⟨xs,rfl|⟨q,rfl⟩⟩:=hb<;>cases y) (fun v y=>by obtain⟨xs,rfl|⟨q,rfl⟩⟩:=hb<;>cases y)
      obtain⟨d5,H6,r1,r2,r3,r4⟩:=quiet vv (.inl ⟨hw,rfl,rfl⟩) (fun is' e=>by cases e;exact hw) (by rw[hval];exact((S.me x R hV hR).2 js vv hw).keep ktt3);exact⟨_,rfl,X.fi,CF,d5,_,_,rfl,r1,Y.cl,Y.n_found,(jO _ _ _).2.1,_,rfl,X.fd,H6,rfl,r2,_,rfl,tr,CR,d3,_,_,rfl,r3,Rt.cl,Rt.n_lacking,a3,r4⟩
     ·refine .inr ⟨.inr ⟨js,vv,⟨tp0,lo0,w1,w2,w3⟩,hj⟩,fun H5 v ns1 tp f5 c5 n5 n2 g3 g4 g5=> ?_⟩
      obtain⟨d5,H6,r1,r2,r3,r4⟩:=called (fun v2 y=>by rw[hw]at y;exact hj (congrArg (·.1) (Option.some.inj y))) H5 v ns1 tp f5 c5 n5 n2 g3 g4 g5;exact⟨_,rfl,X.fi,CF,d5,_,_,rfl,r1,Y.cl,Y.n_found,(jO _ _ _).2.1,_,rfl,X.fd,H6,rfl,r2,_,rfl,tr,CR,d3,_,_,rfl,r3,Rt.cl,Rt.n_lacking,a3,r4⟩
inductive a0I(CF CB CT:Addr)(vs:List V)(H:Hp)(Q:VK)(E:XK):Prop
 |mk (fi bd fd lk ce l:Addr) (nm c:Str) (p:Nat) (B:BM) (kf:List (Ky×V)) (ys:List V) (v:V):vs= [.ref fi,.ref ce] ->dR CF CB CT H fi bd fd lk nm B kf->H ce=some (.tup ((bE nm c p).map kV))->aE B.rus (.inr c:aB)=none->Nl c->aE B.kvs (.inr c:aB)=some (.ref l)->H l=some (.lst ys)->p<B.xs.length->cL ys (p:Int)=some v->(∀v',aE kf (bE nm c p)=some v'->v'=v)->kf.length<899->(∀H' kf',(kf'=kf\/ kf'=aR kf (bE nm c p) v)->aE kf' (bE nm c p)=some v->dR CF CB CT H' fi bd fd lk nm B kf'->bC fd H H'->Q .non H')->a0I CF CB CT vs H Q E
abbrev NatG:List Str:=["self","cell","trial","told"]
theorem a82:aY NatG ["self","cell"] (aL zP):={}
theorem b0q(T:bA K mg)(Y:fO K mg CF)(Wb:cY K mg CB)(U:dQ K mg CT):aS P w K mg af aD 5 CF "attempt" ["self","cell"] (a0I CF CB CT):=by
 have G_knows:aS P w K mg af aD 4 CF "knows" ["self","cell"] (vT CF CB CT):=a36 T Y Wb U;refine Y.m_attempt.known a82 (fun _ _ _ _ _ _ us hl=>eG (fun _ _=>rfl) us hl) (fun vs H Q E h=> ?_) (fun f ah A ag s H vs Q E hr h=> ?_)
 ·obtain⟨fi,bd,fd,lk,ce,l,nm,c,p,B,kf,ys,v,rfl,_⟩:=h
  rfl
 ·obtain⟨fi,bd,fd,lk,ce,l,nm,c,p,B,kf,ys,v,rfl,F,a1,a2,a3,a4,a5,a6,a7,a8,a9,q⟩:=h
  refine⟨_,(aJ (bI (dH (cF (pv 0) Y.cl G_knows hr aO (aA (pv 1) aG)) (fun _=>rfl)) (aK (bH gT)) bL)
   (aJ cJ (aJ cJ (aJ cJ (aK cJ))))),?_⟩
  obtain⟨d0,e1⟩:=F.fin;exact⟨_,rfl,fi,d0,_,rfl,e1,jJ,_,rfl,fi,bd,fd,lk,ce,l,nm,c,p,B,kf,ys,v,rfl,F,a1,a2,a3,a4,a5,a6,a7,a8,a9,fun H' kf' h1 h2 h3 h4=>⟨_,rfl,cI (q H' kf' h1 h2 h3 h4)⟩⟩
end
inductive nS(X:SX)(x:aQ):aQ->Prop
 |refl:nS X x x
 |step {y z:aQ} (h:nS X x y) (hz:z∈(X.tree y).looks X.val) (g:X.gv z.1 z.2.1=none):nS X x z
def nB(X:SX)(wo:aQ->Option (List Int×V))(y:aQ):Option (Option V×List Int):=
 match X.rl y.1 y.2.1,(X.tree y).run X.val with
 |some R,.inr is=>if(wo y).map (·.1)=some is then none else some (R.mrk,is)
 |_,_=>none
structure pC(X:SX)(xs:List aQ)(kf kf':List (Ky×V))(wo wo':aQ->Option (List Int×V))(ns ns':List (Option V×List Int))(L:List aQ):Prop where
 nd:L.Nodup
 mem:∀y∈L,X.Vc y/\X.gv y.1 y.2.1=none/\aE kf (cK y)=none/\∃x∈xs,nS X x y
 fnd:∀y:aQ,X.gv y.1 y.2.1=none->y∉L->aE kf' (cK y)=aE kf (cK y)
 new:∀y∈L,(aE kf' (cK y)).isSome=true
 won:∀y,y∉L->wo' y=wo y
 wov:∀y∈L,∀d,(X.tree y).run X.val= .inl d->wo' y=wo y
 ns:ns'=ns++ L.filterMap (nB X wo)
theorem a0Y{α β:Type}{f g:α->Option β}:∀{l:List α},(∀y∈l,f y=g y)->l.filterMap f=l.filterMap g
 | [],_=>rfl
 |a::l,h=>by rw[List.filterMap_cons,List.filterMap_cons,h a aa,a0Y (fun y hy=>h y (List.mem_cons_of_mem _ hy))]
theorem a24{α:Type}{p q:α->Bool}{x:α}:∀{l:List α},l.Nodup->x∈l->p x=true->q x=false->(∀y∈l,y≠x->q y=p y)->l.countP q+ 1=l.countP p
 | [],_,h,_,_,_=>by cases h
 |a::l,nd,h,hp,hq,he=>by
  rw[List.nodup_cons]at nd;by_cases e:a=x
  ·subst e
   have hl:l.countP q=l.countP p:=by
    refine List.countP_congr fun y hy=> ?_
    rw[he y (List.mem_cons_of_mem _ hy) (fun z=>nd.1 (z▸hy))]
   rw[List.countP_cons_of_neg (by rw[hq];exact Bool.false_ne_true),List.countP_cons_of_pos hp,hl]
  ·have hx:x∈l:=(List.mem_cons.mp h).resolve_left (fun z=>e z.symm)
   have ih:=a24 nd.2 hx hp hq (fun y hy n=>he y (List.mem_cons_of_mem _ hy) n);have ha:=he a aa e;rw[List.countP_cons,List.countP_cons,ha];omega
def eE(X:SX)(kf:List (Ky×V)):Nat:=X.Rs.countP fun y=>(aE kf (cK y)).isNone
theorem a8r{X:SX}(O:iT X){st:List aQ}(pw:st.Pairwise fun a b=>X.rk a<X.rk b)(h:∀y∈st,X.Vc y/\X.gv y.1 y.2.1=none/\aE kf (cK y)=none):st.length<=eE X kf:=by
 have nd:st.Nodup:=pw.imp fun hab e=>by subst e;omega
 have:=tO (m:=X.Rs.filter fun y=>(aE kf (cK y)).isNone) nd (fun y hy=>List.mem_filter.mpr ⟨O.rs y (h y hy).1 (h y hy).2.1,by rw[(h y hy).2.2];rfl⟩);rw[eE,List.countP_eq_length_filter];exact this
theorem a4J{α β:Type}{R:α->β->Prop}:∀{xs:List α} {ys:List β} {y:β},Paired R xs (ys++ [y])->∃xs' x,xs=xs'++ [x] /\Paired R xs' ys/\R x y
 |_,[],_,.cons h .nil=>⟨[],_,rfl,.nil,h⟩
 |_,_::ys,_,.cons h t=>by
  obtain⟨xs',x,rfl,h1,h2⟩:=a4J (ys:=ys) t;exact⟨_::xs',x,rfl,.cons h h1,h2⟩
section
theorem iT.fxup{X:SX}(O:iT X)(l:Addr):iT {X with fx:=l::X.fx}:=
 ⟨O.o,O.un,O.rr,O.ru,O.no,O.rf,O.gg,O.ft,O.mb,O.mm,O.md,O.cc,O.cl,O.fl,O.nu,O.ni,O.b8,O.ab,fun a e=>List.mem_cons_of_mem _ (O.cf a e),O.rs,O.rs',O.rn,O.sem,O.lks,O.oks⟩
theorem iB.fxup{fx:List Addr}{n:Int}(hl:∀ys,H l≠some (.lst ys)):∀{wo:Option (List Int×V)},iB fx H mk n wo->iB (l::fx) H mk n wo
 |none,h=>h
 |some jv,⟨tp,lo,a,b,c,d⟩=>⟨tp,lo,a,b,c,fun hm=>(List.mem_cons.mp hm).elim (fun y=>hl _ (y▸c)) d⟩
theorem iB.fxdown{fx:List Addr}{n:Int}:∀{wo:Option (List Int×V)},iB (l::fx) H mk n wo->iB fx H mk n wo
 |none,h=>h
 |some jv,⟨tp,lo,a,b,c,d⟩=>⟨tp,lo,a,b,c,fun hm=>d (List.mem_cons_of_mem _ hm)⟩
variable{X:SX}
theorem SB.fxup(S:SB P w K mg af RG CF CB CT zt X kf kl mem wo cs ns H)(hl:H l=none)(s:aF H H')(h':H' l≠none):SB P w K mg af RG CF CB CT zt {X with fx:=l::X.fx} kf kl mem wo cs ns H':=by
 have S':=S.same s;have nl:∀ys,H l≠some (.lst ys):=fun ys y=>by rw[hl]at y;cases y
 refine⟨S'.F,S'.fd,S'.ko,S'.fo,S'.fp,S'.lp,S'.ln,S'.cz,S'.hl,S'.lo,S'.cols,S'.cd,S'.rg,S'.rm,S'.rt,S'.ra,fun x R a b=>⟨((S.me x R a b).1.fxup nl).mv rfl (bQ.of s) (fun b ys _ e=>s _ _ e),(S'.me x R a b).2⟩,fun t c R j a b=>⟨((S.ab t c R j a b).1.fxup nl).mv rfl (bQ.of s) (fun b ys _ e=>s _ _ e),(S'.ab t c R j a b).2⟩,S'.ca,fun h=>Paired.imp (?_) (S.nt h),fun b hb=>(List.mem_cons.mp hb).elim (fun y=>y▸h') (S'.fx b),S'.tb⟩;rintro a b ⟨lc,h1,h2⟩;exact⟨lc,h1.mv (bQ.of s) (s _ _ h1.1),fun hm=>(List.mem_cons.mp hm).elim (fun y=>nl _ (y▸h1.1)) h2⟩
theorem SB.fxdown(S:SB P w K mg af RG CF CB CT zt {X with fx:=l::X.fx} kf kl mem wo cs ns H):SB P w K mg af RG CF CB CT zt X kf kl mem wo cs ns H:=
 ⟨S.F,S.fd,S.ko,S.fo,S.fp,S.lp,S.ln,S.cz,S.hl,S.lo,S.cols,S.cd,S.rg,S.rm,S.rt,S.ra,fun x R a b=>⟨(S.me x R a b).1.fxdown,(S.me x R a b).2⟩,fun t c R j a b=>⟨(S.ab t c R j a b).1.fxdown,(S.ab t c R j a b).2⟩,S.ca,fun h=>Paired.imp (fun a b ⟨lc,h1,h2⟩=>⟨lc,h1,fun hm=>h2 (List.mem_cons_of_mem _ hm)⟩) (S.nt h),fun b hb=>S.fx b (List.mem_cons_of_mem _ hb),S.tb⟩
theorem SB.own(S:SB P w K mg af RG CF CB CT zt {X with fx:=l::X.fx} kf kl mem wo cs ns H){H0:Hp}(hl:H l=some (.lst zs))(u:bC l H H')(h':H' l≠none)(nca:X.ca≠some l)(nr:∀tb∈X.tabs,l≠tb.2.r/\l≠tb.2.od)(nc:∀t c ys B,X.gv t c=some ys->(t,B)∈X.tabs->aE B.kvs (.inr c:aB)≠some (.ref l))(nt:∀t c R,X.rl t c=some R->l∉R.ft):SB P w K mg af RG CF CB CT zt {X with fx:=l::X.fx} kf kl mem wo cs ns H':=by
 have k1:∀b o,H b=some o->(∀y,o≠ .lst y)->H' b=some o:=fun b o e n=>u b o (fun y=>by rw[y,hl]at e;exact n _ (Option.some.inj e).symm) e
 have k2:∀b ys,b∉ [l] ->H b=some (.lst ys)->H' b=some (.lst ys):=fun b ys n e=>u b _ (fun y=>n (by rw[y];exact List.mem_singleton.mpr rfl)) e
 have k3:∀b ys,b∉l::X.fx->H b=some (.lst ys)->H' b=some (.lst ys):=fun b ys n e=>k2 b ys (fun hm=>n (by rw[List.mem_singleton.mp hm];exact aa)) e
 refine S.mv [l] (fun b o e n _=>k1 b o e n) k2 (fun b hb=> ?_) (fun b hb=> ?_) (fun b hb=> ?_) (fun b hb=> ?_) (fun b hb=> ?_) ⟨S.ca.1,fun a e=>u _ _ (fun y=>nca (y▸e)) (S.ca.2 a e)⟩ (fun h=>Paired.imp (fun a b h=>h.mv (fun a xs e=>k1 _ _ e nk) k3) (S.nt h)) ?_
 ·by_cases e:b=l
  ·rw[e];exact h'
  ·cases e2:H b with
   |none=>exact absurd e2 (S.fx b hb)
   |some o=>rw[u b o e e2];exact fun y=>by cases y
 ·rw[List.mem_singleton.mp hb];exact aa
 ·rw[List.mem_singleton.mp hb];exact nr
 ·rw[List.mem_singleton.mp hb];exact nc
 ·rw[List.mem_singleton.mp hb];exact nt
 ·exact nY S.tb fun b o _ _ n e=>k1 b o e n
theorem SB.apart(S:SB P w K mg af RG CF CB CT zt X kf kl mem wo cs ns H)(hl:H l=none):X.ca≠some l/\(∀tb∈X.tabs,l≠tb.2.r/\l≠tb.2.od)/\(∀t c ys B,X.gv t c=some ys->(t,B)∈X.tabs->aE B.kvs (.inr c:aB)≠some (.ref l))/\∀t c R,X.rl t c=some R->l∉R.ft:=by
 refine⟨S.ca.new hl,fun tb htb=>⟨fun y=> ?_,fun y=> ?_⟩,fun t c ys B g h y=> ?_,fun t c R hR hm=> ?_⟩
 ·have:=(S.F tb htb).B.tab.rows
  rw[<- y,hl]at this;cases this
 ·have:=(S.F tb htb).B.ord
  rw[<- y,hl]at this;cases this
 ·obtain⟨l',h1,h2⟩:=S.cols t c ys B g h
  rw[y]at h1;cases h1;rw[hl]at h2;cases h2
 ·obtain⟨o,e,_⟩:=S.rt t c R hR l hm
  rw[hl]at e;cases e
end
section
def AtR(P:Program)(w:World)(K:Fg)(mg:Str->Option Value)(af:Heap)(RG:Addr->Sp->Prop)(CF CB CT zt:Addr)(C:Addr)(sp:Sp):Prop:=C=CF/\(sp=a0I CF CB CT\/ sp=zC CF CB CT\/ sp=zO P w K mg af RG CF CB CT zt)
inductive tU(P:Program)(w:World)(K:Fg)(mg:Str->Option Value)(af:Heap)(RG:Addr->Sp->Prop)(CF CB CT zt:Addr)(vs:List V)(H:Hp)(Q:VK)(E:XK):Prop
 |mk (X:SX) (x:aQ) (ce:Addr) (kf kl:List (Ky×V)) (mem:Str->Str->List (aB×V)) (wo:aQ->Option (List Int×V)) (cs:List V) (ns:List (Option V×List Int)):vs= [.ref X.fi,.ref ce] ->iT X->SB P w K mg af RG CF CB CT zt X kf kl mem wo cs ns H->mW P w K mg af X H->cs.length+ X.Rs.length<900->X.Vc x->H ce=some (.tup ((cK x).map kV))->(∀H' v kf' kl' mem' wo' cs' ns' L,SB P w K mg af RG CF CB CT zt X kf' kl' mem' wo' cs' ns' H'->dP X zt H H'->aE kf' (cK x)=some v->Pd K H' v (X.val x)->pC X [x] kf kf' wo wo' ns ns' L->cs'.length+ eE X kf'<=cs.length+ eE X kf->Q v H')->tU P w K mg af RG CF CB CT zt vs H Q E
abbrev Nvo:List Str:=["self","cell","waiting","lacking"]
theorem a0l:aY Nvo ["self","cell"] (aL a2k):={}
inductive xE(P:Program)(w:World)(K:Fg)(mg:Str->Option Value)(af:Heap)(RG:Addr->Sp->Prop)(CF CB CT zt:Addr)(X:SX)(x:aQ)(ce wl:Addr)(kf:List (Ky×V))(wo:aQ->Option (List Int×V))(cs:List V)(ns:List (Option V×List Int))(H:Hp)(b:Bool)(H2:Hp):Prop
 |mk (kf' kl':List (Ky×V)) (mem':Str->Str->List (aB×V)) (wo':aQ->Option (List Int×V)) (cs':List V) (ns':List (Option V×List Int)) (v:V) (L:List aQ):SB P w K mg af RG CF CB CT zt {X with fx:=wl::X.fx} kf' kl' mem' wo' cs' ns' H2->dP X zt H H2->aE kf' (cK x)=some v->Pd K H2 v (X.val x)->pC X [x] kf kf' wo wo' ns ns' L->cs'.length+ eE X kf'<=cs.length+ eE X kf->(b=true->H2 ce=some (.tup ((cK x).map kV)))->xE P w K mg af RG CF CB CT zt X x ce wl kf wo cs ns H b H2
inductive StkT(P:Program)(w:World)(K:Fg)(mg:Str->Option Value)(af:Heap)(RG:Addr->Sp->Prop)(CF CB CT zt:Addr)(X:SX)(x:aQ)(ce wl:Addr)(kf:List (Ky×V))(wo:aQ->Option (List Int×V))(cs:List V)(ns:List (Option V×List Int))(H:Hp)(m:Nat)(σ:St)(H2:Hp):Prop
 |mk (o3:Option V) (st:List aQ) (vs:List V) (kf' kl':List (Ky×V)) (mem':Str->Str->List (aB×V)) (wo':aQ->Option (List Int×V)) (cs':List V) (ns':List (Option V×List Int)) (L:List aQ):σ= [some (.ref X.fi),some (.ref ce),some (.ref wl),o3] ->SB P w K mg af RG CF CB CT zt {X with fx:=wl::X.fx} kf' kl' mem' wo' cs' ns' H2->mW P w K mg af X H2->dP X zt H H2->H2 wl=some (.lst vs)->Paired (oF H2) vs st.reverse->H2 ce=some (.tup ((cK x).map kV))->st.Pairwise (fun a b=>X.rk a<X.rk b)->(∀y∈st,X.Vc y/\X.gv y.1 y.2.1=none/\aE kf' (cK y)=none/\nS X x y)->(x∈st\/ (aE kf' (cK x)).isSome=true)->pC X [x] kf kf' wo wo' ns ns' L->cs'.length+ eE X kf'<=cs.length+ eE X kf->m=2* eE X kf'- st.length->StkT P w K mg af RG CF CB CT zt X x ce wl kf wo cs ns H m σ H2
inductive qP(P:Program)(w:World)(K:Fg)(mg:Str->Option Value)(af:Heap)(RG:Addr->Sp->Prop)(CF CB CT zt:Addr)(X:SX)(x:aQ)(ce wl:Addr)(kf:List (Ky×V))(wo:aQ->Option (List Int×V))(cs:List V)(ns:List (Option V×List Int))(H:Hp)(H1:Hp)(m:Nat)(σ:St)(H2:Hp):Prop
 |a:m=1->σ= [some (.ref X.fi),some (.ref ce),some (.ref wl),none] ->H2=H1->qP P w K mg af RG CF CB CT zt X x ce wl kf wo cs ns H H1 m σ H2
 |b (o3:Option V):m=0->σ= [some (.ref X.fi),some (.ref ce),some (.ref wl),o3] ->H2 wl=some (.lst [])->xE P w K mg af RG CF CB CT zt X x ce wl kf wo cs ns H true H2->qP P w K mg af RG CF CB CT zt X x ce wl kf wo cs ns H H1 m σ H2
theorem a8y(T:bA K mg){CR:Addr}(Rt:mR K mg CR)(Y:fO K mg CF)(Wb:cY K mg CB)(Z:dQ K mg CT){z:Addr×Addr}(B2:kO K mg "Finder" "gathered" "Finder.gathered" iI z)(M:jQ mg af z.1 z.2)(hRG:∀C sp,RG C sp->cG K C/\aS P w K mg af aD 8 C "gather" ["self","look","many","table","column","place"] sp):aS P w K mg af aD 11 CF "value_of" ["self","cell"] (tU P w K mg af RG CF CB CT z.2):=by
 have G_at:∀C sp,AtR P w K mg af RG CF CB CT z.2 C sp->cG K C/\aS P w K mg af aD 10 C "attempt" ["self","cell"] sp:=fun C sp h=>by
  obtain⟨rfl,rfl|rfl|rfl⟩:=h
  ·exact⟨Y.cl,aS.le (b0q T Y Wb Z) (by decide)⟩
  ·exact⟨Y.cl,aS.le (a5R T Y Wb) (by decide)⟩
  ·exact⟨Y.cl,a9L T Rt Y Wb Z B2 M hRG⟩
 refine Y.m_value_of.known a0l (fun _ _ _ _ _ _ us hl=>eG (fun _ _=>rfl) us hl) (fun vs H Q E h=> ?_) (fun f ah A ag s H vs Q E hr h=> ?_)
 ·obtain⟨X,x,ce,kf,kl,mem,wo,cs,ns,rfl,_⟩:=h
  rfl
 ·obtain⟨X,x,ce,kf,kl,mem,wo,cs,ns,rfl,O,S,fnA,c9,hV,hce,q⟩:=h
  have hu:=dY hr
  refine⟨_,(aJ (cA (i:=2) a0l.nd rfl (Or.inl rfl) (fC (aA (pv 1) aG)))
   (aJ (a1R PassesOwn.never (a4V (pv 2) (fun _=>rfl)) (aJ (cA (i:=3) a0l.nd rfl (Or.inl rfl) (tJ (pv 0) G_at hr aO (aA (cW jR (pv 2) (a8N a5c bB) (fun _ _=>rfl)) aG)))
   (aK (bI (cR pL (pv 3) gT (dA _)) (aK (bW (a1A F.plainAttrs_list F.slot_list_pop F.type_list_pop a8X (pv 2)))) (aK (bW (lZ F.plainAttrs_list F.slot_list_append F.type_list_append lO (pv 2) (aA (pv 3) aG))))))))
   (aK (bH (gE hu (aV (pv 0) rfl) (pv 1) (fun _ _=>rfl)))))),?_⟩
  refine⟨_,rfl,sl,fun wl hwl=> ?_⟩;have s1:=aF.new (o:=.lst [.ref ce]) hwl;have w1:upd H wl (.lst [.ref ce]) wl=some (.lst [.ref ce]):=aI
  generalize upd H wl (.lst [.ref ce])=H1 at s1 w1|-
  obtain⟨nca,nr,nc,nft⟩:=S.apart hwl;have O1:=O.fxup wl;have S1:=S.fxup hwl s1 (by rw[w1];exact fun y=>by cases y);have fn1:=fnA.keep (cD.of s1);have ce1:=s1 _ _ hce;obtain⟨kin,B,hB,hp,hcase⟩:=O.o.v x hV;have nz:∀{Hx:Hp} {kf' kl':List (Ky×V)} {mem':Str->Str->List (aB×V)} {wo':aQ->Option (List Int×V)} {cs':List V} {ns':List (Option V×List Int)} {zs:List V},SB P w K mg af RG CF CB CT z.2 {X with fx:=wl::X.fx} kf' kl' mem' wo' cs' ns' Hx->∀{H':Hp},dP X z.2 Hx H'->Hx wl=some (.lst zs)->H' wl=some (.lst zs):= @fun Hx kf' kl' mem' wo' cs' ns' zs S' H' f e=>S'.k f e nk nk nk nca
  let Fin:=xE P w K mg af RG CF CB CT z.2 X x ce wl kf wo cs ns H true
  have fin:∀{H2:Hp} {o3:Option V},Fin H2->∃v1,some (some (V.ref X.fi))=some (some v1)/\∃p C dx fs v,v1= .ref p/\H2 p=some (.ins C dx fs)/\cG K C/\cE K C "found" /\fs.lookup ("found":Str)=some v/\∃v2,some (some (V.ref ce))=some (some v2)/\∃d r,v= .ref d/\bU H2 d v2 (some r)/\Q r H2:=fun{H2 o3} h=>by
   obtain⟨kf',kl',mem',wo',cs',ns',v,L,S2,f2,hv,hpd,ve,hc,c2⟩:=h;obtain⟨d2,e2⟩:=(S2.F _ hB).fin;exact⟨_,rfl,X.fi,CF,d2,_,_,rfl,e2,Y.cl,Y.n_found,(jO _ _ _).2.1,_,rfl,X.fd,v,rfl,.inr ⟨kf',cK x,ce,.inl S2.fd,rfl,c2 rfl,hv.symm⟩,q H2 v kf' kl' mem' wo' cs' ns' L S2.fxdown f2 hv hpd ve hc⟩
  have popped:∀{H2:Hp},xE P w K mg af RG CF CB CT z.2 X x ce wl kf wo cs ns H false H2->∀{zs:List V},H2 wl=some (.lst zs)->H2 ce=some (.tup ((cK x).map kV))->Fin (upd H2 wl (.lst [])):=fun{H2} h {zs} h2 hc2=>by
   obtain⟨kf',kl',mem',wo',cs',ns',v,L,S2,f2,hv,hpd,ve,hc,_⟩:=h;have u:bC wl H2 (upd H2 wl (.lst [])):=fun b o n e=>by rw[aH n];exact e
   have ktt:eI H2 (upd H2 wl (.lst [])):=eI.upd h2 nk (fun _ _ y=>by cases y);exact⟨kf',kl',mem',wo',cs',ns',v,L,S2.own (H0:=H) h2 u (by rw[aI];exact fun y=>by cases y) nca nr nc nft,fun b o n1 n2 n3 n4 n5 e=>u _ _ (aX e hwl) (f2 b o n1 n2 n3 n4 n5 e),hv,hpd.keep ktt,ve,hc,fun _=>u _ _ (fun y=>by rw[y,h2]at hc2;cases hc2) hc2⟩
  rcases hcase with⟨ys,g,ly,ncl,hru⟩|⟨g,r,hru⟩
  ·obtain⟨l,hkv,hlc⟩:=S1.cols x.1 x.2.1 ys B g hB
   have hpy:x.2.2<ys.length:=by rw[ly];exact hp
   obtain⟨v,hv'⟩:∃v,ys[x.2.2]?=some v:=⟨_,List.getElem?_eq_getElem hpy⟩;have ha:=rF hv';have kl8:kf.length<=X.Ks.length:=S1.ko.len;have k8:=O.o.k8;refine⟨qP P w K mg af RG CF CB CT z.2 X x ce wl kf wo cs ns H H1,⟨1,.a rfl rfl rfl⟩,?_⟩;rintro m σ H2 (⟨rfl,rfl,rfl⟩|⟨o3,rfl,rfl,h2,hF⟩)
   ·refine⟨_,rfl,_,.inl ⟨_,aM.of w1,rfl⟩,?_⟩
    refine bY (fun _=> ?_) (fun g=>absurd rfl g);refine⟨fun σ' H'=>∃m',m'<1/\qP P w K mg af RG CF CB CT z.2 X x ce wl kf wo cs ns H H2 m' σ' H',fun σ' H' h=>h,?_⟩;obtain⟨d1,e1⟩:=(S1.F _ hB).fin;refine⟨_,rfl,CF,_,X.fi,d1,_,⟨rfl,.inl rfl⟩,rfl,e1,jJ,_,rfl,_,rfl,wl,_,_,_,rfl,rfl,aM.of w1,rfl,?_⟩;refine⟨X.fi,X.bd,X.fd,X.lk,ce,l,x.1,x.2.1,x.2.2,B,kf,ys,v,rfl,S1.F _ hB,ce1,hru,ncl,hkv,hlc,hp,ha,fun v' e=> ?_,by show kf.length<899;omega,fun H3 kf' hk vk F3 b3=> ?_⟩
    ·have:=S1.fo _ _ _ v' ys g e
     rw[ha]at this;exact(Option.some.inj this).symm
    refine⟨_,rfl,rfl,_,rfl,cI ?_⟩;have f3:dP X z.2 H2 H3:=fun b o n1 _ _ _ _ e=>b3 b o n1 e
    have kt3:=S1.ktt f3;have kl3:=S1.kl' O1 f3;have n3:∀{b:Addr} {o:HO},H2 b=some o->(∀y,o≠ .dT y)->H3 b=some o:=fun e n=>b3 _ _ (fun y=>by rw[y,S1.fd]at e;exact n _ (Option.some.inj e).symm) e
    have same:∀y:aQ,X.gv y.1 y.2.1=none->aE kf' (cK y)=aE kf (cK y):=fun y gy=>by
     rcases hk with rfl|rfl
     ·rfl
     ·rw[gA,if_neg (fun h=>by
       have:=sM (x:=y) (y:=x) h;subst this;rw[g]at gy
       cases gy)]
    have ko':eJ X.Ks kf':=by
     rcases hk with rfl|rfl
     ·exact S1.ko
     ·exact S1.ko.put kin
    have S3:SB P w K mg af RG CF CB CT z.2 {X with fx:=wl::X.fx} kf' kl mem wo cs ns H3:=S1.to O1 f3 F3.fnd ko' (fun t' c' p' v' ys' g' e=>by
     rcases hk with rfl|rfl
     ·exact S1.fo t' c' p' v' ys' g' e
     ·rw[gA]at e
      split at e
      ·next h=>
       have:=sM (x:=(t',c',p')) (y:=x) h;subst this;rw[show X.gv t' c'=some ys from g]at g';rw[<- Option.some.inj g',<- Option.some.inj e];exact ha
      ·exact S1.fo t' c' p' v' ys' g' e) (fun x' v' a b c=>by
      rw[same x' b]at c
      exact⟨(S1.fp x' v' a b c).1.keep kt3,(S1.fp x' v' a b c).2⟩) (fun x' v' a b c=>by
      rw[same x' b]at c;obtain⟨tl',kt',h1,h2,h3,h4,h5⟩:=S1.lp x' v' a b c
      exact⟨tl',kt',h1,b3 _ _ h3 h2,h3,h4,h5⟩) (fun x' a b c=>by
      rw[same x' b]at c
      exact S1.ln x' a b c) (fun x' v' a b c y hy gy=>by
      rw[same x' b]at c;rw[same y gy]
      exact S1.cz x' v' a b c y hy gy) (b3 _ _ O.fl.symm S1.hl) S1.lo (fun t c R' h=>⟨n3 (S1.rm t c R' h).1 nk,(S1.rm t c R' h).2⟩) (fun x' R' a b=>⟨(S1.me x' R' a b).1.mv rfl kt3.t kl3,fun is v e=>((S1.me x' R' a b).2 is v e).keep kt3⟩) (fun t c R' j a b=>⟨(S1.ab t c R' j a b).1.mv rfl kt3.t kl3,fun is v e=>((S1.ab t c R' j a b).2 is v e).keep kt3⟩) ⟨S1.ca.1,fun a e=>n3 (S1.ca.2 a e) nk⟩ (fun h=>Paired.imp (fun a b h=>h.mv kt3.t kl3) (S1.nt h)) (nY S1.tb fun b o n1 _ _ e=>n3 e n1)
    have w3:=n3 w1 nk;refine⟨_,rfl,.inl ⟨rfl,_,aM.of w3⟩,wl,_,_,rfl,rfl,w3,rfl,0,by decide,.b _ rfl rfl aI (popped ⟨kf',kl,mem,wo,cs,ns,v,[],S3,(dP.of s1).trans f3,vk,(S1.cd _ _ _ _ _ g ha).keep kt3,⟨List.nodup_nil,fun y hy=>(by cases hy),fun y gy _=>same y gy,fun y hy=>(by cases hy),fun _ _=>rfl,fun y hy=>(by cases hy),by rw[List.filterMap_nil,List.append_nil]⟩,?_,fun h=>(by cases h)⟩ w3 (n3 ce1 nk))⟩;rw[eE,eE];have:X.Rs.countP (fun y=>(aE kf' (cK y)).isNone)=X.Rs.countP (fun y=>(aE kf (cK y)).isNone):=List.countP_congr fun y hy=>by rw[same y (O.rs' y hy)]
    omega
   ·refine⟨_,rfl,_,.inl ⟨_,aM.of h2,rfl⟩,?_⟩
    exact bY (fun g=>by cases g) (fun _=>fin (o3:=o3) hF)
  ·obtain⟨R,hR⟩:=O.rr x hV g
   cases hk:aE kf (cK x)with
   |some v=>
    refine⟨qP P w K mg af RG CF CB CT z.2 X x ce wl kf wo cs ns H H1,⟨1,.a rfl rfl rfl⟩,?_⟩;rintro m σ H2 (⟨rfl,rfl,rfl⟩|⟨o3,rfl,rfl,h2,hF⟩)
    ·refine⟨_,rfl,_,.inl ⟨_,aM.of w1,rfl⟩,?_⟩
     refine bY (fun _=> ?_) (fun g=>absurd rfl g);refine⟨fun σ' H'=>∃m',m'<1/\qP P w K mg af RG CF CB CT z.2 X x ce wl kf wo cs ns H H2 m' σ' H',fun σ' H' h=>h,?_⟩;obtain⟨d1,e1⟩:=(S1.F _ hB).fin;refine⟨_,rfl,CF,_,X.fi,d1,_,⟨rfl,.inr (.inl rfl)⟩,rfl,e1,jJ,_,rfl,_,rfl,wl,_,_,_,rfl,rfl,aM.of w1,rfl,?_⟩;refine⟨X.fi,X.bd,X.fd,X.lk,ce,x.1,x.2.1,x.2.2,B,kf,r,v,rfl,S1.F _ hB,ce1,hru,hk,?_⟩;refine⟨_,rfl,rfl,_,rfl,cI ?_⟩;exact⟨_,rfl,.inl ⟨rfl,_,aM.of w1⟩,wl,_,_,rfl,rfl,w1,rfl,0,by decide,.b _ rfl rfl aI (popped ⟨kf,kl,mem,wo,cs,ns,v,[],S1,dP.of s1,hk,(S1.fp x v hV g hk).1,⟨List.nodup_nil,fun y hy=>(by cases hy),fun y gy _=>rfl,fun y hy=>(by cases hy),fun _ _=>rfl,fun y hy=>(by cases hy),by rw[List.filterMap_nil,List.append_nil]⟩,Nat.le_refl _,fun h=>(by cases h)⟩ w1 ce1)⟩
    ·refine⟨_,rfl,_,.inl ⟨_,aM.of h2,rfl⟩,?_⟩
     exact bY (fun g=>by cases g) (fun _=>fin (o3:=o3) hF)
   |none=>
    let Stk:=StkT P w K mg af RG CF CB CT z.2 X x ce wl kf wo cs ns H
    have stlen:∀{st:List aQ} {kf':List (Ky×V)},st.Pairwise (fun a b=>X.rk a<X.rk b)->(∀y∈st,X.Vc y/\X.gv y.1 y.2.1=none/\aE kf' (cK y)=none/\nS X x y)->st.length<=eE X kf':=fun pw h=>a8r O pw fun y hy=>⟨(h y hy).1,(h y hy).2.1,(h y hy).2.2.1⟩
    have ulen:eE X kf<=X.Rs.length:=List.countP_le_length;refine⟨Stk,⟨_,none,[x],[.ref ce],kf,kl,mem,wo,cs,ns,[],rfl,S1,fn1,dP.of s1,w1,.cons ⟨ce,rfl,ce1⟩ .nil,ce1,List.pairwise_singleton _ _,fun y hy=> ?_,.inl (List.mem_singleton.mpr rfl),⟨List.nodup_nil,fun y hy=>(by cases hy),fun y gy _=>rfl,fun y hy=>(by cases hy),fun _ _=>rfl,fun y hy=>(by cases hy),by rw[List.filterMap_nil,List.append_nil]⟩,Nat.le_refl _,rfl⟩,?_⟩
    ·rw[List.mem_singleton.mp hy]
     exact⟨hV,g,hk,.refl⟩
    rintro m σ H2 ⟨o3,st,vs,kf',kl',mem',wo',cs',ns',L,rfl,S2,fn2,f2,h2,hvs,c2,pw,hst,hx,ve,hc,rfl⟩
    cases st with
    |nil=>
     cases hvs;refine⟨_,rfl,_,.inl ⟨_,aM.of h2,rfl⟩,?_⟩;refine bY (fun g=>by cases g) (fun _=> ?_);have hx:(aE kf' (cK x)).isSome=true:=hx.resolve_left (fun h=>by cases h);obtain⟨v,hv⟩:=Option.isSome_iff_exists.mp hx;exact fin (o3:=o3) ⟨kf',kl',mem',wo',cs',ns',v,L,S2,f2,hv,(S2.fp x v hV g hv).1,ve,hc,fun _=>c2⟩
    |cons aU cH=>
     have ml:=stlen pw hst;rw[List.reverse_cons]at hvs;obtain⟨vs',tv,rfl,hvs',ta,rfl,hta⟩:=a4J hvs;obtain⟨tV,tg,tn,tD⟩:=hst aU aa;obtain⟨R2,hR2⟩:=O.rr aU tV tg;refine⟨_,rfl,_,.inl ⟨_,aM.of h2,rfl⟩,?_⟩;refine bY (fun _=> ?_) (fun g=>absurd (by cases vs'<;>rfl) g);refine⟨fun σ' H'=>∃m',m'<2* eE X kf'- (aU::cH).length/\Stk m' σ' H',fun σ' H' h=>h,?_⟩;obtain⟨d2,e2⟩:=(S2.F _ hB).fin;refine⟨_,rfl,CF,_,X.fi,d2,_,⟨rfl,.inr (.inr rfl)⟩,rfl,e2,jJ,_,rfl,_,rfl,wl,_,_,_,rfl,rfl,aM.of h2,a8R _ _,?_⟩;have hlen:=Paired.length hvs';rw[List.length_reverse]at hlen;have rl:cH.length+ 1<=eE X kf':=ml;refine⟨{X with fx:=wl::X.fx},aU,R2,ta,kf',kl',mem',wo',cs',ns',rfl,O1,S2,fn2,by omega,tV,hR2,tn,hta,fun H3 rr kf3 kl3 mem3 wo3 cs3 ns3 S3 f3 en=> ?_⟩;have f3:dP X z.2 H2 H3:=f3;have kt3:=S2.ktt f3;have w3:=nz S2 f3 h2;have c3:=kt3.t _ _ c2;have fn3:=fn2.keep (S2.kz f3);have fr3:=f2.trans f3;have hvs3:Paired (oF H3) vs' cH.reverse:=Paired.imp (fun a b h=>h.keep kt3.t) hvs';have hwlH:∀{b:Addr} {o:HO},H b=some o->b≠wl:=fun e=>aX e hwl
     rcases en with⟨rfl,rfl,rfl,la,y,rfl,hla,hy,gy,ny,same⟩|⟨rfl,cl3,v,hv,same,en⟩
     ·
      refine⟨_,rfl,rfl,_,rfl,bG ?_⟩;refine⟨_,rfl,.inl ⟨rfl,_,aM.of w3⟩,_,rfl,wl,_,_,rfl,rfl,w3,eD (by rw[List.length_append];show vs'.length+ 1<=1000;omega),?_⟩;have u:bC wl H3 (upd H3 wl (.lst (vs'++ [.ref ta] ++ [.ref la]))):=fun b o n e=>by rw[aH n];exact e
      have ktt:bQ H3 (upd H3 wl (.lst (vs'++ [.ref ta] ++ [.ref la]))):=bQ.upd w3 nk;have kz4:cD H3 (upd H3 wl (.lst (vs'++ [.ref ta] ++ [.ref la]))):=cD.but u w3 nk;obtain⟨yV,yr⟩:=O.lks aU R2 tV hR2 y hy;have yr:=yr gy;have uu:eE X kf3=eE X kf':=List.countP_congr fun z' hz=>by rw[same z' (O.rs' z' hz)]
      refine⟨2* eE X kf3- (y::aU::cH).length,by rw[uu];show 2* eE X kf'- (cH.length+ 1+ 1)<2* eE X kf'- (cH.length+ 1);omega,_,y::aU::cH,_,kf3,kl3,mem3,wo3,cs3,ns3,L,rfl,S3.own (H0:=H) w3 u (by rw[aI];exact fun y=>by cases y) nca nr nc nft,fn3.keep kz4,fun b o n1 n2 n3 n4 n5 e=>u _ _ (hwlH e) (fr3 b o n1 n2 n3 n4 n5 e),aI,?_,ktt _ _ c3,?_,fun y' hy'=> ?_,?_,?_,by rw[uu];exact hc,rfl⟩
      ·rw[List.reverse_cons,List.reverse_cons]
       exact Paired.snoc ⟨la,rfl,ktt _ _ hla⟩ (Paired.snoc ⟨ta,rfl,ktt _ _ (kt3.t _ _ hta)⟩ (Paired.imp (fun a b h=>h.keep ktt) hvs3))
      ·refine List.pairwise_cons.mpr ⟨fun b hb=> ?_,pw⟩
       rcases List.mem_cons.mp hb with rfl|hb
       ·exact yr
       ·exact Nat.lt_trans yr ((List.pairwise_cons.mp pw).1 b hb)
      ·rcases List.mem_cons.mp hy' with rfl|hy'
       ·exact⟨yV,gy,by rw[same y' gy];exact ny,.step tD hy gy⟩
       ·obtain⟨a1,a2,a3,a4⟩:=hst y' hy'
        exact⟨a1,a2,by rw[same y' a2];exact a3,a4⟩
      ·rcases hx with hx|hx
       ·exact .inl (List.mem_cons_of_mem _ hx)
       ·exact .inr (by rw[same x g];exact hx)
      ·exact⟨ve.nd,ve.mem,fun y' g' n'=>by rw[same y' g',ve.fnd y' g' n'],fun y' h'=>by rw[same y' (ve.mem y' h').2.1];exact ve.new y' h',ve.won,ve.wov,ve.ns⟩
     ·
      refine⟨_,rfl,rfl,_,rfl,cI ?_⟩;refine⟨_,rfl,.inl ⟨rfl,_,aM.of w3⟩,wl,_,.ref ta,rfl,rfl,w3,by rw[List.length_append];show(vs'++ [V.ref ta])[vs'.length+ 1- 1]?=_;rw[Nat.add_sub_cancel,List.getElem?_append_right (Nat.le_refl _),Nat.sub_self];rfl,?_⟩;rw[List.dropLast_concat];have u:bC wl H3 (upd H3 wl (.lst vs')):=fun b o n e=>by rw[aH n];exact e
      have ktt:bQ H3 (upd H3 wl (.lst vs')):=bQ.upd w3 nk;have kz4:cD H3 (upd H3 wl (.lst vs')):=cD.but u w3 nk;have uu:eE X kf3+ 1=eE X kf':=a24 (p:=fun y=>(aE kf' (cK y)).isNone) (q:=fun y=>(aE kf3 (cK y)).isNone) O.rn (O.rs aU tV tg) (by rw[tn];rfl) (by rw[hv];rfl) (fun y hy n=>by rw[same y (O.rs' y hy) n]);have tnL:aU∉L:=fun hm=>by have:=ve.new aU hm;rw[tn]at this;cases this
      have wtop:wo' aU=wo aU:=ve.won aU tnL;have pw2:=List.pairwise_cons.mp pw;have nrest:∀y∈cH,y≠aU:=fun y hy e=>by have:=pw2.1 y hy;rw[e]at this;omega
      refine⟨2* eE X kf3- cH.length,by show 2* eE X kf3- cH.length<2* eE X kf'- (cH.length+ 1);omega,_,cH,_,kf3,kl3,mem3,wo3,cs3,ns3,L++ [aU],rfl,S3.own (H0:=H) w3 u (by rw[aI];exact fun y=>by cases y) nca nr nc nft,fn3.keep kz4,fun b o n1 n2 n3 n4 n5 e=>u _ _ (hwlH e) (fr3 b o n1 n2 n3 n4 n5 e),aI,Paired.imp (fun a b h=>h.keep ktt) hvs3,ktt _ _ c3,pw2.2,fun y' hy'=> ?_,?_,?_,by omega,rfl⟩
      ·obtain⟨a1,a2,a3,a4⟩:=hst y' (List.mem_cons_of_mem _ hy')
       exact⟨a1,a2,by rw[same y' a2 (nrest y' hy')];exact a3,a4⟩
      ·by_cases hxt:x=aU
       ·exact .inr (by rw[hxt,hv];rfl)
       ·rcases hx with hx|hx
        ·exact .inl ((List.mem_cons.mp hx).resolve_left hxt)
        ·exact .inr (by rw[same x g hxt];exact hx)
      ·have hwo3:(∀y,y≠aU->wo3 y=wo' y)/\(∀d,(X.tree aU).run X.val= .inl d->wo3 aU=wo' aU)/\ns3=ns'++ (nB X wo aU).toList:=by
        unfold nB;rw[hR2];have en:vR R2 aU wo' wo3 ns' ns3 v ((X.tree aU).run X.val):=en
        cases hrun:(X.tree aU).run X.val with
        |inl d=>
         rw[hrun]at en;obtain⟨rfl,rfl⟩:=en;exact⟨fun _ _=>rfl,fun _ _=>rfl,(List.append_nil _).symm⟩
        |inr is=>
         rw[hrun]at en
         rcases en with⟨h1,rfl,rfl⟩|⟨h1,rfl,rfl⟩
         ·rw[wtop]at h1
          refine⟨fun _ _=>rfl,fun _ _=>rfl,?_⟩;rw[h1];show _=_++ (if some is=some is then none else some (R2.mrk,is)).toList;rw[if_pos rfl];exact(List.append_nil _).symm
         ·refine⟨fun y n=>if_neg n,fun d e=>(by cases e),?_⟩
          rw[wtop]at h1;show _=_++ (if(wo aU).map (·.1)=some is then none else some (R2.mrk,is)).toList
          rw[if_neg (fun y=>by
           obtain⟨jv,e1,e2⟩:=Option.map_eq_some_iff.mp y
           exact h1 jv.2 (by rw[e1,<- e2]))]
          rfl
       obtain⟨hw1,hw2,hw3⟩:=hwo3;refine⟨?_,fun y hy=> ?_,fun y gy hy=> ?_,fun y hy=> ?_,fun y hy=> ?_,fun y hy d hd=> ?_,?_⟩
       ·rw[List.nodup_append]
        exact⟨ve.nd,List.pairwise_singleton _ _,fun a ha b hb=>by rw[List.mem_singleton]at hb;subst hb;exact fun y=>tnL (y▸ha)⟩
       ·rcases List.mem_append.mp hy with hy|hy
        ·exact ve.mem y hy
        ·rw[List.mem_singleton.mp hy]
         exact⟨tV,tg,by rw[<- ve.fnd aU tg tnL];exact tn,x,List.mem_singleton.mpr rfl,tD⟩
       ·have h1:y∉L:=fun h=>hy (List.mem_append_left _ h)
        have h2:y≠aU:=fun h=>hy (List.mem_append_right _ (List.mem_singleton.mpr h))
        rw[same y gy h2,ve.fnd y gy h1]
       ·rcases List.mem_append.mp hy with hy|hy
        ·rw[same y (ve.mem y hy).2.1 (fun e=>tnL (e▸hy))]
         exact ve.new y hy
        ·rw[List.mem_singleton.mp hy,hv];rfl
       ·have h1:y∉L:=fun h=>hy (List.mem_append_left _ h)
        have h2:y≠aU:=fun h=>hy (List.mem_append_right _ (List.mem_singleton.mpr h))
        rw[hw1 y h2,ve.won y h1]
       ·rcases List.mem_append.mp hy with hy|hy
        ·rw[hw1 y (fun e=>tnL (e▸hy))]
         exact ve.wov y hy d hd
        ·have:=List.mem_singleton.mp hy
         subst this;rw[hw2 d hd,wtop]
       ·rw[hw3,ve.ns,List.filterMap_append,List.append_assoc]
        congr 1
end
section
variable{X:SX}
theorem SB.sh(S:SB P w K mg af RG CF CB CT zt X kf kl mem wo cs ns H){s:Addr}(hs:∃dx,H s=some (.ins CS dx (dZ X.bd ch X.fi))){nm:Str}{B:BM}(hB:(nm,B)∈X.tabs)(nn:Nl nm):∃kb,yM CS CB CT s X.bd ch X.fi kb nm B H:=by
 obtain⟨kb,e2,e3⟩:=(S.F _ hB).bds;exact⟨kb,hs,e2,nn,e3,(S.F _ hB).B⟩
theorem sc_T(O:iT X)(S:SB P w K mg af RG CF CB CT zt X kf kl mem wo cs ns H)(fnA:mW P w K mg af X H){s:Addr}(hs:∃dx,H s=some (.ins CS dx (dZ X.bd ch X.fi))){nm:Str}{B:BM}(hB:(nm,B)∈X.tabs)(nn:Nl nm)(nc:Nl c)(co:c∈B.ord)(hV:X.Vc (nm,c,p))(c9:cs.length+ X.Rs.length<900){Q:VK}
 (q:∀H' v kf' kl' mem' wo' cs' ns' L,SB P w K mg af RG CF CB CT zt X kf' kl' mem' wo' cs' ns' H'->dP X zt H H'->aE kf' (cK (nm,c,p))=some v->Pd K H' v (X.val (nm,c,p))->pC X [(nm,c,p)] kf kf' wo wo' ns ns' L->cs'.length+ eE X kf'<=cs.length+ eE X kf->Q v H'):
 wN CS CF CB CT (tU P w K mg af RG CF CB CT zt) [.ref s,.str nm,.str c,.int (p:Int)] H Q E0:=by
 obtain⟨kb,hS⟩:=S.sh hs hB nn;obtain⟨B',hB',hp⟩:=O.B hV;have:=O.un _ _ _ hB hB';subst this;obtain⟨df,hfi⟩:=(S.F _ hB).fin;refine⟨s,X.bd,ch,X.fi,df,kb,nm,c,p,B,_,rfl,hS,nc,co,hp,hfi,jJ,fun H1 ce hce s1 c1=> ?_⟩;exact⟨X,(nm,c,p),ce,kf,kl,mem,wo,cs,ns,rfl,O,S.same s1,fnA.keep (cD.of s1),c9,hV,c1,fun H' v kf' kl' mem' wo' cs' ns' L S' f' hv pd ve hc=>q H' v kf' kl' mem' wo' cs' ns' L S' ((dP.of s1).trans f') hv pd ve hc⟩
end
structure X1 where
 fi:Addr
 bd:Addr
 fd:Addr
 lk:Addr
 nm:Str
 B:BM
 m:Nat
 gv:Str->Option (List V)
 val:Str->Nat->PyData
 rl:Str->Option RD
 tree:Str->Nat->GT
 rk:Str->Nat->Nat
 rc:List Str
 num:Nat->Nat
 bnd:Nat
 ca:Option Addr
 fx:List Addr
 abn:Nat->Prop
 wa:Str->Nat->Option (List Int×V)
def X1.sx(Y:X1):SX where
 fi:=Y.fi
 bd:=Y.bd
 fd:=Y.fd
 lk:=Y.lk
 tabs:=[(Y.nm,Y.B)]
 Ks:=Y.B.ord.flatMap fun c=>(List.range Y.m).map fun p=>bE Y.nm c p
 gv:=fun t c=>if t=Y.nm then Y.gv c else none
 Vc:=fun x=>x.1=Y.nm/\x.2.1∈Y.B.ord/\x.2.2<Y.m
 val:=fun x=>Y.val x.2.1 x.2.2
 rl:=fun t c=>if t=Y.nm then Y.rl c else none
 tree:=fun x=>Y.tree x.2.1 x.2.2
 rk:=fun x=>Y.rk x.2.1 x.2.2
 Rs:=Y.rc.flatMap fun c=>(List.range Y.m).map fun p=>(Y.nm,c,p)
 num:=fun _ p=>Y.num p
 bnd:=Y.bnd
 ca:=Y.ca
 fx:=Y.fx
 abn:=fun _ j=>Y.abn j
 wa:=fun _ c j=>Y.wa c j
def X1.v(Y:X1):aQ->PyData:=fun x=>Y.val x.2.1 x.2.2
structure X1Ok(Y:X1):Prop where
 lx:Y.B.xs.length=Y.m
 m30:Y.m<=30
 o8:Y.B.ord.length<=8
 cg:∀c∈Y.B.ord,(∃ys,Y.gv c=some ys/\ys.length=Y.m/\Nl c/\aE Y.B.rus (.inr c:aB)=none)\/ (Y.gv c=none/\∃R,Y.rl c=some R)
 rc:∀c R,Y.rl c=some R->c∈Y.rc
 rg:∀c∈Y.rc,Y.gv c=none
 rn:Y.rc.Nodup
 ru:∀c R,Y.rl c=some R->aE Y.B.rus (.inr c:aB)=some (.ref R.gr)/\aE Y.B.mes (.inr c:aB)=some (.ref R.mc)
 rf:∀c R,Y.rl c=some R->RF R.fs R.fa/\R.fs.lookup ("gather":Str)=none
 gg:∀c R,Y.rl c=some R->∀is,R.ok is->iK (R.g is)/\Vd (eX (R.g is))
 ft:∀c R,Y.rl c=some R->R.gr∈R.ft/\∀b∈R.ft,Y.ca≠some b
 mb:∀c R,Y.rl c=some R->R.mc≠Y.bd/\R.mc≠Y.B.e/\R.mc≠Y.B.ru/\R.mc≠Y.B.me
 md:∀c R c' R',Y.rl c=some R->Y.rl c'=some R'->R.mc=R'.mc->c=c'
 cc:Y.ca≠some Y.B.r/\Y.ca≠some Y.B.od
 cl:∀c ys l,Y.gv c=some ys->aE Y.B.kvs (.inr c:aB)=some (.ref l)->Y.ca≠some l
 fl:Y.fd≠Y.lk
 nu:∀p,p<Y.m->cL Y.B.xs (p:Int)=some (.int ((Y.num p:Nat):Int))/\Y.num p<Y.bnd
 ni:∀p p',p<Y.m->p'<Y.m->Y.num p=Y.num p'->p=p'
 b8:Y.bnd<=85
 ab:∀p j,p<Y.m->Y.abn j->Y.num p≠j
 cf:∀a,Y.ca=some a->a∈Y.fx
 sem:∀c R p,c∈Y.B.ord->p<Y.m->Y.rl c=some R->Y.val c p=zS R.g ((Y.tree c p).run Y.v)
 lks:∀c R p,c∈Y.B.ord->p<Y.m->Y.rl c=some R->∀y∈(Y.tree c p).looks Y.v,(y.1=Y.nm/\y.2.1∈Y.B.ord/\y.2.2<Y.m)/\(Y.gv y.2.1=none->Y.rk y.2.1 y.2.2<Y.rk c p)
 oks:∀c R p,c∈Y.B.ord->p<Y.m->Y.rl c=some R->∀is,(Y.tree c p).run Y.v= .inr is->R.ok is/\is.length<=100
theorem X1.gvn(Y:X1)(c:Str):Y.sx.gv Y.nm c=Y.gv c:=if_pos rfl
theorem X1.rln(Y:X1)(c:Str):Y.sx.rl Y.nm c=Y.rl c:=if_pos rfl
theorem X1.rl_some{Y:X1}{t:Str}{R:RD}(h:Y.sx.rl t c=some R):t=Y.nm/\Y.rl c=some R:=by
 have h:(if t=Y.nm then Y.rl c else none)=some R:=h;split at h
 ·exact⟨by assumption,h⟩
 ·cases h
theorem X1.gv_some{Y:X1}{t:Str}(h:Y.sx.gv t c=some ys):t=Y.nm/\Y.gv c=some ys:=by
 have h:(if t=Y.nm then Y.gv c else none)=some ys:=h;split at h
 ·exact⟨by assumption,h⟩
 ·cases h
theorem a0y{α β:Type}{f:α->List β}{n:Nat}(hf:∀a,(f a).length=n):∀l:List α,(l.flatMap f).length=l.length* n
 | []=>by rw[List.flatMap_nil];simp
 |a::l=>by rw[List.flatMap_cons,List.length_append,hf,a0y hf l,List.length_cons,Nat.succ_mul];omega
theorem oY{nm t:Str}{B B':BM}(h:(t,B')∈ [(nm,B)]):t=nm/\B'=B:=by
 rw[List.mem_singleton]at h;exact⟨congrArg (·.1) h,congrArg (·.2) h⟩
theorem a3p{nm:Str}{m:Nat}:∀{l:List Str},l.Nodup->(l.flatMap fun c=>(List.range m).map fun p=>((nm,c,p):aQ)).Nodup
 | [],_=>by rw[List.flatMap_nil];exact List.nodup_nil
 |c::l,h=>by
  rw[List.nodup_cons]at h;rw[List.flatMap_cons,List.nodup_append];refine⟨?_,a3p h.2,fun a ha b hb e=> ?_⟩
  ·exact(List.nodup_range (n:=m)).map (f:=fun p=>((nm,c,p):aQ)) (fun a b h e=>h (by have:=congrArg (fun x:aQ=>x.2.2) e;exact this))
  ·obtain⟨p,_,rfl⟩:=List.mem_map.mp ha
   obtain⟨c',hc',hb⟩:=List.mem_flatMap.mp hb;obtain⟨p',_,rfl⟩:=List.mem_map.mp hb;have:c=c':=congrArg (fun x:aQ=>x.2.1) e;exact h.1 (this▸hc')
theorem a5D{Y:X1}(O:X1Ok Y):iT Y.sx where
 o:=⟨by
  show(Y.B.ord.flatMap fun c=>(List.range Y.m).map fun p=>bE Y.nm c p).length<=800;rw[a0y (n:=Y.m) (fun a=>by rw[List.length_map,List.length_range])];have h1:=O.m30;have h2:=O.o8;have:Y.B.ord.length* Y.m<=8* 30:=Nat.mul_le_mul h2 h1;omega,fun x hx=>by
  obtain⟨t,c,p⟩:=x;obtain⟨rfl,hc,hp⟩:=hx;refine⟨List.mem_flatMap.mpr ⟨c,hc,List.mem_map.mpr ⟨p,List.mem_range.mpr hp,rfl⟩⟩,Y.B,List.mem_singleton.mpr rfl,by rw[O.lx];exact hp,?_⟩
  rcases O.cg c hc with⟨ys,h1,h2,h3,h4⟩|⟨h1,R,h2⟩
  ·exact .inl ⟨ys,by rw[X1.gvn];exact h1,by rw[O.lx];exact h2,h3,h4⟩
  ·exact .inr ⟨by rw[X1.gvn];exact h1,_,(O.ru c R h2).1⟩⟩
 un:=fun t B B' h h'=>by rw[(oY h).2,(oY h').2]
 rr:=fun x hx g=>by
  obtain⟨t,c,p⟩:=x;obtain⟨rfl,hc,hp⟩:=hx;rw[X1.gvn]at g
  rcases O.cg c hc with⟨ys,h1,_⟩|⟨h1,R,h2⟩
  ·rw[h1]at g;cases g
  ·exact⟨R,by rw[X1.rln];exact h2⟩
 ru:=fun t c R B h hB=>by
  obtain⟨rfl,h2⟩:=X1.rl_some h;rw[(oY hB).2];exact O.ru c R h2
 no:=fun t c R h=>by
  obtain⟨rfl,h2⟩:=X1.rl_some h;rw[X1.gvn];exact O.rg c (O.rc c R h2)
 rf:=fun t c R h=>O.rf c R (X1.rl_some h).2
 gg:=fun t c R h=>O.gg c R (X1.rl_some h).2
 ft:=fun t c R h=>O.ft c R (X1.rl_some h).2
 mb:=fun t c R h=>(O.mb c R (X1.rl_some h).2).1
 mm:=fun t c R h tb htb=>by
  rw[List.mem_singleton.mp htb];exact(O.mb c R (X1.rl_some h).2).2
 md:=fun t c R t' c' R' h h' e=>by
  obtain⟨rfl,h2⟩:=X1.rl_some h;obtain⟨rfl,h3⟩:=X1.rl_some h';exact⟨rfl,O.md c R c' R' h2 h3 e⟩
 cc:=fun tb htb=>by rw[List.mem_singleton.mp htb];exact O.cc
 cl:=fun t c ys B l g h e=>by
  obtain⟨rfl,g2⟩:=X1.gv_some g;rw[(oY h).2]at e;exact O.cl c ys l g2 e
 fl:=O.fl
 nu:=fun t B p h hp=>by
  rw[(oY h).2]at hp|-
  exact O.nu p (by rw[<- O.lx];exact hp)
 ni:=fun t B p p' h hp hp' e=>by
  rw[(oY h).2]at hp hp';exact O.ni p p' (by rw[<- O.lx];exact hp) (by rw[<- O.lx];exact hp') e
 b8:=O.b8
 ab:=fun t B p j h hp hj=>by
  rw[(oY h).2]at hp;exact O.ab p j (by rw[<- O.lx];exact hp) hj
 cf:=O.cf
 rs:=fun x hx g=>by
  obtain⟨t,c,p⟩:=x;obtain⟨rfl,hc,hp⟩:=hx;rw[X1.gvn]at g
  rcases O.cg c hc with⟨ys,h1,_⟩|⟨h1,R,h2⟩
  ·rw[h1]at g;cases g
  ·exact List.mem_flatMap.mpr ⟨c,O.rc c R h2,List.mem_map.mpr ⟨p,List.mem_range.mpr hp,rfl⟩⟩
 rs':=fun x hx=>by
  obtain⟨c,hc,hx⟩:=List.mem_flatMap.mp hx;obtain⟨p,_,rfl⟩:=List.mem_map.mp hx;rw[X1.gvn];exact O.rg c hc
 rn:=a3p O.rn
 sem:=fun x R hx h=>by
  obtain⟨t,c,p⟩:=x;obtain⟨rfl,hc,hp⟩:=hx;rw[X1.rln]at h;exact O.sem c R p hc hp h
 lks:=fun x R hx h y hy=>by
  obtain⟨t,c,p⟩:=x;obtain⟨rfl,hc,hp⟩:=hx;rw[X1.rln]at h;obtain⟨h1,h2⟩:=O.lks c R p hc hp h y hy;refine⟨h1,fun g=>h2 ?_⟩;rw[h1.1,X1.gvn]at g;exact g
 oks:=fun x R hx h=>by
  obtain⟨t,c,p⟩:=x;obtain⟨rfl,hc,hp⟩:=hx;rw[X1.rln]at h;exact O.oks c R p hc hp h
section
theorem SB.new{X X':SX}(S:SB P w K mg af RG CF CB CT zt X kf kl mem wo cs ns H)(D:List Addr)(kD:∀b∈D,(∃C dx fs,H b=some (.ins C dx fs))\/ ∃ys,H b=some (.lst ys)/\b∈X.fx)(u:∀b o,b∉D->H b=some o->H' b=some o)
 (e1:X'.rl=X.rl)(e2:X'.fx=X.fx)(e3:X'.ca=X.ca)(e4:X.bnd<=X'.bnd)(dft:∀t c R,X.rl t c=some R->∀b∈R.ft,b∉D)(dgr:∀t c R,X.rl t c=some R->R.gr∈R.ft)(dca:∀a,X.ca=some a->a∉D)(dD:∀b∈D,H' b≠none)
 (F':∀tb∈X'.tabs,dR CF CB CT H' X'.fi X'.bd X'.fd X'.lk tb.1 tb.2 [])(fd':H' X'.fd=some (.dT []))(lk':H' X'.lk=some (.dT []))
 (cols':∀t c ys B,X'.gv t c=some ys->(t,B)∈X'.tabs->∃l,aE B.kvs (.inr c:aB)=some (.ref l)/\H' l=some (.lst ys))(cd':∀t c ys (p:Nat) v,X'.gv t c=some ys->cL ys (p:Int)=some v->Pd K H' v (X'.val (t,c,p)))
 (ra':∀t c R,X.rl t c=some R->∀p,X'.Vc (t,c,p)->lS P w K mg af R.spg R.gr R.ft X'.tabs X'.Vc t c p (X'.tree (t,c,p)) H')
 (hw:∀x R,X'.Vc x->X.rl x.1 x.2.1=some R->(∃y,X.Vc y/\y.1=x.1/\y.2.1=x.2.1/\X'.num x.1 x.2.2=X.num y.1 y.2.2/\wo' x=wo y)\/ (∃j,X.abn x.1 j/\X'.num x.1 x.2.2=j/\wo' x=X.wa x.1 x.2.1 j)\/ (X.bnd<=X'.num x.1 x.2.2/\wo' x=none))
 (ha:∀t c R j,X.rl t c=some R->X'.abn t j->(X.abn t j/\X'.wa t c j=X.wa t c j)\/ ∃y,X.Vc y/\y.1=t/\y.2.1=c/\X.num y.1 y.2.2=j/\X'.wa t c j=wo y):SB P w K mg af RG CF CB CT zt X' [] [] mem wo' cs ns H':=by
 have n1:∀{b:Addr} {o:HO},H b=some o->(∀C dx fs,o≠ .ins C dx fs)->(∀y,o≠ .lst y)->H' b=some o:=fun{b o} e a1 a2=>u b o (fun hm=>by
  rcases kD b hm with⟨C,dx,fs,h⟩|⟨ys,h,_⟩<;>rw[h]at e
  ·exact a1 _ _ _ (Option.some.inj e).symm
  ·exact a2 _ (Option.some.inj e).symm) e
 have kt:eI H H':=fun b o hb e=>n1 e (fun C dx fs y=>by obtain⟨xs,rfl|⟨q,rfl⟩⟩:=hb<;>cases y) (fun y z=>by obtain⟨xs,rfl|⟨q,rfl⟩⟩:=hb<;>cases z)
 have klf:∀b ys,b∉X.fx->H b=some (.lst ys)->H' b=some (.lst ys):=fun b ys n e=>u b _ (fun hm=>by
  rcases kD b hm with⟨C,dx,fs,h⟩|⟨ys',h,hx⟩
  ·rw[h]at e;cases e
  ·exact n hx) e
 refine⟨F',fd',eJ.nil,fun t c p v ys _ e=>(by cases e),fun x v _ _ e=>(by cases e),fun x v _ _ e=>(by cases e),fun x _ _ _=>rfl,fun x v _ _ e=>(by cases e),lk',eJ.nil,cols',cd',fun t c R hR=> ?_,fun t c R hR=> ?_,fun t c R hR b hb=> ?_,fun t c R hR=>ra' t c R (e1▸hR),fun x R hx hR=> ?_,fun t c R j hR hj=> ?_,?_,fun h=> ?_,fun b hb y=> ?_,?_⟩
 ·rw[e1]at hR
  obtain⟨⟨dx,e⟩,h1⟩:=S.rg t c R hR;exact⟨⟨dx,u _ _ (dft t c R hR _ (dgr t c R hR)) e⟩,h1⟩
 ·rw[e1]at hR
  obtain⟨h1,h2⟩:=S.rm t c R hR;exact⟨n1 h1 (fun _ _ _ y=>by cases y) nk,h2.1,fun k hk=>let ⟨j,a,b⟩:=h2.2 k hk;⟨j,a,by omega⟩⟩
 ·rw[e1]at hR
  obtain⟨o,e,h⟩:=S.rt t c R hR b hb;exact⟨o,u _ _ (dft t c R hR b hb) e,h⟩
 ·rw[e1]at hR
  rw[e2]
  rcases hw x R hx hR with⟨y,a1,a2,a3,a4,a5⟩|⟨j,a1,a2,a3⟩|⟨a1,a2⟩
  ·rw[a5,a4,<- a2,<- a3]
   rw[<- a2,<- a3]at hR;exact⟨(S.me y R a1 hR).1.mv rfl kt.t klf,fun is v e=>((S.me y R a1 hR).2 is v e).keep kt⟩
  ·rw[a3,a2]
   exact⟨(S.ab x.1 x.2.1 R j hR a1).1.mv rfl kt.t klf,fun is v e=>((S.ab x.1 x.2.1 R j hR a1).2 is v e).keep kt⟩
  ·rw[a2]
   refine⟨?_,fun is v e=>(by cases e)⟩;show aE (mem x.1 x.2.1) _=none
   cases ev:aE (mem x.1 x.2.1) (.inl ((X'.num x.1 x.2.2:Nat):Int):aB)with
   |none=>rfl
   |some v=>
    obtain⟨j,h1,h2⟩:=(S.rm x.1 x.2.1 R hR).2.2 _ (List.mem_map.mpr ⟨_,a4p ev,rfl⟩);have:=Sum.inl.inj h1;omega
 ·rw[e1]at hR
  rw[e2]
  rcases ha t c R j hR hj with⟨a1,a2⟩|⟨y,a1,a2,a3,a4,a5⟩
  ·rw[a2]
   exact⟨(S.ab t c R j hR a1).1.mv rfl kt.t klf,fun is v e=>((S.ab t c R j hR a1).2 is v e).keep kt⟩
  ·rw[a5,<- a4]
   subst a2 a3;exact⟨(S.me y R a1 hR).1.mv rfl kt.t klf,fun is v e=>((S.me y R a1 hR).2 is v e).keep kt⟩
 ·rw[e3]
  exact⟨S.ca.1,fun a e=>u _ _ (dca a e) (S.ca.2 a e)⟩
 ·rw[e3]at h
  rw[e2];exact Paired.imp (fun a b h=>h.mv kt.t klf) (S.nt h)
 ·rw[e2]at hb
  by_cases hm:b∈D
  ·exact dD b hm y
  ·cases e:H b with
   |none=>exact S.fx b hb e
   |some o=>rw[u b o hm e]at y;cases y
 ·obtain⟨Sz,t1,t2⟩:=S.tb
  exact⟨Sz,n1 t1 (fun _ _ _ y=>by cases y) nk,fun c hc=>let ⟨o,o1,o2⟩:=t2 c hc;⟨o,n1 o1 (fun _ _ _ y=>by cases y) nk,o2⟩⟩
end
theorem a2F{α:Type}{r:α->α->Prop}(anti:∀a b,r a b->r b a->a=b):∀{l l':List α},l.Perm l'->l.Pairwise r->l'.Pairwise r->l=l'
 | [],l',h,_,_=>(List.nil_perm.mp h).symm▸rfl
 |a::l,[],h,_,_=>by have:=h.length_eq;cases this
 |a::l,b::l',h,p,p'=>by
  rw[List.pairwise_cons]at p p'
  have e:a=b:=by
   have h1:a∈b::l':=h.mem_iff.mp aa;have h2:b∈a::l:=h.mem_iff.mpr aa
   rcases List.mem_cons.mp h1 with e|h1
   ·exact e
   ·rcases List.mem_cons.mp h2 with e|h2
    ·exact e.symm
    ·exact anti a b (p.1 b h2) (p'.1 a h1)
  subst e;rw[a2F anti (List.perm_cons a|>.mp h) p.2 p'.2]
theorem a7G{α:Type}(l:List α)(d:α):(List.range l.length).map (fun i=>l.getD i d)=l:=by
 apply List.ext_getElem?;intro i;rw[List.getElem?_map];by_cases h:i<l.length
 ·rw[List.getElem?_range h,Option.map_some,List.getD_eq_getElem?_getD,List.getElem?_eq_getElem h]
  rfl
 ·rw[List.getElem?_eq_none (by rw[List.length_range];omega),List.getElem?_eq_none (by omega)]
  rfl
theorem a8Q{α:Type}(l:List α)(d:α){p:Array Nat}(h:p.Perm (List.toArray (List.range l.length))):(p.toList.map fun i=>l.getD i d).Perm l:=by
 have h2:p.toList.Perm (List.range l.length):=by simpa using h.toList
 have:=h2.map fun i=>l.getD i d
 rw[a7G]at this;exact this
theorem a1t{α:Type}{R:V->α->Prop}(d:α):∀{ys:List V} {xs:List α} {i:Nat},Paired R ys xs->i<ys.length->R (ys.getD i .non) (xs.getD i d)
 |_,_,_,.nil,h=>by cases h
 |_,_,0,.cons h _,_=>h
 |_,_,i+ 1,.cons _ t,h=>a1t d (i:=i) t (Nat.lt_of_succ_lt_succ h)
theorem a3K{α:Type}{R:V->α->Prop}(d:α){ys:List V}{xs:List α}(h:Paired R ys xs):∀{is:List Nat},(∀i∈is,i<ys.length)->Paired R (is.map fun i=>ys.getD i .non) (is.map fun i=>xs.getD i d)
 | [],_=> .nil
 |i::is,hi=> .cons (a1t d h (hi i aa)) (a3K d h fun j hj=>hi j (List.mem_cons_of_mem _ hj))
theorem a7g{lt:Nat->Nat->Bool}{p:Array Nat}(hs:p.size=n)(h:Sd lt p n):p.toList.Pairwise fun i j=>lt j i=false:=by
 rw[List.pairwise_iff_getElem];intro i j hi hj hij;rw[Array.length_toList]at hi hj;have:=(h i j hij (by omega)).1;rw[Array.getD_eq_getD_getElem?,Array.getD_eq_getD_getElem?,Array.getElem?_eq_getElem hi,Array.getElem?_eq_getElem hj]at this;simpa using this
theorem a9K{α β:Type}{f:α->β}{r:β->β->Prop}{l:List α}(h:l.Pairwise fun a b=>r (f a) (f b)):(l.map f).Pairwise r:=List.pairwise_map.mpr h
theorem a1b:∀nss:List (List Int),PyData.canLayAll0 (nss.map fun ns=>PyData.list (ns.map .int))=true
 | []=>rfl
 |ns::r=>by
  rw[List.map_cons,PyData.canLayAll0,a1b r,Bool.and_true];exact(pX ns).1
theorem a2x:∀ns:List Int,PyData.depthAll (ns.map PyData.int)=0
 | []=>rfl
 |i::r=>by
  rw[List.map_cons];show max 0 (PyData.depthAll (r.map PyData.int))=0;rw[a2x r];rfl
theorem a2Y{α β:Type} [DecidableEq α]{f:α->Option β}:∀{L R:List α},L.Nodup->R.Nodup->(∀y∈L,y∈R)->(∀y∈R,f y≠none->y∈L)->(L.filterMap f).Perm (R.filterMap f)
 | [],R,_,_,_,h=>by
  have:R.filterMap f= []:=by
   rw[List.filterMap_eq_nil_iff];intro y hy
   cases e:f y with
   |none=>rfl
   |some b=>exact absurd (h y hy (by rw[e];exact fun z=>by cases z)) (by simp)
  rw[this];exact List.Perm.refl _
 |a::L,R,hL,hR,h1,h2=>by
  rw[List.nodup_cons]at hL;have ha:=h1 a aa;have hp:R.Perm (a::R.erase a):=List.perm_cons_erase ha;have hR':(a::R.erase a).Nodup:=hp.nodup_iff.mp hR;rw[List.nodup_cons]at hR'
  have ih:=a2Y (f:=f) (L:=L) (R:=R.erase a) hL.2 hR'.2 (fun y hy=>by
   have:=hp.mem_iff.mp (h1 y (List.mem_cons_of_mem _ hy))
   rcases List.mem_cons.mp this with e|e
   ·exact absurd (e▸hy) hL.1
   ·exact e) (fun y hy n=>by
   have:=h2 y (hp.mem_iff.mpr (List.mem_cons_of_mem _ hy)) n
   rcases List.mem_cons.mp this with e|e
   ·exact absurd (e▸hy) hR'.1
   ·exact e)
  refine List.Perm.trans ?_ (hp.filterMap f).symm;rw[List.filterMap_cons,List.filterMap_cons]
  cases f a with
  |none=>exact ih
  |some b=>exact ih.cons b
theorem jK(i:Int)(h1: -1000000<=i)(h2:i<=1000000):iF (.int i)=true:=by
 have e3:(1000000:Int)<10^ (60:Int).toNat:=by decide+kernel
 show decide ((if i<0 then-i else i)<10^ (60:Int).toNat)=true;rw[decide_eq_true_eq];split<;>omega
section
inductive rO(K:Fg)(vs:List V)(H:Hp)(Q:VK)(E:XK):Prop
 |mk (a:Addr) (ns:List Int) (k:Int):vs= [.ref a,.int k] ->aM K H a (ns.map V.int)->ns.length<=63->0<=k->k<=1000000->(∀m:Int,0<=m->m<2147483629->Q (.int m) H)->rO K vs H Q E
theorem vP:aY ["_law_script","_law_k","_law_cell_here"] ["_law_script","_law_k"] (aL xA):={}
theorem a0U(T:bA K mg):bD P w K mg af aD 1 "_law_mixed" ["_law_script","_law_k"] (rO K):=by
 refine T.d_law_mixed.known vP (fun _ _ _ _ _ _ us hl=>eG (fun _ _=>rfl) us hl) (fun vs H Q E h=> ?_) (fun f ah A ag s H vs Q E hr h=> ?_)
 ·obtain⟨a,ns,k,rfl,_⟩:=h
  rfl
 ·obtain⟨a,ns,k,rfl,hS,hl,h0,h6,q⟩:=h
  have cH:∃t,eV (dF aD P w K mg af ["_law_script","_law_k","_law_cell_here"] "_law_mixed" (aL xA) f ah A ag s H E).nox ((eZ xA).drop 2) t/\∀c:Int,t {nx:=fun _ H'=>Q .non H',rt:=Q} [some (.ref a),some (.int k),some (.int c)] H:=by
   refine⟨_,(aJ (cA (i:=2) vP.nd rfl (Or.inl rfl) (bZ fR (bZ oT (bZ kW (bZ kW (bZ fR (pv 2) bB) (bZ oT bB (pv 1))) bB) bB) bB))
    (aK (bH (bZ fR (bZ oT (pv 2) (bZ kW (bZ kW (bZ fR (pv 2) bB) (pv 1)) bB)) bB)))),fun c=> ?_⟩
   refine⟨_,rfl,_,_,rfl,rfl,(show(0:Int)<2147483629 by decide),_,rfl,_,_,rfl,rfl,.inl ⟨by decide,by decide⟩,_,_,rfl,rfl,_,_,rfl,rfl,_,_,rfl,rfl,.inr ⟨by decide,by decide⟩,_,_,rfl,rfl,(show(0:Int)<2147483647 by decide),?_⟩;have e1:=Int.emod_nonneg ((c% 2147483629+ 6151* k+ 1)* 48271) (show(2147483647:Int)≠0 by decide);have e2:=Int.emod_lt_of_pos ((c% 2147483629+ 6151* k+ 1)* 48271) (show(0:Int)<2147483647 by decide);refine⟨_,rfl,_,rfl,_,_,rfl,rfl,(show(0:Int)<65519 by decide),_,rfl,_,_,rfl,rfl,_,_,rfl,rfl,_,_,rfl,rfl,.inl ⟨by omega,by omega⟩,_,_,rfl,rfl,(show(0:Int)<2147483629 by decide),?_⟩;exact q _ (Int.emod_nonneg _ (by decide)) (Int.emod_lt_of_pos _ (by decide))
  obtain⟨t,ht,hq⟩:=cH
  refine⟨_,(aJ (cA (i:=2) vP.nd rfl (Or.inl rfl) bB)
   (aJ (bI (cR a1g (dC jX rfl T.len iR (aA (pv 0) aG)) bB (dA _)) (aK (cA (i:=2) vP.nd rfl (Or.inl rfl) (cW jR (pv 0) (bZ fR (pv 1) (dC jX rfl T.len iR (aA (pv 0) aG))) (fun _ _=>rfl)))) bL) ht)),?_⟩
  have el:((ns.map V.int).length:Int)=(ns.length:Int):=by rw[List.length_map]
  refine⟨_,rfl,_,_,rfl,.inl ⟨_,hS,rfl⟩,_,_,rfl,rfl,_,rfl,?_⟩;rw[el];refine bY (fun h2=> ?_) (fun h2=> ?_)
  ·have h2':0<(ns.length:Int):=by simpa using h2
   have hm:=Int.emod_nonneg k (Int.ne_of_gt h2');have hm':=Int.emod_lt_of_pos k h2';exact⟨_,rfl,_,rfl,_,rfl,_,_,rfl,.inl ⟨_,hS,rfl⟩,_,_,rfl,rfl,by rw[el];exact h2',a,_,_,_,rfl,rfl,hS,by rw[el];exact a56 ns _ hm hm',hq _⟩
  ·exact hq _
end
theorem fM:Nl ("t":Str)/\Nl ("bad":Str)/\Nl ("odd":Str)/\Nl ("worse":Str)/\Nl ("own":Str):=by unfold Nl;decide+kernel
def fD(z:Str):PyData:=.tuple [.str "fault",.str z]
def dW(d:PyData):Prop:=(∃n:Nat,n<=11/\d= .int (n:Int))\/ d=fD "bad"\/ d=fD "odd"\/ d=fD "worse"
theorem a1E:iF (.int (10^ 60- 1))=true:=by decide+kernel
theorem dW.vd(h:dW d):Vd d:=by
 rcases h with⟨n,hn,rfl⟩|rfl|rfl|rfl
 ·exact .inl ⟨_,rfl,jK _ (by omega) (by omega)⟩
 ·exact .inr ⟨_,rfl,fM.2.1⟩
 ·exact .inr ⟨_,rfl,fM.2.2.1⟩
 ·exact .inr ⟨_,rfl,fM.2.2.2.1⟩
theorem dW.nt(h:dW d)(t:isT d=false):∃n:Nat,n<=11/\d= .int (n:Int):=by
 rcases h with h|rfl|rfl|rfl
 ·exact h
 all_goals cases t
def sF(n:Nat):PyData:=match n with
 |0=> .int 0
 |1=>fD "own"
 |2=> .bool true
 |3=> .str "a"
 |4=> .list [.int 4]
 |5=> .none
 |6=> .int (10^ 60)
 |7=> .int (0- 10^ 60)
 |8=>fD "Own"
 |9=> .tuple [.str "fault"]
 |10=> .int (10^ 60- 1)
 |_=> .int 11
def qN(n:Nat):PyData:=match n with
 |0=> .int 0
 |1=>fD "own"
 |10=> .int (10^ 60- 1)
 |11=> .int 11
 |_=>fD "odd"
theorem shO:iK (fD "Own")/\iK (.tuple [.str "fault"]):=by
 refine⟨fun ds e x hx t et=> ?_,fun ds e x hx t et=> ?_⟩<;>cases e<;>simp only[List.mem_cons,List.not_mem_nil,or_false]at hx
 ·rcases hx with rfl|rfl<;>cases et<;>decide+kernel
 ·subst hx;cases et;decide+kernel
theorem a1I(h:n<=11):eX (sF n)=qN n/\iK (sF n):=by
 rcases(show n=0\/ n=1\/ n=2\/ n=3\/ n=4\/ n=5\/ n=6\/ n=7\/ n=8\/ n=9\/ n=10\/ n=11 by omega)with rfl|rfl|rfl|rfl|rfl|rfl|rfl|rfl|rfl|rfl|rfl|rfl
 ·exact⟨if_pos (by decide+kernel),fun _ e=>by cases e⟩
 ·exact⟨if_pos (by decide+kernel),(Vd.short (.inr ⟨_,rfl,fM.2.2.2.2⟩)).1⟩
 ·exact⟨if_neg (by decide+kernel),fun _ e=>by cases e⟩
 ·exact⟨if_neg (by decide+kernel),fun _ e=>by cases e⟩
 ·exact⟨if_neg (by decide+kernel),fun _ e=>by cases e⟩
 ·exact⟨if_neg (by decide+kernel),fun _ e=>by cases e⟩
 ·exact⟨if_neg (by decide+kernel),fun _ e=>by cases e⟩
 ·exact⟨if_neg (by decide+kernel),fun _ e=>by cases e⟩
 ·exact⟨if_neg (by decide+kernel),shO.1⟩
 ·exact⟨if_neg (by decide+kernel),shO.2⟩
 ·exact⟨if_pos (by decide+kernel),fun _ e=>by cases e⟩
 ·exact⟨if_pos (by decide+kernel),fun _ e=>by cases e⟩
section
inductive rX(K:Fg)(vs:List V)(H:Hp)(Q:VK)(E:XK):Prop
 |mk (i:Int):vs= [.int i] ->(∀H' v d,aF H H'->dW d->Pv K H' v d->Q v H')->rX K vs H Q E
theorem b0j:aY ["_law_cell_here"] ["_law_cell_here"] (aL a1f):={}
theorem a2Z(T:bA K mg):bD P w K mg af aD 1 "_law_value" ["_law_cell_here"] (rX K):=by
 refine T.d_law_value.known b0j (fun _ _ _ _ _ _ us hl=>eU (fun _=>rfl) us hl) (fun vs H Q E h=> ?_) (fun f ah A ag s H vs Q E hr h=> ?_)
 ·obtain⟨i,rfl,_⟩:=h
  rfl
 ·obtain⟨i,rfl,q⟩:=h
  refine⟨_,(aJ (bI (cR lC (bZ fR (pv 0) bB) bB (dA _)) (aK (bH (fF (aA bT (aA (cW jR (fC (aA bT (aA bT (aA bT aG)))) (bZ fR (bZ a2O (pv 0) bB) bB) (fun _ _=>rfl)) aG))))) bL)
   (aK (bH (bZ fR (bZ a2O (pv 0) bB) bB)))),?_⟩
  refine⟨_,rfl,_,_,rfl,rfl,(show(0:Int)<5 by decide),rfl,_,rfl,?_⟩;refine bY (fun _=> ?_) (fun _=> ?_)
  ·refine⟨sl,fun l hl=>⟨_,rfl,_,_,rfl,rfl,⟨by decide,by decide⟩,_,_,rfl,rfl,(show(0:Int)<3 by decide),?_⟩⟩
   have e1:=Int.emod_nonneg (i/ 5) (show(3:Int)≠0 by decide);have e2:=Int.emod_lt_of_pos (i/ 5) (show(0:Int)<3 by decide);have s1:=aF.new (o:=.lst [.str ("bad":Str),.str ("odd":Str),.str ("worse":Str)]) hl;have sq:=aM.of (K:=K) (aI (H:=H) (a:=l) (o:=.lst [.str ("bad":Str),.str ("odd":Str),.str ("worse":Str)]))
   obtain⟨z,hz,hg,ha⟩:∃z,Nl z/\dW (fD z)/\cL [V.str ("bad":Str),.str ("odd":Str),.str ("worse":Str)] (i/ 5% 3)=some (.str z):=by
    rcases(show i/ 5% 3=0\/ i/ 5% 3=1\/ i/ 5% 3=2 by omega)with e|e|e
    ·exact⟨"bad",fM.2.1,.inr (.inl rfl),by rw[e];rfl⟩
    ·exact⟨"odd",fM.2.2.1,.inr (.inr (.inl rfl)),by rw[e];rfl⟩
    ·exact⟨"worse",fM.2.2.2.1,.inr (.inr (.inr rfl)),by rw[e];rfl⟩
   exact⟨l,_,_,_,rfl,rfl,sq,ha,sl,fun p hp=>q _ _ (fD z) (s1.trans (aF.new hp)) hg (.inr ⟨p,z,rfl,aI,rfl,hz⟩)⟩
  ·refine⟨_,rfl,_,_,rfl,rfl,⟨by decide,by decide⟩,_,_,rfl,rfl,(show(0:Int)<12 by decide),?_⟩
   have e1:=Int.emod_nonneg (i/ 5) (show(12:Int)≠0 by decide);have e2:=Int.emod_lt_of_pos (i/ 5) (show(0:Int)<12 by decide);exact q _ _ (.int (i/ 5% 12)) (aF.refl _) (.inl ⟨(i/ 5% 12).toNat,by omega,by rw[Int.toNat_of_nonneg e1]⟩) (.inl ⟨_,rfl,rfl,jK _ (by omega) (by omega)⟩)
inductive vF(K:Fg)(vs:List V)(H:Hp)(Q:VK)(E:XK):Prop
 |mk (n:Nat):vs= [.int (n:Int)] ->n<=11->(∀H' v,aF H H'->(∀H2,(∀b o,H b=none->H' b=some o->H2 b=some o)->Dt K H2 v (sF n))->(n% 11<2->Pv K H' v (qN n))->Q v H')->vF K vs H Q E
theorem a0n:aY ["_law_one","_law_some"] ["_law_one"] (aL a1D):={}
theorem a08(T:bA K mg):bD P w K mg af aD 1 "_law_strange" ["_law_one"] (vF K):=by
 refine T.d_law_strange.known a0n (fun _ _ _ _ _ _ us hl=>eU (fun _=>rfl) us hl) (fun vs H Q E h=> ?_) (fun f ah A ag s H vs Q E hr h=> ?_)
 ·obtain⟨n,rfl,_⟩:=h
  rfl
 ·obtain⟨n,rfl,hn,q⟩:=h
  refine boxS ⟨_,(a4G (a2f (i:=1) a0n.nd rfl (Or.inl rfl) (a0o (a4N (gL.mk (pv 0)) (a0O (a01 (nI pS (nI pS pN))) (nI b0a (nI pS (a7X (a0o (a4N (gL.mk (pv 0)) pN)) (nI a6e (a0e (pD rT nJ nJ) (a0e (pD tI nJ (pD rT nJ nJ)) pN))))))))))
   (a4G (a2f (i:=1) a0n.nd rfl (Or.inl rfl) (pD a68 (gL.mk (pv 1)) (a0o (a0O (a01 (nI pS (nI pS pN))) (a0O (a01 (nI pS pN)) (a0e (pD tI (pD rT nJ nJ) nJ) pN))))))
   (a8q (wV.mk (bH (cW jR (pv 1) (bZ fR (pv 0) (dC jX rfl T.len iR (aA (pv 1) aG))) (fun _ _=>rfl))))))),?_⟩
  refine⟨_,rfl,sl,fun t1 ht1=>⟨_,rfl,sl,fun l1 hl1=>⟨_,_,rfl,rfl,⟨by decide,by decide,by decide⟩,_,_,rfl,rfl,⟨by decide,by decide,by decide⟩,_,_,rfl,rfl,sl,fun la hla=> ?_⟩⟩⟩;have s1:=aF.new (o:=.tup [.str ("fault":Str),.str ("own":Str)]) ht1;have v1:=aI (H:=H) (a:=t1) (o:=.tup [.str ("fault":Str),.str ("own":Str)])
  generalize upd H t1 (.tup [.str ("fault":Str),.str ("own":Str)])=H1 at s1 v1 hl1 hla|-
  have s2:=aF.new (o:=.lst [.int (n:Int)]) hl1;have v2:=aI (H:=H1) (a:=l1) (o:=.lst [.int (n:Int)])
  generalize upd H1 l1 (.lst [.int (n:Int)])=H2 at s2 v2 hla|-
  have s3:=aF.new (o:=.lst [.int (n:Int),.ref t1,.bl true,.str ("a":Str),.ref l1,.non,.int (10^ (60:Int).toNat),.int (0- 10^ (60:Int).toNat)]) hla;have v3:=aI (H:=H2) (a:=la) (o:=.lst [.int (n:Int),.ref t1,.bl true,.str ("a":Str),.ref l1,.non,.int (10^ (60:Int).toNat),.int (0- 10^ (60:Int).toNat)])
  generalize upd H2 la (.lst [.int (n:Int),.ref t1,.bl true,.str ("a":Str),.ref l1,.non,.int (10^ (60:Int).toNat),.int (0- 10^ (60:Int).toNat)])=H3 at s3 v3|-
  refine⟨_,rfl,sl,fun t2 ht2=>⟨sl,fun t3 ht3=>⟨_,_,rfl,rfl,⟨by decide,by decide,by decide⟩,_,_,rfl,rfl,sl,fun lb hlb=> ?_⟩⟩⟩;have s4:=aF.new (o:=.tup [.str ("fault":Str),.str ("Own":Str)]) ht2;have v4:=aI (H:=H3) (a:=t2) (o:=.tup [.str ("fault":Str),.str ("Own":Str)])
  generalize upd H3 t2 (.tup [.str ("fault":Str),.str ("Own":Str)])=H4 at s4 v4 ht3 hlb|-
  have s5:=aF.new (o:=.tup [.str ("fault":Str)]) ht3;have v5:=aI (H:=H4) (a:=t3) (o:=.tup [.str ("fault":Str)])
  generalize upd H4 t3 (.tup [.str ("fault":Str)])=H5 at s5 v5 hlb|-
  have s6:=aF.new (o:=.lst [.ref t2,.ref t3,.int (10^ (60:Int).toNat- 1)]) hlb;have v6:=aI (H:=H5) (a:=lb) (o:=.lst [.ref t2,.ref t3,.int (10^ (60:Int).toNat- 1)])
  generalize upd H5 lb (.lst [.ref t2,.ref t3,.int (10^ (60:Int).toNat- 1)])=H6 at s6 v6|-
  have s36:=(s4.trans s5).trans s6;refine⟨la,lb,_,_,rfl,rfl,s36 _ _ v3,v6,(show 11<=sizeLine by decide),fun lc hlc=> ?_⟩;have s7:=aF.new (o:=.lst ([.int (n:Int),.ref t1,.bl true,.str ("a":Str),.ref l1,.non,.int (10^ (60:Int).toNat),.int (0- 10^ (60:Int).toNat)] ++ [.ref t2,.ref t3,.int (10^ (60:Int).toNat- 1)])) hlc;have v7:=aI (H:=H6) (a:=lc) (o:=.lst ([.int (n:Int),.ref t1,.bl true,.str ("a":Str),.ref l1,.non,.int (10^ (60:Int).toNat),.int (0- 10^ (60:Int).toNat)] ++ [.ref t2,.ref t3,.int (10^ (60:Int).toNat- 1)]))
  generalize upd H6 lc (.lst ([.int (n:Int),.ref t1,.bl true,.str ("a":Str),.ref l1,.non,.int (10^ (60:Int).toNat),.int (0- 10^ (60:Int).toNat)] ++ [.ref t2,.ref t3,.int (10^ (60:Int).toNat- 1)]))=H7 at s7 v7|-
  have s37:=s36.trans s7;have s27:=s3.trans s37;have s17:=s2.trans s27;have sA:=s1.trans s17;have w1:=s17 _ _ v1;have w2:=s27 _ _ v2;have w4:=((s5.trans s6).trans s7) _ _ v4;have w5:=(s6.trans s7) _ _ v5;have o2:H l1=none:=gU s1 hl1;have o4:H t2=none:=gU ((s1.trans s2).trans s3) ht2;have o5:H t3=none:=gU (((s1.trans s2).trans s3).trans s4) ht3;have q':=q H7;refine⟨_,rfl,_,rfl,_,rfl,_,_,rfl,.inl ⟨_,aM.of v7,rfl⟩,_,_,rfl,rfl,(show(0:Int)<11 by decide),?_⟩
  have e11:((n:Int)% 11)=((n% 11:Nat):Int):=by omega
  have nm:n% 11<2->n=0\/ n=1\/ n=11:=by omega
  rcases(show n=0\/ n=1\/ n=2\/ n=3\/ n=4\/ n=5\/ n=6\/ n=7\/ n=8\/ n=9\/ n=10\/ n=11 by omega)with rfl|rfl|rfl|rfl|rfl|rfl|rfl|rfl|rfl|rfl|rfl|rfl
  ·exact⟨lc,_,_,.int 0,rfl,rfl,aM.of v7,rfl,q' _ sA (fun _ _=> .int _) (fun _=> .inl ⟨_,rfl,rfl,jK _ (by decide) (by decide)⟩)⟩
  ·exact⟨lc,_,_,.ref t1,rfl,rfl,aM.of v7,rfl,q' _ sA (fun _ k=> .tup (bR.of (k _ _ ht1 w1)) (.cons (.str _) (.cons (.str _) .nil))) (fun _=> .inr ⟨t1,"own",rfl,w1,rfl,fM.2.2.2.2⟩)⟩
  ·exact⟨lc,_,_,.bl true,rfl,rfl,aM.of v7,rfl,q' _ sA (fun _ _=> .bl _) (fun h=>absurd h (by decide))⟩
  ·exact⟨lc,_,_,.str "a",rfl,rfl,aM.of v7,rfl,q' _ sA (fun _ _=> .str _) (fun h=>absurd h (by decide))⟩
  ·exact⟨lc,_,_,.ref l1,rfl,rfl,aM.of v7,rfl,q' _ sA (fun _ k=> .lst (aM.of (k _ _ o2 w2)) (.cons (.int _) .nil)) (fun h=>absurd h (by decide))⟩
  ·exact⟨lc,_,_,.non,rfl,rfl,aM.of v7,rfl,q' _ sA (fun _ _=> .non) (fun h=>absurd h (by decide))⟩
  ·exact⟨lc,_,_,.int (10^ (60:Int).toNat),rfl,rfl,aM.of v7,rfl,q' _ sA (fun _ _=> .int _) (fun h=>absurd h (by decide))⟩
  ·exact⟨lc,_,_,.int (0- 10^ (60:Int).toNat),rfl,rfl,aM.of v7,rfl,q' _ sA (fun _ _=> .int _) (fun h=>absurd h (by decide))⟩
  ·exact⟨lc,_,_,.ref t2,rfl,rfl,aM.of v7,rfl,q' _ sA (fun _ k=> .tup (bR.of (k _ _ o4 w4)) (.cons (.str _) (.cons (.str _) .nil))) (fun h=>absurd h (by decide))⟩
  ·exact⟨lc,_,_,.ref t3,rfl,rfl,aM.of v7,rfl,q' _ sA (fun _ k=> .tup (bR.of (k _ _ o5 w5)) (.cons (.str _) .nil)) (fun h=>absurd h (by decide))⟩
  ·exact⟨lc,_,_,.int (10^ (60:Int).toNat- 1),rfl,rfl,aM.of v7,rfl,q' _ sA (fun _ _=> .int _) (fun h=>absurd h (by decide))⟩
  ·have m11:∀xs:List V,xs.length=11->cL xs (((11:Nat):Int)% (xs.length:Int))=cL xs 0:=fun xs h=>by rw[h];rfl
   exact⟨lc,_,_,.int ((11:Nat):Int),rfl,rfl,aM.of v7,(m11 _ rfl).trans rfl,q' _ sA (fun _ _=> .int _) (fun _=> .inl ⟨_,rfl,rfl,jK _ (by decide) (by decide)⟩)⟩
inductive yH(K:Fg)(vs:List V)(H:Hp)(Q:VK)(E:XK):Prop
 |mk (n:Nat):vs= [.int (n:Int)] ->n<=11->(∀H' v,aF H H'->Pv K H' v (qN n)->Q v H')->yH K vs H Q E
theorem a2u:aY ["_law_one","_law_thing"] ["_law_one"] (aL a2y):={}
theorem a6u(T:bA K mg):bD P w K mg af aD 2 "_law_settled" ["_law_one"] (yH K):=by
 have G_law_strange:bD P w K mg af aD 1 "_law_strange" ["_law_one"] (vF K):=a08 T;refine T.d_law_settled.known a2u (fun _ _ _ _ _ _ us hl=>eU (fun _=>rfl) us hl) (fun vs H Q E h=> ?_) (fun f ah A ag s H vs Q E hr h=> ?_)
 ·obtain⟨n,rfl,_⟩:=h
  rfl
 ·obtain⟨n,rfl,hn,q⟩:=h
  refine⟨_,(aJ (cA (i:=1) a2u.nd rfl (Or.inl rfl) (bK G_law_strange hr.mn aO (aA (pv 0) aG)))
   (aJ (bI (cR zG (bZ fR (pv 0) bB) bB (dA _)) (aK (bH (pv 1))) bL)
   (aJ (bI (cR lC (bZ fR (pv 0) bB) bB (dA _)) (aK (bH (bZ tI (bZ rT bB bB) bB))) bL)
   (aK (bH (fF (aA bT (aA bT aG)))))))),?_⟩
  refine⟨_,rfl,n,rfl,hn,fun H1 v s1 _ hv=> ?_⟩;refine⟨_,rfl,_,_,rfl,rfl,(show(0:Int)<11 by decide),_,_,rfl,rfl,_,rfl,bY (fun h0=> ?_) (fun h0=> ?_)⟩
  ·have h0:(n:Int)% 11<2:=by simpa using h0
   exact⟨_,rfl,q H1 v s1 (hv (by omega))⟩
  have h0:¬(n:Int)% 11<2:=by simpa using h0
  refine⟨_,rfl,_,_,rfl,rfl,(show(0:Int)<11 by decide),rfl,_,rfl,bY (fun h1=> ?_) (fun h1=> ?_)⟩
  ·have h1:(n:Int)% 11=10:=by simpa using h1
   obtain rfl:n=10:=by omega
   exact⟨_,_,rfl,rfl,⟨by decide,by decide,by decide⟩,_,_,rfl,rfl,q H1 _ s1 (.inl ⟨_,rfl,rfl,a1E⟩)⟩
  have h1:¬(n:Int)% 11=10:=by simpa using h1
  have e:qN n=fD "odd":=by
   rcases(show n=2\/ n=3\/ n=4\/ n=5\/ n=6\/ n=7\/ n=8\/ n=9 by omega)with rfl|rfl|rfl|rfl|rfl|rfl|rfl|rfl<;>rfl
  refine⟨sl,fun p hp=>q _ _ (s1.trans (aF.new hp)) ?_⟩;rw[e];exact .inr ⟨p,"odd",rfl,aI,rfl,fM.2.2.1⟩
end
abbrev gF:=Str->Nat->Option (List Int)
abbrev cS:=List (Str×List Int)
noncomputable def gB (p:Nat) (st:gF×cS) (m:Str×List Int):gF×cS:=if st.1 m.1 p=some m.2 then st else(fun c q=>if c=m.1/\q=p then some m.2 else st.1 c q,st.2++ [m])
variable{ms:My.cS}{wl:My.gF}
def kC(c:Str)(p:Nat):List aB:=[.inr c,.inl (p:Int)]
theorem a9H{c':Str}{p':Nat}(h:kC c p=kC c' p'):c=c'/\p=p':=by
 unfold kC at h;simp only[List.cons.injEq,Sum.inr.injEq,Sum.inl.injEq,and_true]at h;exact⟨h.1,by omega⟩
theorem a7K{y:aQ}(h:cK y=kC c p):False:=by
 have:=congrArg List.length h;simp[cK,bE,kC]at this
def sO(fx:List Addr)(H:Hp)(kvs:List (List aB×V))(wl:gF):Prop:=∀c p,(wl c p=none->aE kvs (kC c p)=none)/\∀is,wl c p=some is->∃l,aE kvs (kC c p)=some (.ref l)/\H l=some (.lst (is.map V.int))/\l∉fx
def qV(fx:List Addr)(H:Hp)(v:V)(m:Str×List Int):Prop:=∃tp l,v= .ref tp/\H tp=some (.tup [.str m.1,.ref l])/\H l=some (.lst (m.2.map V.int))/\l∉fx
theorem sO.mv{fx fx':List Addr}(u:∀b ys,b∉fx->H b=some (.lst ys)->H' b=some (.lst ys)/\b∉fx')(h:sO fx H kvs wl):sO fx' H' kvs wl:=fun c p=>⟨(h c p).1,fun is e=>let ⟨l,a,b,n⟩:=(h c p).2 is e;⟨l,a,(u _ _ n b).1,(u _ _ n b).2⟩⟩
theorem qV.mv{fx fx':List Addr}{v:V}{m:Str×List Int}(k:bQ H H')(u:∀b ys,b∉fx->H b=some (.lst ys)->H' b=some (.lst ys)/\b∉fx')(h:qV fx H v m):qV fx' H' v m:=let ⟨tp,l,a,b,c,n⟩:=h;⟨tp,l,a,k _ _ b,(u _ _ n c).1,(u _ _ n c).2⟩
structure jH(fx:List Addr)(la du:Addr)(kvs:List (List aB×V))(wl:gF)(dv:List V)(ms:cS)(nb:Nat)(H:Hp):Prop where
 a:H la=some (.dT kvs)
 l:sO fx H kvs wl
 d:H du=some (.lst dv)
 m:Paired (qV fx H) dv ms
 n:kvs.length<=nb/\dv.length<=nb
 f:du∈fx/\∀b∈fx,H b≠none
 k:∀y:aQ,aE kvs (cK y)=none
def fV(la du:Addr)(H H':Hp):Prop:=∀b o,b≠la->b≠du->H b=some o->H' b=some o
theorem fV.of(s:aF H H'):fV la du H H':=fun b o _ _ e=>s _ _ e
theorem fV.trans(a:fV la du H H1)(b:fV la du H1 H2):fV la du H H2:=fun x o n1 n2 e=>b x o n1 n2 (a x o n1 n2 e)
theorem jH.same{fx:List Addr}{nb:Nat}(s:aF H H')(C:jH fx la du kvs wl dv ms nb H):jH fx la du kvs wl dv ms nb H':=
 ⟨s _ _ C.a,C.l.mv fun b ys n e=>⟨s _ _ e,n⟩,s _ _ C.d,Paired.imp (fun _ _ h=>h.mv (bQ.of s) fun b ys n e=>⟨s _ _ e,n⟩) C.m,C.n,⟨C.f.1,fun b hb y=>by
  cases e:H b with
  |none=>exact C.f.2 b hb e
  |some o=>rw[s _ _ e]at y;cases y⟩,C.k⟩
theorem jH.kt{fx:List Addr}{nb:Nat}(C:jH fx la du kvs wl dv ms nb H)(k:fV la du H H'):bQ H H':=fun b xs e=>k _ _ (fun y=>by rw[y,C.a]at e;cases e) (fun y=>by rw[y,C.d]at e;cases e) e
noncomputable def qM:Option (List Int)->PyData
 |none=> .none
 |some is=> .list (is.map .int)
theorem a9v(w:Option (List Int))(is:List Int):(!PyData.eqv (qM w) (.list (is.map .int)))=decide (w≠some is):=by
 cases w with
 |none=>simp[qM,PyData.eqv]
 |some js=>
  unfold qM;simp only;rw[xZ];by_cases h:js=is<;>simp[h]
theorem a1U(w:Option (List Int)):(qM w).canLay0=true/\(qM w).depth<=64:=by
 cases w with
 |none=>exact⟨rfl,by decide⟩
 |some js=>exact pX js
section
inductive zI(K:Fg)(vs:List V)(H:Hp)(Q:VK)(E:XK):Prop
 |mk (fx:List Addr) (wt la du tl:Addr) (c:Str) (p:Nat) (x:V) (is:List Int) (kvs:List (List aB×V)) (wl:gF) (dv:List V) (ms:cS) (nb:Nat):vs= [.ref wt,.str c,.int (p:Int),.ref tl,x] ->H wt=some (.tup [.ref la,.ref du])->jH fx la du kvs wl dv ms nb H->nb<900->H tl=some (.lst (is.map V.int))->tl∉fx->(∀H' kvs' dv',fV la du H H'->jH fx la du kvs' (gB p (wl,ms) (c,is)).1 dv' (gB p (wl,ms) (c,is)).2 (nb+ 1) H'->Q x H')->zI K vs H Q E
abbrev Ncl:List Str:=["_law_world","_law_column","_law_place","_law_told","_law_value_here","_law_last","_law_due"]
theorem zZ:aY Ncl ["_law_world","_law_column","_law_place","_law_told","_law_value_here"] (aL a3V):={}
theorem a5Y(T:bA K mg):bD P w K mg af aD 1 "_law_call" ["_law_world","_law_column","_law_place","_law_told","_law_value_here"] (zI K):=by
 refine T.d_law_call.known zZ (fun _ _ _ _ _ _ us hl=>pP (fun _ _ _ _ _=>rfl) us hl) (fun vs H Q E h=> ?_) (fun f ah A ag s H vs Q E hr h=> ?_)
 ·obtain⟨fx,wt,la,du,tl,c,p,x,is,kvs,wl,dv,ms,nb,rfl,_⟩:=h
  rfl
 ·obtain⟨fx,wt,la,du,tl,c,p,x,is,kvs,wl,dv,ms,nb,rfl,hw,C,n9,ht,ntl,q⟩:=h
  have hu:=dY hr
  refine⟨_,(aJ (a0i (pv 0) (yG rfl (nV (iG (i:=5) zZ.nd rfl (Or.inl rfl)) (nV (iG (i:=6) zZ.nd rfl (Or.inl rfl)) zQ))))
   (aJ (bI (cR (rL hr.units) (a9z hu (pv 5) (fF (aA (pv 1) (aA (pv 2) aG))) ⟨rfl,rfl,rfl,rfl⟩) (pv 3) (dA _)) (aJ (bW (lZ F.plainAttrs_list F.slot_list_append F.type_list_append lO (pv 6) (aA (fF (aA (pv 1) (aA (pv 3) aG))) aG)))
   (aK (iX hu (pv 5) (fF (aA (pv 1) (aA (pv 2) aG))) (pv 3) rfl))) bL)
   (aK (bH (pv 4))))),?_⟩
  have nld:la≠du:=fun y=>by have:=C.a;rw[y,C.d]at this;cases this
  refine⟨_,rfl,wt,_,rfl,bR.of hw,rfl,_,_,rfl,_,_,rfl,rfl,?_⟩;refine⟨_,rfl,la,rfl,.inr ⟨_,.inl C.a⟩,_,rfl,_,rfl,sl,fun t1 ht1=> ?_⟩;have s1:=aF.new (o:=.tup [.str c,.int (p:Int)]) ht1;have v1:=aI (H:=H) (a:=t1) (o:=.tup [.str c,.int (p:Int)])
  generalize upd H t1 (.tup [.str c,.int (p:Int)])=H1 at s1 v1|-
  have C1:=C.same s1;refine⟨_,bU.t (k:=kC c p) C1.a v1,_,rfl,qM (wl c p),.list (is.map .int),?_,.lst (aM.of (s1 _ _ ht)) (mS _),?_,(pX is).1,(a1U (wl c p)).2,_,rfl,?_⟩
  ·cases e:wl c p with
   |none=>rw[(C1.l c p).1 e];exact .non
   |some js=>
    obtain⟨l,a,b,_⟩:=(C1.l c p).2 js e;rw[a];exact .lst (aM.of b) (mS _)
  ·exact(a1U (wl c p)).1
  rw[a9v];unfold gB at q;by_cases e:wl c p=some is
  ·rw[if_pos e]at q
   rw[decide_eq_false (fun y=>y e)];refine bG ⟨_,rfl,q H1 kvs dv (fV.of s1) ⟨C1.a,C1.l,C1.d,C1.m,⟨by have:=C.n.1;omega,by have:=C.n.2;omega⟩,C1.f,C1.k⟩⟩
  ·rw[if_neg e]at q
   rw[decide_eq_true e];refine cI ?_;refine⟨_,rfl,.inl ⟨rfl,_,aM.of C1.d⟩,_,rfl,_,rfl,sl,fun t2 ht2=> ?_⟩;have s2:=aF.new (o:=.tup [.str c,.ref tl]) ht2;have v2:=aI (H:=H1) (a:=t2) (o:=.tup [.str c,.ref tl])
   generalize upd H1 t2 (.tup [.str c,.ref tl])=H2 at s2 v2|-
   have C2:=C1.same s2;refine⟨du,_,_,rfl,rfl,C2.d,eD (by have:=C.n.2;omega),?_⟩;have u3:bC du H2 (upd H2 du (.lst (dv++ [.ref t2]))):=bC.upd;have d3:=aI (H:=H2) (a:=du) (o:=.lst (dv++ [.ref t2]))
   generalize upd H2 du (.lst (dv++ [.ref t2]))=H3 at u3 d3|-
   refine⟨_,rfl,_,rfl,_,rfl,_,rfl,sl,fun t4 ht4=> ?_⟩;have s4:=aF.new (o:=.tup [.str c,.int (p:Int)]) ht4;have v4:=aI (H:=H3) (a:=t4) (o:=.tup [.str c,.int (p:Int)])
   generalize upd H3 t4 (.tup [.str c,.int (p:Int)])=H4 at s4 v4|-
   have a4:=s4 _ _ (u3 _ _ nld C2.a);refine⟨la,_,rfl,gO.t (k:=kC c p) a4 v4 (eD (by have:=C.n.1;omega)),?_⟩;have u5:bC la H4 (upd H4 la (.dT (aR kvs (kC c p) (.ref tl)))):=bC.upd;have d5:=aI (H:=H4) (a:=la) (o:=.dT (aR kvs (kC c p) (.ref tl)))
   generalize upd H4 la (.dT (aR kvs (kC c p) (.ref tl)))=H5 at u5 d5|-
   have k25:fV la du H2 H5:=fun b o n1 n2 z=>u5 _ _ n1 (s4 _ _ (u3 _ _ n2 z))
   have k05:fV la du H H5:=fun b o n1 n2 z=>k25 b o n1 n2 (s2 _ _ (s1 _ _ z))
   have kl:∀b ys,b∉fx->H2 b=some (.lst ys)->H5 b=some (.lst ys)/\b∉fx:=fun b ys n z=>⟨k25 _ _ (fun y=>by rw[y,C2.a]at z;cases z) (fun y=>n (y▸C.f.1)) z,n⟩
   have t5:=(kl _ _ ntl (s2 _ _ (s1 _ _ ht))).1;refine⟨_,rfl,q H5 _ _ k05 ⟨d5,fun c' p'=> ?_,u5 _ _ nld.symm (s4 _ _ d3),?_,⟨?_,?_⟩,⟨C.f.1,fun b hb y=> ?_⟩,fun y=> ?_⟩⟩
   ·have h':=C2.l.mv kl c' p'
    rw[gA];by_cases ec:c'=c/\p'=p
    ·obtain⟨rfl,rfl⟩:=ec
     rw[if_pos rfl];show((if c'=c'/\p'=p' then some is else wl c' p')=none->_)/\∀js,(if c'=c'/\p'=p' then some is else wl c' p')=some js->_;rw[if_pos ⟨rfl,rfl⟩];exact⟨fun y=>(by cases y),fun js ej=>(by cases ej;exact⟨tl,rfl,t5,ntl⟩)⟩
    ·rw[if_neg (fun y=>ec (a9H y))]
     show((if c'=c/\p'=p then some is else wl c' p')=none->_)/\∀js,(if c'=c/\p'=p then some is else wl c' p')=some js->_;rw[if_neg ec];exact h'
   ·exact Paired.snoc ⟨t2,tl,rfl,k25 _ _ (fun y=>by rw[y,C2.a]at v2;cases v2) (fun y=>by rw[y,C2.d]at v2;cases v2) v2,t5,ntl⟩ (Paired.imp (fun _ _ h=>h.mv (C2.kt k25) kl) C2.m)
   ·exact Nat.le_trans (a4d _ _ _) (by have:=C.n.1;omega)
   ·rw[List.length_append]
    show dv.length+ 1<=nb+ 1;have:=C.n.2;omega
   ·cases e2:H2 b with
    |none=>exact C2.f.2 b hb e2
    |some o=>
     by_cases y1:b=la
     ·rw[y1,d5]at y;cases y
     ·by_cases y2:b=du
      ·rw[y2,u5 _ _ nld.symm (s4 _ _ d3)]at y;cases y
      ·rw[k25 _ _ y1 y2 e2]at y;cases y
   ·rw[gA,if_neg (fun z=>a7K z)]
    exact C.k y
end
theorem Vd.kd(h:Vd d):decide (gX d= .tup)=My.isT d:=by
 rcases h with⟨i,rfl,_⟩|⟨y,rfl,_⟩<;>rfl
theorem Vd.nt(h:Vd d)(t:My.isT d=false):∃i,d= .int i/\iF (.int i)=true:=by
 rcases h with⟨i,rfl,hi⟩|⟨z,rfl,_⟩
 ·exact⟨i,rfl,hi⟩
 ·cases t
theorem Pv.iv{v:V}{i:Int}(h:Pv K H v (.int i)):v= .int i:=by
 have:=h.dt;cases this;rfl
def vB(d:PyData):PyData:=if isT d then d else qN (bS d).toNat
def vC(d:PyData):PyData:=if isT d then d else if isT (vB d) then vB d else .int (bS d- bS (vB d)% 3)
def vX(me:Str)(d:PyData):PyData:=if me= "a" then d else if me= "b" then vB d else vC d
def vM(me:Str)(d:PyData):PyData:=if isT (vX me d) then .int 5 else vX me d
def fE(me:Str)(d:PyData)(c:Str):PyData:=if c= "a" then d else if c= "b" then vB d else if c= "c" then vC d else if c= "m" then vM me d else .int (bS (vM me d)% 7)
noncomputable def cB (d:PyData):cS:=if isT d then [] else [("b",[bS d])]
noncomputable def cC (d:PyData):cS:=if isT d then [] else cB d++ if isT (vB d) then [] else([("c",[bS d,bS (vB d)])]:cS)
noncomputable def cX (me:Str) (d:PyData):cS:=if me= "a" then [] else if me= "b" then cB d else cC d
noncomputable def cM (me:Str) (d:PyData):cS:=cX me d++ if isT (vX me d) then([("m",[])]:cS) else []
noncomputable def eN (me:Str) (d:PyData) (c:Str):cS:=if c= "a" then [] else if c= "b" then cB d else if c= "c" then cC d else if c= "m" then cM me d else cM me d++ ([("n",[bS (vM me d)])]:cS)
noncomputable def kH (c:Str):Nat:=if c= "a"\/ c= "b" then 0 else if c= "c" then 1 else if c= "m" then 2 else 3
def gD(me:Str):Prop:=me= "a"\/ me= "b"\/ me= "c"
def Co30(c:Str):Prop:=gD c\/ c= "m"\/ c= "n"
theorem xU(h:dW d):Vd (vB d):=by
 unfold vB
 cases hT:isT d with
 |true=>rw[if_pos rfl];exact h.vd
 |false=>
  rw[if_neg Bool.false_ne_true];obtain⟨n,hn,rfl⟩:=h.nt hT;show Vd (qN n)
  rcases(show n=0\/ n=1\/ n=2\/ n=3\/ n=4\/ n=5\/ n=6\/ n=7\/ n=8\/ n=9\/ n=10\/ n=11 by omega)with rfl|rfl|rfl|rfl|rfl|rfl|rfl|rfl|rfl|rfl|rfl|rfl
  all_goals first|exact .inr ⟨_,rfl,fM.2.2.1⟩|exact .inr ⟨_,rfl,fM.2.2.2.2⟩|exact .inl ⟨_,rfl,a1E⟩|exact .inl ⟨_,rfl,jK _ (by decide) (by decide)⟩
theorem vS(h:dW d):Vd (vC d):=by
 unfold vC
 cases hT:isT d with
 |true=>rw[if_pos rfl];exact h.vd
 |false=>
  rw[if_neg Bool.false_ne_true];obtain⟨n,hn,rfl⟩:=h.nt hT
  cases hB:isT (vB (.int (n:Int)))with
  |true=>rw[if_pos rfl];exact xU h
  |false=>
   rw[if_neg Bool.false_ne_true];have e1:=Int.emod_nonneg (bS (vB (.int (n:Int)))) (show(3:Int)≠0 by decide);have e2:=Int.emod_lt_of_pos (bS (vB (.int (n:Int)))) (show(0:Int)<3 by decide);exact .inl ⟨_,rfl,jK _ (by show-1000000<=(n:Int)- _;omega) (by show(n:Int)- _<=1000000;omega)⟩
theorem a73(h:dW d):Vd (vX me d):=by
 unfold vX;split
 ·exact h.vd
 split
 ·exact xU h
 ·exact vS h
theorem xW(h:dW d):Vd (vM me d)/\isT (vM me d)=false:=by
 unfold vM
 cases hT:isT (vX me d)with
 |true=>rw[if_pos rfl];exact⟨.inl ⟨_,rfl,jK _ (by decide) (by decide)⟩,rfl⟩
 |false=>rw[if_neg Bool.false_ne_true];exact⟨a73 h,hT⟩
theorem a76(h:dW d):Vd (fE me d c):=by
 unfold fE;split
 ·exact h.vd
 split
 ·exact xU h
 split
 ·exact vS h
 split
 ·exact(xW h).1
 ·have e1:=Int.emod_nonneg (bS (vM me d)) (show(7:Int)≠0 by decide)
  have e2:=Int.emod_lt_of_pos (bS (vM me d)) (show(0:Int)<7 by decide);exact .inl ⟨_,rfl,jK _ (by omega) (by omega)⟩
theorem zU(d:PyData):(cB d).length<=1:=by
 unfold cB;split<;>simp
theorem a16(d:PyData):(cC d).length<=2:=by
 unfold cC;have:=zU d;split
 ·simp
 ·rw[List.length_append]
  split
  ·simp;omega
  ·simp;omega
theorem a8J(me:Str)(d:PyData):(cX me d).length<=2:=by
 unfold cX;have:=zU d;have:=a16 d;split
 ·simp
 split<;>omega
theorem a5S(me:Str)(d:PyData):(cM me d).length<=3:=by
 unfold cM;have:=a8J me d;rw[List.length_append];split
 ·simp;omega
 ·simp;omega
theorem xL(me:Str)(d:PyData)(c:Str):(eN me d c).length<=4:=by
 unfold eN;have:=zU d;have:=a16 d;have:=a5S me d;split
 ·simp
 split
 ·omega
 split
 ·omega
 split
 ·omega
 ·rw[List.length_append];simp;omega
theorem a2I(h:gD me)(d:PyData):fE me d me=vX me d/\eN me d me=cX me d:=by
 rcases h with rfl|rfl|rfl<;>exact⟨rfl,rfl⟩
section
inductive uR(K:Fg)(r:Nat)(vs:List V)(H:Hp)(Q:VK)(E:XK):Prop
 |mk (fx:List Addr) (wt la du vl:Addr) (me c:Str) (p:Nat) (zs:List V) (ds:List PyData) (kvs:List (List aB×V)) (wl:gF) (dv:List V) (ms:cS) (nb:Nat):vs= [.ref wt,.ref vl,.str me,.str c,.int (p:Int)] ->kH c<r->gD me->Co30 c->H wt=some (.tup [.ref la,.ref du])->jH fx la du kvs wl dv ms nb H->nb<800->H vl=some (.lst zs)->vl≠du->cQ K H zs ds->p<zs.length->dW (ds.getD p .none)->(∀H' kvs' dv' v,fV la du H H'->jH fx la du kvs' ((eN me (ds.getD p .none) c).foldl (gB p) (wl,ms)).1 dv' ((eN me (ds.getD p .none) c).foldl (gB p) (wl,ms)).2 (nb+ (eN me (ds.getD p .none) c).length) H'->Pv K H' v (fE me (ds.getD p .none) c)->Q v H')->uR K r vs H Q E
abbrev a7y:List Str:=["_law_world","_law_values","_law_mended","_law_column","_law_place","_law_a","_law_b","_law_one"]
abbrev wE:List Str:=["_law_world","_law_values","_law_mended","_law_column","_law_place"]
theorem qK:aY a7y wE (aL a4e):={}
theorem xN{K:Fg}{H:Hp}:∀{xs:List V} {ds:List PyData} {i:Nat} {v:V},cQ K H xs ds->xs[i]?=some v->Pv K H v (ds.getD i .none)
 |_,_,_,_,.nil,e=>by simp at e
 |_,_,0,_,.cons h _,e=>by simp at e;subst e;exact h
 |_,_,i+ 1,_,.cons _ t,e=>by simpa using xN (i:=i) t (by simpa using e)
theorem jH.new{fx:List Addr}{nb:Nat}(C:jH fx la du kvs wl dv ms nb H)(h:H l=none):l∉fx:=fun y=>C.f.2 l y h
theorem a3i(T:bA K mg):∀r,bD P w K mg af aD (r+ 3) "_law_cell" wE (uR K r)
 |0=>by
  refine T.d_law_cell.known qK (fun _ _ _ _ _ _ us hl=>pP (fun _ _ _ _ _=>rfl) us hl) (fun vs H Q E h=> ?_) (fun f ah A ag s H vs Q E hr h=> ?_)
  ·obtain⟨fx,wt,la,du,vl,me,c,p,zs,ds,kvs,wl,dv,ms,nb,rfl,h0,_⟩:=h
   rfl
  ·obtain⟨fx,wt,la,du,vl,me,c,p,zs,ds,kvs,wl,dv,ms,nb,rfl,h0,_⟩:=h
   omega
 |r+ 1=>by
  have G_law_cell:bD P w K mg af aD (r+ 3) "_law_cell" wE (uR K r):=a3i T r;have G_law_call:bD P w K mg af aD 1 "_law_call" ["_law_world","_law_column","_law_place","_law_told","_law_value_here"] (zI K):=a5Y T;have G_law_settled:bD P w K mg af aD 2 "_law_settled" ["_law_one"] (yH K):=a6u T;refine T.d_law_cell.known qK (fun _ _ _ _ _ _ us hl=>pP (fun _ _ _ _ _=>rfl) us hl) (fun vs H Q E h=> ?_) (fun f ah A ag s H vs Q E hr h=> ?_)
  ·obtain⟨fx,wt,la,du,vl,me,c,p,zs,ds,kvs,wl,dv,ms,nb,rfl,h0,_⟩:=h
   rfl
  ·obtain⟨fx,wt,la,du,vl,me,c,p,zs,ds,kvs,wl,dv,ms,nb,rfl,hrk,hme,hco,hw,C,n8,hvl,nvd,pz,hp,hG,q⟩:=h
   have hr1:1<=r+ 3:=by omega
   have hr2:2<=r+ 3:=by omega
   refine⟨_,(aJ (cA (i:=5) qK.nd rfl (Or.inl rfl) (cW jR (pv 1) (pv 4) (fun _ _=>rfl)))
   (aJ (bI (PW.pt (iN (cR lC (pv 3) bT (dA _)) (kE (PW.pt (oP (cR lC (pv 3) bT (dA _)) (oH (dH (dC jZ rfl T.isinstance iM (aA (pv 5) (aA (iP T.tuple sC) aG))) (fun _=>rfl)))))))) (aK (bH (pv 5))) bL)
   (aJ (bI (cR lC (pv 3) bT (dA _)) (aK (bH (bK G_law_call (hr.mono hr1) aO (aA (pv 0) (aA bT (aA (pv 4) (aA (fC (aA (pv 5) aG)) (aA (bK G_law_settled (hr.mono hr2) aO (aA (pv 5) aG)) aG)))))))) bL)
   (aJ (bI (cR lC (pv 3) bT (dA _)) (aJ (bI (dH (dC jZ rfl T.isinstance iM (aA (pv 5) (aA (iP T.tuple sC) aG))) (fun _=>rfl)) (aK (bH (pv 5))) bL)
   (aJ (cA (i:=6) qK.nd rfl (Or.inl rfl) (bK G_law_cell hr aO (aA (pv 0) (aA (pv 1) (aA (pv 2) (aA bT (aA (pv 4) aG)))))))
   (aJ (bI (dH (dC jZ rfl T.isinstance iM (aA (pv 6) (aA (iP T.tuple sC) aG))) (fun _=>rfl)) (aK (bH (pv 6))) bL)
   (aK (bH (bK G_law_call (hr.mono hr1) aO (aA (pv 0) (aA bT (aA (pv 4) (aA (fC (aA (pv 5) (aA (pv 6) aG))) (aA (bZ tI (pv 5) (bZ fR (pv 6) bB)) aG))))))))))) bL)
   (aJ (bI (cR lC (pv 3) bT (dA _)) (aJ (cA (i:=7) qK.nd rfl (Or.inl rfl) (bK G_law_cell hr aO (aA (pv 0) (aA (pv 1) (aA (pv 2) (aA (pv 2) (aA (pv 4) aG)))))))
   (aJ (bI (dH (dC jZ rfl T.isinstance iM (aA (pv 7) (aA (iP T.tuple sC) aG))) (fun _=>rfl)) (aK (bH (bK G_law_call (hr.mono hr1) aO (aA (pv 0) (aA bT (aA (pv 4) (aA (fC aG) (aA bB aG)))))))) bL)
   (aK (bH (pv 7))))) bL)
   (aJ (cA (i:=7) qK.nd rfl (Or.inl rfl) (bK G_law_cell hr aO (aA (pv 0) (aA (pv 1) (aA (pv 2) (aA bT (aA (pv 4) aG)))))))
   (aK (bH (bK G_law_call (hr.mono hr1) aO (aA (pv 0) (aA bT (aA (pv 4) (aA (fC (aA (pv 7) aG)) (aA (bZ fR (pv 7) bB) aG)))))))))))))),?_⟩
   have hzp:zs[p]?=some (zs[p]'hp):=List.getElem?_eq_getElem _;have pvp:=xN pz hzp;generalize zs[p]'hp=av at hzp pvp;generalize hd:ds.getD p .none=d at hG q pvp;refine⟨_,rfl,_,rfl,vl,zs,_,av,rfl,rfl,aM.of hvl,rF hzp,?_⟩;have nbl:∀{l:Addr} {y:HO},H l=some y->(∀k,y≠ .dT k)->l≠la:=fun e n y=>by rw[y,C.a]at e;exact n _ (Option.some.inj e).symm
   rcases hco with(rfl|rfl|rfl)|rfl|rfl
   ·refine⟨_,rfl,rfl,_,rfl,bY (fun _=> ?_) (fun h=>absurd (decide_eq_true rfl) h)⟩
    exact⟨_,rfl,q H kvs dv av (fV.of (aF.refl _)) C pvp⟩
   ·refine⟨_,rfl,rfl,_,rfl,bY (fun h=>absurd h (by decide+kernel)) (fun _=> ?_)⟩
    refine⟨_,rfl,rfl,_,rfl,bY (fun _=> ?_) (fun h=>absurd (decide_eq_true rfl) h)⟩;refine⟨_,rfl,av,"tuple",_,_,rfl,pvp.dt,tH K _,_,rfl,?_⟩;rw[pvp.vd.kd]
    cases hT:isT d with
    |true=>
     have ec:eN me d "b"= []:=by show cB d= [];unfold cB;rw[hT];rfl
     have ev:fE me d "b"=d:=by show vB d=d;unfold vB;rw[hT];rfl
     rw[ec,ev]at q;exact cI ⟨_,rfl,q H kvs dv av (fV.of (aF.refl _)) C pvp⟩
    |false=>
     obtain⟨n,hn,rfl⟩:=hG.nt hT;obtain rfl:=pvp.iv;refine bG ⟨_,rfl,rfl,_,rfl,bY (fun _=> ?_) (fun h=>absurd (decide_eq_true rfl) h)⟩;refine⟨_,rfl,_,rfl,_,rfl,sl,fun l hl=>⟨_,rfl,n,rfl,hn,fun H2 v s2 hv=> ?_⟩⟩;have s1:=(aF.new (o:=.lst [.int (n:Int)]) hl).trans s2;have l2:=s2 _ _ (aI (H:=H) (a:=l) (o:=.lst [.int (n:Int)]));have C2:=C.same s1;exact⟨fx,wt,la,du,l,"b",p,v,[(n:Int)],kvs,wl,dv,ms,nb,rfl,s1 _ _ hw,C2,by omega,l2,C.new hl,fun H3 kvs3 dv3 k3 C3=>q H3 kvs3 dv3 v ((fV.of s1).trans k3) C3 (hv.keep (C2.kt k3))⟩
   ·refine⟨_,rfl,rfl,_,rfl,bY (fun h=>absurd h (by decide+kernel)) (fun _=> ?_)⟩
    refine⟨_,rfl,rfl,_,rfl,bY (fun h=>absurd h (by decide+kernel)) (fun _=> ?_)⟩;refine⟨_,rfl,rfl,_,rfl,bY (fun h=>absurd h (by decide+kernel)) (fun _=> ?_)⟩;refine⟨_,rfl,rfl,_,rfl,bY (fun _=> ?_) (fun h=>absurd (decide_eq_true rfl) h)⟩;refine⟨_,rfl,av,"tuple",_,_,rfl,pvp.dt,tH K _,_,rfl,?_⟩;rw[pvp.vd.kd]
    cases hT:isT d with
    |true=>
     have ec:eN me d "c"= []:=by show cC d= [];unfold cC;rw[hT];rfl
     have ev:fE me d "c"=d:=by show vC d=d;unfold vC;rw[hT];rfl
     rw[ec,ev]at q;exact cI ⟨_,rfl,q H kvs dv av (fV.of (aF.refl _)) C pvp⟩
    |false=>
     have hr0:kH "b"<r:=by
      have h1:kH "c"=1:=by decide+kernel
      have h2:kH "b"=0:=by decide+kernel
      omega
     refine bG ⟨_,rfl,_,rfl,_,rfl,_,rfl,fx,wt,la,du,vl,me,"b",p,zs,ds,kvs,wl,dv,ms,nb,rfl,hr0,hme,.inl (.inr (.inl rfl)),hw,C,n8,hvl,nvd,pz,hp,by{rw[hd];exact hG},fun H1 kvs1 dv1 v1 k1 C1 p1=> ?_⟩;rw[hd]at C1 p1;have hw1:=k1 _ _ (nbl hw nk) (fun y=>by rw[y,C.d]at hw;cases hw) hw;have cl:=xL me d "b";refine⟨_,rfl,v1,"tuple",_,_,rfl,p1.dt,tH K _,_,rfl,?_⟩;rw[p1.vd.kd];have eB:fE me d "b"=vB d:=rfl
     rw[eB]at p1|-
     cases hB:isT (vB d)with
     |true=>
      have ec:eN me d "c"=eN me d "b":=by show cC d=cB d;unfold cC;rw[hT,hB];exact List.append_nil _
      have ev:fE me d "c"=vB d:=by show vC d=vB d;unfold vC;rw[hT,hB];rfl
      rw[ec,ev]at q;exact cI ⟨_,rfl,q H1 kvs1 dv1 v1 k1 C1 p1⟩
     |false=>
      obtain⟨n,hn,rfl⟩:=hG.nt hT;obtain rfl:=pvp.iv;obtain⟨b,eb,hb⟩:=p1.vd.nt hB;rw[eb]at p1;obtain rfl:=p1.iv
      have ec:eN me (.int (n:Int)) "c"=eN me (.int (n:Int)) "b" ++ ([("c",[(n:Int),b])]:cS):=by show cC (.int (n:Int))=cB (.int (n:Int))++ _;unfold cC;rw[hB,eb];rfl
      have ev:fE me (.int (n:Int)) "c"= .int ((n:Int)- b% 3):=by show vC (.int (n:Int))=_;unfold vC;rw[hB,eb];rfl
      have hc:=vS hG;have hcv:vC (.int (n:Int))= .int ((n:Int)- b% 3):=ev;rw[hcv]at hc;rw[ec,ev,List.foldl_append,List.length_append]at q;refine bG ⟨_,rfl,_,rfl,_,rfl,_,rfl,sl,fun l hl=>⟨_,rfl,_,rfl,_,_,rfl,rfl,(show(0:Int)<3 by decide),_,_,rfl,rfl,?_⟩⟩;have s2:=aF.new (o:=.lst [.int (n:Int),.int b]) hl;have l2:=aI (H:=H1) (a:=l) (o:=.lst [.int (n:Int),.int b])
      generalize upd H1 l (.lst [.int (n:Int),.int b])=H2 at s2 l2|-
      have C2:=C1.same s2
      have hcn:iF (.int ((n:Int)- b% 3))=true:=by
       rcases hc with⟨i,e,h⟩|⟨z,e,_⟩
       ·rw[e];exact h
       ·cases e
      exact⟨fx,wt,la,du,l,"c",p,_,[(n:Int),b],kvs1,_,dv1,_,_,rfl,s2 _ _ hw1,C2,by omega,l2,C1.new hl,fun H3 kvs3 dv3 k3 C3=>q H3 kvs3 dv3 _ ((k1.trans (fV.of s2)).trans k3) C3 (.inl ⟨_,rfl,rfl,hcn⟩)⟩
   ·refine⟨_,rfl,rfl,_,rfl,bY (fun h=>absurd h (by decide+kernel)) (fun _=> ?_)⟩
    refine⟨_,rfl,rfl,_,rfl,bY (fun h=>absurd h (by decide+kernel)) (fun _=> ?_)⟩;refine⟨_,rfl,rfl,_,rfl,bY (fun h=>absurd h (by decide+kernel)) (fun _=> ?_)⟩;refine⟨_,rfl,rfl,_,rfl,bY (fun h=>absurd h (by decide+kernel)) (fun _=> ?_)⟩;refine⟨_,rfl,rfl,_,rfl,bY (fun _=> ?_) (fun h=>absurd (decide_eq_true rfl) h)⟩
    have hr0:kH me<r:=by
     have h1:kH "m"=2:=by decide+kernel
     have h2:kH me<=1:=by rcases hme with rfl|rfl|rfl<;>decide+kernel
     omega
    refine⟨_,rfl,_,rfl,_,rfl,_,rfl,_,rfl,fx,wt,la,du,vl,me,me,p,zs,ds,kvs,wl,dv,ms,nb,rfl,hr0,hme,.inl hme,hw,C,n8,hvl,nvd,pz,hp,by{rw[hd];exact hG},fun H1 kvs1 dv1 v1 k1 C1 p1=> ?_⟩;rw[hd]at C1 p1;have hw1:=k1 _ _ (nbl hw nk) (fun y=>by rw[y,C.d]at hw;cases hw) hw;have cl:=xL me d me;obtain⟨x1,x2⟩:=a2I hme d;refine⟨_,rfl,v1,"tuple",_,_,rfl,p1.dt,tH K _,_,rfl,?_⟩;rw[p1.vd.kd]
    rw[x1]at p1|-
    rw[x2]at C1 cl
    cases hX:isT (vX me d)with
    |true=>
     have ec:eN me d "m"=cX me d++ ([("m",[])]:cS):=by show cM me d=_;unfold cM;rw[hX];rfl
     have ev:fE me d "m"= .int 5:=by show vM me d=_;unfold vM;rw[hX];rfl
     rw[ec,ev,List.foldl_append,List.length_append]at q;refine cI ⟨_,rfl,_,rfl,sl,fun l hl=> ?_⟩;have s2:=aF.new (o:=.lst []) hl;have l2:=aI (H:=H1) (a:=l) (o:=.lst [])
     generalize upd H1 l (.lst [])=H2 at s2 l2|-
     have C2:=C1.same s2;exact⟨fx,wt,la,du,l,"m",p,_,[],kvs1,_,dv1,_,_,rfl,s2 _ _ hw1,C2,by omega,l2,C1.new hl,fun H3 kvs3 dv3 k3 C3=>q H3 kvs3 dv3 _ ((k1.trans (fV.of s2)).trans k3) C3 (.inl ⟨_,rfl,rfl,jK _ (by decide) (by decide)⟩)⟩
    |false=>
     have ec:eN me d "m"=cX me d:=by show cM me d=_;unfold cM;rw[hX];exact List.append_nil _
     have ev:fE me d "m"=vX me d:=by show vM me d=_;unfold vM;rw[hX];rfl
     rw[ec,ev]at q;exact bG ⟨_,rfl,q H1 kvs1 dv1 v1 k1 C1 p1⟩
   ·refine⟨_,rfl,rfl,_,rfl,bY (fun h=>absurd h (by decide+kernel)) (fun _=> ?_)⟩
    refine⟨_,rfl,rfl,_,rfl,bY (fun h=>absurd h (by decide+kernel)) (fun _=> ?_)⟩;refine⟨_,rfl,rfl,_,rfl,bY (fun h=>absurd h (by decide+kernel)) (fun _=> ?_)⟩;refine⟨_,rfl,rfl,_,rfl,bY (fun h=>absurd h (by decide+kernel)) (fun _=> ?_)⟩;refine⟨_,rfl,rfl,_,rfl,bY (fun h=>absurd h (by decide+kernel)) (fun _=> ?_)⟩
    have hr0:kH "m"<r:=by
     have h1:kH "m"=2:=by decide+kernel
     have h2:kH "n"=3:=by decide+kernel
     omega
    refine⟨_,rfl,_,rfl,_,rfl,_,rfl,fx,wt,la,du,vl,me,"m",p,zs,ds,kvs,wl,dv,ms,nb,rfl,hr0,hme,.inr (.inl rfl),hw,C,n8,hvl,nvd,pz,hp,by{rw[hd];exact hG},fun H1 kvs1 dv1 v1 k1 C1 p1=> ?_⟩;rw[hd]at C1 p1;have hw1:=k1 _ _ (nbl hw nk) (fun y=>by rw[y,C.d]at hw;cases hw) hw;have cl:=xL me d "m";obtain⟨i,ei,hi⟩:=(xW (me:=me) hG).1.nt (xW hG).2;have p1:Pv K H1 v1 (vM me d):=p1;rw[ei]at p1;obtain rfl:=p1.iv
    have ec:eN me d "n"=eN me d "m" ++ ([("n",[i])]:cS):=by show cM me d++ _=cM me d++ _;rw[ei];rfl
    have ev:fE me d "n"= .int (i% 7):=by show PyData.int (bS (vM me d)% 7)=_;rw[ei];rfl
    rw[ec,ev,List.foldl_append,List.length_append]at q;refine⟨_,rfl,_,rfl,_,rfl,sl,fun l hl=>⟨_,rfl,_,_,rfl,rfl,(show(0:Int)<7 by decide),?_⟩⟩;have s2:=aF.new (o:=.lst [.int i]) hl;have l2:=aI (H:=H1) (a:=l) (o:=.lst [.int i])
    generalize upd H1 l (.lst [.int i])=H2 at s2 l2|-
    have C2:=C1.same s2;have e1:=Int.emod_nonneg i (show(7:Int)≠0 by decide);have e2:=Int.emod_lt_of_pos i (show(0:Int)<7 by decide);exact⟨fx,wt,la,du,l,"n",p,_,[i],kvs1,_,dv1,_,_,rfl,s2 _ _ hw1,C2,by omega,l2,C1.new hl,fun H3 kvs3 dv3 k3 C3=>q H3 kvs3 dv3 _ ((k1.trans (fV.of s2)).trans k3) C3 (.inl ⟨_,rfl,rfl,jK _ (by omega) (by omega)⟩)⟩
end
def cn:Nat->Str
 |0=> "a"
 |1=> "b"
 |2=> "c"
 |3=> "m"
 |_=> "n"
def ci(c:Str):Nat:=if c= "a" then 0 else if c= "b" then 1 else if c= "c" then 2 else if c= "m" then 3 else 4
theorem a42:∀k:Fin 5,ci (cn k.val)=k.val:=by decide+kernel
theorem qF{k:Nat}(h:k<=4):ci (cn k)=k:=a42 ⟨k,by omega⟩
theorem mV{k:Nat}(hj:j<=4)(hk:k<=4)(h:cn j=cn k):j=k:=by
 have:=congrArg ci h
 rwa [qF hj,qF hk]at this
theorem a7d:∀k:Fin 5,Nl (cn k.val):=by unfold Nl;decide+kernel
theorem kY{k:Nat}(h:k<=4):Nl (cn k):=a7d ⟨k,by omega⟩
theorem iE{k:Nat}(h:k<4):k=0\/ k=1\/ k=2\/ k=3:=by omega
theorem gD.cn(h:gD me):∃k,k<=2/\me=My.cn k:=by
 rcases h with rfl|rfl|rfl
 ·exact⟨0,by decide,rfl⟩
 ·exact⟨1,by decide,rfl⟩
 ·exact⟨2,by decide,rfl⟩
theorem a6J{m:Nat}(h:p<m):cL (eY 0 m) (p:Int)=some (.int (p:Int)):=by
 refine rF ?_;unfold eY;rw[List.getElem?_map,List.getElem?_range h];show some (V.int (0+ (p:Int)))=_;rw[Int.zero_add]
noncomputable def dJ (me:Str) (d:PyData) (k:Nat):Option (List Int):=match k with
 |0=>if isT d then none else some [bS d]
 |1=>if isT d then none else if isT (vB d) then none else some [bS d,bS (vB d)]
 |2=>if isT (vX me d) then some [] else none
 |_=>some [bS (vM me d)]
def gI(k:Nat):List Str:=match k with
 |0=> ["a"]
 |1=> ["a","b"]
 |_=> ["m"]
def oU(me:Str)(k p:Nat):GT:=if k=2 then sT "t" me p else jI "t" (gI k) p
def gK(k:Nat)(is:List Int):PyData:=match k with
 |0=>sF (is.headD 0).toNat
 |1=> .int (is.headD 0- (is.getD 1 0)% 3)
 |2=> .int 5
 |_=> .int (is.headD 0% 7)
def kM(k:Nat)(is:List Int):Prop:=match k with
 |0=>∃n:Nat,n<=11/\is= [(n:Int)]
 |1=>∃(n:Nat) (b:Int),n<=11/\is= [(n:Int),b]
 |2=>is= []
 |_=>∃x,is= [x]
theorem uY{val:aQ->PyData}{z:Str}:(jI "t" [z] p).run val=(if isT (val ("t",z,p)) then .inl (val ("t",z,p)) else .inr [bS (val ("t",z,p))])/\(jI "t" [z] p).looks val= [(("t",z,p):aQ)]:=by
 constructor
 ·show(fP .done [(("t",z,p):aQ)] []).run val=_
  rw[nN];show(if isT (val ("t",z,p)) then GT.done (.inl (val ("t",z,p))) else fP .done [] ([] ++ [bS (val ("t",z,p))])).run val=_;cases isT (val ("t",z,p))<;>rfl
 ·show(fP .done [(("t",z,p):aQ)] []).looks val=_
  rw[nN];show _::(if isT (val ("t",z,p)) then GT.done (.inl (val ("t",z,p))) else fP .done [] ([] ++ [bS (val ("t",z,p))])).looks val=_;cases isT (val ("t",z,p))<;>rfl
theorem a1j{val:aQ->PyData}{y z:Str}:(jI "t" [y,z] p).run val=(if isT (val ("t",y,p)) then .inl (val ("t",y,p)) else if isT (val ("t",z,p)) then .inl (val ("t",z,p)) else .inr [bS (val ("t",y,p)),bS (val ("t",z,p))])/\(jI "t" [y,z] p).looks val=(("t",y,p):aQ)::(if isT (val ("t",y,p)) then [] else [(("t",z,p):aQ)]):=by
 constructor
 ·show(fP .done [(("t",y,p):aQ),("t",z,p)] []).run val=_
  rw[nN];show(if isT (val ("t",y,p)) then GT.done (.inl (val ("t",y,p))) else fP .done [(("t",z,p):aQ)] ([] ++ [bS (val ("t",y,p))])).run val=_
  cases isT (val ("t",y,p))with
  |true=>rfl
  |false=>
   rw[if_neg Bool.false_ne_true,nN];show(if isT (val ("t",z,p)) then GT.done (.inl (val ("t",z,p))) else fP .done [] ([bS (val ("t",y,p))] ++ [bS (val ("t",z,p))])).run val=_;cases isT (val ("t",z,p))<;>rfl
 ·show(fP .done [(("t",y,p):aQ),("t",z,p)] []).looks val=_
  rw[nN];show _::(if isT (val ("t",y,p)) then GT.done (.inl (val ("t",y,p))) else fP .done [(("t",z,p):aQ)] ([] ++ [bS (val ("t",y,p))])).looks val=_
  cases isT (val ("t",y,p))with
  |true=>rfl
  |false=>
   rw[if_neg Bool.false_ne_true,nN];show _::_::(if isT (val ("t",z,p)) then GT.done (.inl (val ("t",z,p))) else fP .done [] ([bS (val ("t",y,p))] ++ [bS (val ("t",z,p))])).looks val=_;cases isT (val ("t",z,p))<;>rfl
noncomputable def qY (me:Str) (d:PyData) (k:Nat):List Str:=match k with
 |0=> ["a"]
 |1=>if isT d then ["a"] else ["a","b"]
 |2=> [me]
 |_=> ["m"]
theorem a9y{val:aQ->PyData}{k:Nat}(hG:dW d)(hme:gD me)(hk:k<4)(hv:∀c,val ("t",c,p)=fE me d c):(oU me k p).run val=(match dJ me d k with|some is=> .inr is|none=> .inl (fE me d (cn (k+ 1))))/\(oU me k p).looks val=(qY me d k).map fun c=>(("t",c,p):aQ):=by
 have va:val ("t","a",p)=d:=hv "a";have vb:val ("t","b",p)=vB d:=hv "b";have vm:val ("t","m",p)=vM me d:=hv "m";have vx:val ("t",me,p)=vX me d:=(hv me).trans (a2I hme d).1
 rcases iE hk with rfl|rfl|rfl|rfl
 ·show(jI "t" ["a"] p).run val=_/\(jI "t" ["a"] p).looks val=_
  rw[uY.1,uY.2,va];refine⟨?_,rfl⟩;show _=(match (if isT d then none else some [bS d]:Option (List Int))with|some is=>Sum.inr is|none=> .inl (vB d))
  cases hT:isT d with
  |true=>rw[if_pos rfl,if_pos rfl];show Sum.inl d=Sum.inl (vB d);unfold vB;rw[hT];rfl
  |false=>rw[if_neg Bool.false_ne_true,if_neg Bool.false_ne_true]
 ·show(jI "t" ["a","b"] p).run val=_/\(jI "t" ["a","b"] p).looks val=_
  rw[a1j.1,a1j.2,va,vb];constructor
  ·show _=(match (if isT d then none else if isT (vB d) then none else some [bS d,bS (vB d)]:Option (List Int))with|some is=>Sum.inr is|none=> .inl (vC d))
   cases hT:isT d with
   |true=>rw[if_pos rfl,if_pos rfl];show Sum.inl d=Sum.inl (vC d);unfold vC;rw[hT];rfl
   |false=>
    rw[if_neg Bool.false_ne_true,if_neg Bool.false_ne_true]
    cases hB:isT (vB d)with
    |true=>rw[if_pos rfl,if_pos rfl];show Sum.inl (vB d)=Sum.inl (vC d);unfold vC;rw[hT,hB];rfl
    |false=>rw[if_neg Bool.false_ne_true,if_neg Bool.false_ne_true]
  ·show _=(if isT d then ["a"] else ["a","b"]:List Str).map _
   cases isT d<;>rfl
 ·show(sT "t" me p).run val=_/\(sT "t" me p).looks val=_
  refine⟨?_,rfl⟩;show(if isT (val ("t",me,p)) then Sum.inr [] else .inl (val ("t",me,p)):PyData ⊕ List Int)=(match (if isT (vX me d) then some [] else none:Option (List Int))with|some is=>Sum.inr is|none=> .inl (vM me d));rw[vx]
  cases hX:isT (vX me d)with
  |true=>rfl
  |false=>show Sum.inl (vX me d)=Sum.inl (vM me d);unfold vM;rw[hX];rfl
 ·show(jI "t" ["m"] p).run val=_/\(jI "t" ["m"] p).looks val=_
  rw[uY.1,uY.2,vm,(xW hG).2];exact⟨rfl,rfl⟩
theorem vK{i:Int}(h:iF (.int i)=true):eX (.int i)= .int i:=if_pos (by show(iF (.int i)||_)=true;rw[h];rfl)
theorem a2S{k:Nat}(hG:dW d)(hk:k<4){is:List Int}(h:dJ me d k=some is):kM k is/\eX (gK k is)=fE me d (cn (k+ 1))/\is.length<=100:=by
 rcases iE hk with rfl|rfl|rfl|rfl
 ·have h:(if isT d then none else some [bS d]:Option (List Int))=some is:=h
  cases hT:isT d with
  |true=>rw[hT]at h;cases h
  |false=>
   rw[hT]at h;cases h;obtain⟨n,hn,rfl⟩:=hG.nt hT;exact⟨⟨n,hn,rfl⟩,(a1I hn).1,by show 1<=100;decide⟩
 ·have h:(if isT d then none else if isT (vB d) then none else some [bS d,bS (vB d)]:Option (List Int))=some is:=h
  cases hT:isT d with
  |true=>rw[hT]at h;cases h
  |false=>
   cases hB:isT (vB d)with
   |true=>rw[hT,hB]at h;cases h
   |false=>
    rw[hT,hB]at h;cases h;have hc:=vS hG
    have ev:vC d= .int (bS d- bS (vB d)% 3):=by unfold vC;rw[hT,hB];rfl
    obtain⟨n,hn,rfl⟩:=hG.nt hT;rw[ev]at hc;refine⟨⟨n,_,hn,rfl⟩,?_,by show 2<=100;decide⟩;show eX (.int (bS (.int (n:Int))- bS (vB (.int (n:Int)))% 3))=vC (.int (n:Int));rw[ev]
    rcases hc with⟨i,e,h⟩|⟨z,e,_⟩
    ·rw[e];exact vK h
    ·cases e
 ·have h:(if isT (vX me d) then some [] else none:Option (List Int))=some is:=h
  cases hX:isT (vX me d)with
  |false=>rw[hX]at h;cases h
  |true=>
   rw[hX]at h;cases h;refine⟨rfl,?_,by decide⟩;show eX (.int 5)=vM me d;unfold vM;rw[hX];exact vK (jK _ (by decide) (by decide))
 ·have h:some [bS (vM me d)]=some is:=h
  cases h;have e1:=Int.emod_nonneg (bS (vM me d)) (show(7:Int)≠0 by decide);have e2:=Int.emod_lt_of_pos (bS (vM me d)) (show(0:Int)<7 by decide);exact⟨⟨_,rfl⟩,vK (jK _ (by omega) (by omega)),by show 1<=100;decide⟩
theorem a9f{k:Nat}(hk:k<4){is:List Int}(h:kM k is):iK (gK k is)/\Vd (eX (gK k is)):=by
 have num:∀i:Int,-1000000<=i->i<=1000000->iK (.int i)/\Vd (eX (.int i)):=fun i a b=>by
  have:=jK i a b;rw[vK this];exact⟨fun _ e=>(by cases e),.inl ⟨_,rfl,this⟩⟩
 rcases iE hk with rfl|rfl|rfl|rfl
 ·obtain⟨n,hn,rfl⟩:=h
  obtain⟨a,b⟩:=a1I hn;refine⟨b,?_⟩;show Vd (eX (sF n));rw[a];have:=xU (d:=.int (n:Int)) (.inl ⟨n,hn,rfl⟩);exact this
 ·obtain⟨n,b,hn,rfl⟩:=h
  have e1:=Int.emod_nonneg b (show(3:Int)≠0 by decide);have e2:=Int.emod_lt_of_pos b (show(0:Int)<3 by decide);exact num ((n:Int)- b% 3) (by omega) (by omega)
 ·exact num 5 (by decide) (by decide)
 ·obtain⟨x,rfl⟩:=h
  have e1:=Int.emod_nonneg x (show(7:Int)≠0 by decide);have e2:=Int.emod_lt_of_pos x (show(0:Int)<7 by decide);exact num (x% 7) (by omega) (by omega)
structure cN where
 s:Addr
 ch:Addr
 bd:Addr
 ca:Addr
 vl:Addr
 la:Addr
 lA:Addr
 gr:Nat->Addr
 nl:Nat->Addr
 fa:Nat->Addr
 mc:Nat->Addr
 B:BM
 m:Nat
 me:Str
def cN.fx(W:cN):List Addr:=[W.ch,W.B.r,W.B.od,W.lA,W.ca,W.vl]
structure fU(W:cN):Prop where
 nd:W.fx.Nodup
 mb:∀k,k<4->W.mc k≠W.bd/\W.mc k≠W.B.e/\W.mc k≠W.B.ru/\W.mc k≠W.B.me
 md:∀j k,j<4->k<4->W.mc j=W.mc k->j=k
 ss:nG W.bd W.ch W.B
 k1:aE W.B.kvs (.inr "a":aB)=some (.ref W.lA)
 r0:∀k,k<4->aE W.B.rus (.inr (cn (k+ 1)):aB)=some (.ref (W.gr k))
 r1:aE W.B.rus (.inr "a":aB)=none
 me:∀k,k<4->aE W.B.mes (.inr (cn (k+ 1)):aB)=some (.ref (W.mc k))
 xs:W.B.xs=eY 0 W.m
 m5:1<=W.m/\W.m<=5
 od:W.B.ord=(List.range 5).map cn
 gs:∀k,k<4->W.gr k≠W.s/\W.nl k≠W.s
 gx:∀k,k<4->W.gr k∉W.fx/\W.nl k∉W.fx
 mn:gD W.me
section
variable(P:Program)(w:World)(K:Fg)(mg:Str->Option Value)(af:Heap)
def eQ(CG CM:Addr)(W:cN)(k:Nat):RD:=if k=2 then⟨W.gr k,W.fa k,W.mc k,CM,jC W.me (W.fa k),[W.gr k],some (.str (cn (k+ 1))),gK k,kM k,tM P w K mg af CM⟩ else⟨W.gr k,W.fa k,W.mc k,CG,jB (W.nl k) (W.fa k),[W.gr k,W.nl k],some (.str (cn (k+ 1))),gK k,kM k,qB P w K mg af CG⟩
def bN(CG CM:Addr)(W:cN)(fi fd lk:Addr)(ys:List V)(ds:List PyData):X1 where
 fi:=fi
 bd:=W.bd
 fd:=fd
 lk:=lk
 nm:= "t"
 B:=W.B
 m:=W.m
 gv:=fun c=>if c= "a" then some ys else none
 val:=fun c p=>fE W.me (ds.getD p .none) c
 rl:=fun c=>if 1<=ci c/\c=cn (ci c) then some (eQ P w K mg af CG CM W (ci c- 1)) else none
 tree:=fun c p=>oU W.me (ci c- 1) p
 rk:=fun c _=>ci c
 rc:=(List.range 4).map fun k=>cn (k+ 1)
 num:=fun p=>p
 bnd:=W.m
 ca:=some W.ca
 fx:=W.fx
 abn:=fun _=>False
 wa:=fun _ _=>none
end
section
variable{W:cN}
theorem a9k(c:Str):ci c<=4:=by
 unfold ci
 repeat' split
 all_goals omega
theorem fI(k:Nat):(eQ P w K mg af CG CM W k).gr=W.gr k/\(eQ P w K mg af CG CM W k).fa=W.fa k/\(eQ P w K mg af CG CM W k).mc=W.mc k/\(eQ P w K mg af CG CM W k).mrk=some (.str (cn (k+ 1)))/\(eQ P w K mg af CG CM W k).g=gK k/\(eQ P w K mg af CG CM W k).ok=kM k/\W.gr k∈(eQ P w K mg af CG CM W k).ft/\(∀b∈(eQ P w K mg af CG CM W k).ft,b=W.gr k\/ b=W.nl k)/\RF (eQ P w K mg af CG CM W k).fs (W.fa k)/\(eQ P w K mg af CG CM W k).fs.lookup ("gather":Str)=none:=by
 unfold eQ;split
 ·refine⟨rfl,rfl,rfl,rfl,rfl,rfl,aa,fun b hb=> .inl (List.mem_singleton.mp hb),⟨(qA _ _).1,(qA _ _).2.2.2.2⟩,(qA _ _).2.2.2.1⟩
 ·refine⟨rfl,rfl,rfl,rfl,rfl,rfl,aa,fun b hb=> ?_,⟨(rN _ _).1,(rN _ _).2.2.2.2⟩,(rN _ _).2.2.2.1⟩
  have hb:b∈ [W.gr k,W.nl k]:=hb;simp only[List.mem_cons,List.not_mem_nil,or_false]at hb;exact hb
theorem jT{R:RD}(h:(bN P w K mg af CG CM W fi fd lk ys ds).rl c=some R):∃k,k<4/\c=cn (k+ 1)/\R=eQ P w K mg af CG CM W k:=by
 have h:(if 1<=ci c/\c=cn (ci c) then some (eQ P w K mg af CG CM W (ci c- 1)) else none)=some R:=h;have:=a9k c;split at h
 ·next y=>
  refine⟨ci c- 1,by omega,?_,(Option.some.inj h).symm⟩;rw[show ci c- 1+ 1=ci c by omega];exact y.2
 ·cases h
theorem a2h{k:Nat}(hk:k<4):(bN P w K mg af CG CM W fi fd lk ys ds).rl (cn (k+ 1))=some (eQ P w K mg af CG CM W k):=by
 have e:ci (cn (k+ 1))=k+ 1:=qF (by omega);show(if 1<=ci (cn (k+ 1))/\cn (k+ 1)=cn (ci (cn (k+ 1))) then some (eQ P w K mg af CG CM W (ci (cn (k+ 1))- 1)) else none)=_;rw[e,if_pos ⟨by omega,rfl⟩];rfl
theorem tZ{ys':List V}(h:(bN P w K mg af CG CM W fi fd lk ys ds).gv c=some ys'):c= "a" /\ys'=ys:=by
 have h:(if c= "a" then some ys else none)=some ys':=h;split at h
 ·exact⟨by assumption,(Option.some.inj h).symm⟩
 ·cases h
theorem a0F{k:Nat}(hk:k+ 1<=4):(bN P w K mg af CG CM W fi fd lk ys ds).gv (cn (k+ 1))=none:=by
 show(if cn (k+ 1)= "a" then some ys else none)=none;rw[if_neg (fun y=>by have:=mV (k:=0) hk (by decide) y;cases this)]
theorem a3o{k:Nat}(hk:k+ 1<=4):(bN P w K mg af CG CM W fi fd lk ys ds).tree (cn (k+ 1)) p=oU W.me k p:=by
 show oU W.me (ci (cn (k+ 1))- 1) p=_;rw[qF hk];rfl
theorem wT(O:fU W)(hG:∀d∈ds,dW d)(ld:ds.length=W.m){k:Nat}(hk:k<4)(hp:p<W.m):((bN P w K mg af CG CM W fi fd lk ys ds).tree (cn (k+ 1)) p).run (bN P w K mg af CG CM W fi fd lk ys ds).v=(match dJ W.me (ds.getD p .none) k with|some is=> .inr is|none=> .inl (fE W.me (ds.getD p .none) (cn (k+ 1))))/\((bN P w K mg af CG CM W fi fd lk ys ds).tree (cn (k+ 1)) p).looks (bN P w K mg af CG CM W fi fd lk ys ds).v=(qY W.me (ds.getD p .none) k).map fun c=>(("t",c,p):aQ):=by
 rw[a3o (by omega)];refine a9y ?_ O.mn hk fun c=>rfl
 rw[List.getD_eq_getElem?_getD,List.getElem?_eq_getElem (by omega)];exact hG _ (List.getElem_mem _)
theorem a20(hme:gD W.me){k:Nat}(hk:k<4)(h:c∈qY W.me d k):∃j,j<=k/\c=cn j:=by
 obtain⟨i,hi,e⟩:=hme.cn
 rcases iE hk with rfl|rfl|rfl|rfl
 ·have h:c∈(["a"]:List Str):=h
  exact⟨0,by decide,List.mem_singleton.mp h⟩
 ·have h:c∈(if isT d then ["a"] else ["a","b"]:List Str):=h
  have h:c= "a"\/ c= "b":=by
   split at h
   ·exact .inl (List.mem_singleton.mp h)
   ·simpa using h
  rcases h with h|h
  ·exact⟨0,by decide,h⟩
  ·exact⟨1,by decide,h⟩
 ·have h:c∈ [W.me]:=h
  exact⟨i,hi,(List.mem_singleton.mp h).trans e⟩
 ·have h:c∈(["m"]:List Str):=h
  exact⟨3,by decide,List.mem_singleton.mp h⟩
theorem a9u(O:fU W)(fl:fd≠lk)(ly:ys.length=W.m)(ld:ds.length=W.m)(hG:∀d∈ds,dW d):X1Ok (bN P w K mg af CG CM W fi fd lk ys ds):=by
 have m5:=O.m5;have nd:=O.nd;unfold cN.fx at nd;simp only[List.nodup_cons,List.mem_cons,List.not_mem_nil,or_false,not_or]at nd;obtain⟨⟨_,_,_,_,_⟩,⟨_,_,b3,_⟩,⟨_,c2,_⟩,⟨d1,_⟩,_⟩:=nd;have gd:∀p,p<W.m->dW (ds.getD p .none):=fun p hp=>by
  rw[List.getD_eq_getElem?_getD,List.getElem?_eq_getElem (by omega)];exact hG _ (List.getElem_mem _)
 have caf:W.ca∈W.fx:=by unfold cN.fx;simp
 refine⟨by show W.B.xs.length=W.m;rw[O.xs,pV],by show W.m<=30;omega,by show W.B.ord.length<=8;rw[O.od];decide,fun c hc=> ?_,fun c R h=> ?_,fun c hc=> ?_,?_,fun c R h=> ?_,fun c R h=> ?_,fun c R h is hi=> ?_,fun c R h=> ?_,fun c R h=> ?_,fun c R c' R' h h' e=> ?_,⟨fun y=>b3 (Option.some.inj y).symm,fun y=>c2 (Option.some.inj y).symm⟩,fun c ys' l g e y=> ?_,fl,fun p hp=>⟨by show cL W.B.xs _=_;rw[O.xs];exact a6J hp,hp⟩,fun p p' _ _ e=>e,by show W.m<=85;omega,fun p j _ h=>False.elim h,fun a e=>by rw[<- Option.some.inj e];exact caf,fun c R p _ hp h=> ?_,fun c R p _ hp h y hy=> ?_,fun c R p _ hp h is hi=> ?_⟩
 ·have hc:c∈W.B.ord:=hc
  rw[O.od,List.mem_map]at hc;obtain⟨k,hk,rfl⟩:=hc;have hk:=List.mem_range.mp hk
  cases k with
  |zero=>exact .inl ⟨ys,(show(if("a":Str)= "a" then some ys else none)=some ys from if_pos rfl),ly,kY (by decide),O.r1⟩
  |succ k=>exact .inr ⟨a0F (by omega),_,a2h (by omega)⟩
 ·obtain⟨k,hk,rfl,rfl⟩:=jT h
  exact List.mem_map.mpr ⟨k,List.mem_range.mpr hk,rfl⟩
 ·obtain⟨k,hk,rfl⟩:=List.mem_map.mp hc
  have hk:=List.mem_range.mp hk;exact a0F (by omega)
 ·show((List.range 4).map fun k=>cn (k+ 1)).Nodup
  decide+kernel
 ·obtain⟨k,hk,rfl,rfl⟩:=jT h
  rw[(fI k).1,(fI k).2.2.1];exact⟨O.r0 k hk,O.me k hk⟩
 ·obtain⟨k,hk,rfl,rfl⟩:=jT h
  obtain⟨_,e2,_,_,_,_,_,_,e9,e10⟩:=fI (P:=P) (w:=w) (K:=K) (mg:=mg) (af:=af) (CG:=CG) (CM:=CM) (W:=W) k;rw[e2];exact⟨e9,e10⟩
 ·obtain⟨k,hk,rfl,rfl⟩:=jT h
  obtain⟨_,_,_,_,e5,e6,_⟩:=fI (P:=P) (w:=w) (K:=K) (mg:=mg) (af:=af) (CG:=CG) (CM:=CM) (W:=W) k;rw[e6]at hi;rw[e5];exact a9f hk hi
 ·obtain⟨k,hk,rfl,rfl⟩:=jT h
  obtain⟨e1,_,_,_,_,_,e7,e8,_⟩:=fI (P:=P) (w:=w) (K:=K) (mg:=mg) (af:=af) (CG:=CG) (CM:=CM) (W:=W) k;refine⟨by rw[e1];exact e7,fun b hb y=> ?_⟩;have y:W.ca=b:=Option.some.inj y;have gx:=O.gx k hk
  rcases e8 b hb with h|h
  ·exact gx.1 (by rw[<- h,<- y];exact caf)
  ·exact gx.2 (by rw[<- h,<- y];exact caf)
 ·obtain⟨k,hk,rfl,rfl⟩:=jT h
  rw[(fI k).2.2.1];exact O.mb k hk
 ·obtain⟨k,hk,rfl,rfl⟩:=jT h
  obtain⟨j,hj,rfl,rfl⟩:=jT h';rw[(fI k).2.2.1,(fI j).2.2.1]at e;rw[O.md k j hk hj e]
 ·obtain⟨rfl,rfl⟩:=tZ g
  have e:aE W.B.kvs (.inr "a":aB)=some (.ref l):=e;rw[O.k1]at e;have:=V.ref.inj (Option.some.inj e);exact d1 (this.trans (Option.some.inj y).symm)
 ·obtain⟨k,hk,rfl,rfl⟩:=jT h
  rw[(wT O hG ld hk hp).1,(fI k).2.2.2.2.1];show fE W.me (ds.getD p .none) (cn (k+ 1))=_
  cases e:dJ W.me (ds.getD p .none) k with
  |none=>rfl
  |some is=>exact(a2S (gd p hp) hk e).2.1.symm
 ·obtain⟨k,hk,rfl,rfl⟩:=jT h
  rw[(wT O hG ld hk hp).2,List.mem_map]at hy;obtain⟨c,hc,rfl⟩:=hy;obtain⟨j,hj,rfl⟩:=a20 O.mn hk hc;refine⟨⟨rfl,?_,hp⟩,fun _=> ?_⟩
  ·show cn j∈W.B.ord
   rw[O.od];exact List.mem_map.mpr ⟨j,List.mem_range.mpr (by omega),rfl⟩
  ·show ci (cn j)<ci (cn (k+ 1))
   rw[qF (by omega),qF (by omega)];omega
 ·obtain⟨k,hk,rfl,rfl⟩:=jT h
  rw[(wT O hG ld hk hp).1]at hi
  cases e:dJ W.me (ds.getD p .none) k with
  |none=>rw[e]at hi;cases hi
  |some js=>
   rw[e]at hi;have hi:Sum.inr js=Sum.inr is:=hi;cases hi;rw[(fI k).2.2.2.2.2.1];obtain⟨a,_,b⟩:=a2S (gd p hp) hk e;exact⟨a,b⟩
end
noncomputable def gJ (me:Str) (d:PyData) (k:Nat):List Nat:=match k with
 |0=> [0]
 |1=>if isT d then [1] else [0,1]
 |2=>(if me= "a" then [] else if me= "b" then [0] else if isT d then [1] else [0,1])++ [2]
 |_=>(if me= "a" then [] else if me= "b" then [0] else if isT d then [1] else [0,1])++ [2,3]
theorem a2s(hme:gD me){k:Nat}(hk:k<4):eN me d (cn (k+ 1))=(gJ me d k).filterMap fun j=>(dJ me d j).map fun is=>(cn (j+ 1),is):=by
 have hB:cB d=([0]:List Nat).filterMap fun j=>(dJ me d j).map fun is=>(cn (j+ 1),is):=by
  unfold cB;rw[List.filterMap_cons,List.filterMap_nil];rw[show dJ me d 0=(if isT d then none else some [bS d]:Option (List Int)) from rfl];cases isT d<;>rfl
 have hC:cC d=(if isT d then [1] else [0,1]:List Nat).filterMap fun j=>(dJ me d j).map fun is=>(cn (j+ 1),is):=by
  unfold cC
  cases hT:isT d with
  |true=>
   show []=([1]:List Nat).filterMap fun j=>(dJ me d j).map fun is=>(cn (j+ 1),is)
   rw[List.filterMap_cons,List.filterMap_nil];rw[show dJ me d 1=(if isT d then none else if isT (vB d) then none else some [bS d,bS (vB d)]:Option (List Int)) from rfl];rw[hT];rfl
  |false=>
   rw[if_neg Bool.false_ne_true,hB,if_neg Bool.false_ne_true];show _=([0] ++ [1]:List Nat).filterMap fun j=>(dJ me d j).map fun is=>(cn (j+ 1),is)
   rw[List.filterMap_append];congr 1;rw[List.filterMap_cons,List.filterMap_nil];rw[show dJ me d 1=(if isT d then none else if isT (vB d) then none else some [bS d,bS (vB d)]:Option (List Int)) from rfl];rw[hT];cases isT (vB d)<;>rfl
 have hX:cX me d=(if me= "a" then [] else if me= "b" then [0] else if isT d then [1] else [0,1]:List Nat).filterMap fun j=>(dJ me d j).map fun is=>(cn (j+ 1),is):=by
  unfold cX;split
  ·rfl
  split
  ·exact hB
  ·exact hC
 have hM:cM me d=((if me= "a" then [] else if me= "b" then [0] else if isT d then [1] else [0,1])++ [2]:List Nat).filterMap fun j=>(dJ me d j).map fun is=>(cn (j+ 1),is):=by
  unfold cM;rw[List.filterMap_append,<- hX];congr 1;rw[List.filterMap_cons,List.filterMap_nil];rw[show dJ me d 2=(if isT (vX me d) then some [] else none:Option (List Int)) from rfl];cases isT (vX me d)<;>rfl
 rcases iE hk with rfl|rfl|rfl|rfl
 ·exact hB
 ·exact hC
 ·exact hM
 ·show cM me d++ ([("n",[bS (vM me d)])]:cS)=_
  rw[hM];show _=((if me= "a" then [] else if me= "b" then [0] else if isT d then [1] else [0,1])++ [2,3]:List Nat).filterMap fun j=>(dJ me d j).map fun is=>(cn (j+ 1),is)
  rw[show ([2,3]:List Nat)= [2] ++ [3] from rfl,<- List.append_assoc,List.filterMap_append (l':=[3])];rfl
theorem sW{k:Nat}(hk:k<4):(gJ me d k).Nodup/\k∈gJ me d k/\∀j∈gJ me d k,j<=k:=by
 have hx:∀l:List Nat,l=(if me= "a" then [] else if me= "b" then [0] else if isT d then [1] else [0,1]:List Nat)->l= []\/ l= [0]\/ l= [1]\/ l= [0,1]:=fun l e=>by
  rw[e];split
  ·exact .inl rfl
  split
  ·exact .inr (.inl rfl)
  split
  ·exact .inr (.inr (.inl rfl))
  ·exact .inr (.inr (.inr rfl))
 rcases iE hk with rfl|rfl|rfl|rfl
 ·show([0]:List Nat).Nodup/\0∈ [0] /\∀j∈([0]:List Nat),j<=0
  decide
 ·show(if isT d then [1] else [0,1]:List Nat).Nodup/\1∈(if isT d then [1] else [0,1]:List Nat)/\∀j∈(if isT d then [1] else [0,1]:List Nat),j<=1
  cases isT d<;>decide
 ·show(_++ [2]:List Nat).Nodup/\2∈(_++ [2]:List Nat)/\∀j∈(_++ [2]:List Nat),j<=2
  rcases hx _ rfl with e|e|e|e<;>rw[e]<;>decide
 ·show(_++ [2,3]:List Nat).Nodup/\3∈(_++ [2,3]:List Nat)/\∀j∈(_++ [2,3]:List Nat),j<=3
  rcases hx _ rfl with e|e|e|e<;>rw[e]<;>decide
theorem a8s(hme:gD me){k:Nat}(hk:k<4)(hj:j∈gJ me d k)(hi:cn (i+ 1)∈qY me d j)(hi4:i<4):i∈gJ me d k:=by
 have hjk:=(sW hk).2.2 j hj;have n0:∀{i j:Nat},i<4->j<=4->cn (i+ 1)=cn j->i+ 1=j:=fun h1 h2 e=>mV (by omega) h2 e
 rcases iE (show j<4 by omega)with rfl|rfl|rfl|rfl
 ·have hi:cn (i+ 1)∈(["a"]:List Str):=hi
  have:=n0 hi4 (by decide) (show cn (i+ 1)=cn 0 from List.mem_singleton.mp hi);omega
 ·have hi:cn (i+ 1)∈(if isT d then ["a"] else ["a","b"]:List Str):=hi
  cases hT:isT d with
  |true=>
   rw[hT]at hi;have hi:cn (i+ 1)∈(["a"]:List Str):=hi;have:=n0 hi4 (by decide) (show cn (i+ 1)=cn 0 from List.mem_singleton.mp hi);omega
  |false=>
   rw[hT]at hi;have hi:cn (i+ 1)∈(["a","b"]:List Str):=hi;simp only[List.mem_cons,List.not_mem_nil,or_false]at hi
   obtain rfl:i=0:=by
    rcases hi with h|h
    ·have:=n0 hi4 (by decide) (show cn (i+ 1)=cn 0 from h);omega
    ·have:=n0 hi4 (by decide) (show cn (i+ 1)=cn 1 from h);omega
   have key:1∈(if me= "a" then [] else if me= "b" then [0] else if isT d then [1] else [0,1]:List Nat)->0∈(if me= "a" then [] else if me= "b" then [0] else if isT d then [1] else [0,1]:List Nat):=by
    rw[hT];split
    ·intro h;cases h
    split
    ·intro h;simp at h
    ·intro _;decide
   rcases iE hk with rfl|rfl|rfl|rfl
   ·exact absurd hj (by show¬1∈([0]:List Nat);decide)
   ·show 0∈(if isT d then [1] else [0,1]:List Nat)
    rw[hT];decide
   ·have hj:1∈(_++ [2]:List Nat):=hj
    show 0∈(_++ [2]:List Nat)
    rcases List.mem_append.mp hj with h|h
    ·exact List.mem_append_left _ (key h)
    ·simp at h
   ·have hj:1∈(_++ [2,3]:List Nat):=hj
    show 0∈(_++ [2,3]:List Nat)
    rcases List.mem_append.mp hj with h|h
    ·exact List.mem_append_left _ (key h)
    ·simp at h
 ·have hi:cn (i+ 1)∈ [me]:=hi
  have hi:=List.mem_singleton.mp hi
  have key:i∈(if me= "a" then [] else if me= "b" then [0] else if isT d then [1] else [0,1]:List Nat):=by
   rcases hme with rfl|rfl|rfl
   ·have:=n0 hi4 (by decide) (show cn (i+ 1)=cn 0 from hi);omega
   ·obtain rfl:i=0:=by have:=n0 hi4 (by decide) (show cn (i+ 1)=cn 1 from hi);omega
    rw[if_neg (by decide+kernel),if_pos rfl];decide
   ·obtain rfl:i=1:=by have:=n0 hi4 (by decide) (show cn (i+ 1)=cn 2 from hi);omega
    rw[if_neg (by decide+kernel),if_neg (by decide+kernel)];cases isT d<;>decide
  rcases iE hk with rfl|rfl|rfl|rfl
  ·omega
  ·omega
  ·show i∈(_++ [2]:List Nat)
   exact List.mem_append_left _ key
  ·show i∈(_++ [2,3]:List Nat)
   exact List.mem_append_left _ key
 ·have hi:cn (i+ 1)∈(["m"]:List Str):=hi
  obtain rfl:i=2:=by have:=n0 hi4 (by decide) (show cn (i+ 1)=cn 3 from List.mem_singleton.mp hi);omega
  obtain rfl:k=3:=by omega
  show 2∈(_++ [2,3]:List Nat);exact List.mem_append_right _ (by decide)
theorem a7W(hme:gD me){k:Nat}(hk:k<4){F:Nat->Prop}(h0:F k)(st:∀j i,j<4->i<4->F j->cn (i+ 1)∈qY me d j->F i):∀j∈gJ me d k,F j:=by
 have cC:F 1->∀j∈(if isT d then [1] else [0,1]:List Nat),F j:=fun h1 j hj=>by
  cases hT:isT d with
  |true=>rw[hT]at hj;rw[List.mem_singleton.mp hj];exact h1
  |false=>
   rw[hT]at hj;have hj:j∈([0,1]:List Nat):=hj;simp only[List.mem_cons,List.not_mem_nil,or_false]at hj
   rcases hj with rfl|rfl
   ·exact st 1 0 (by decide) (by decide) h1 (by show cn 1∈(if isT d then ["a"] else ["a","b"]:List Str);rw[hT];decide+kernel)
   ·exact h1
 have cX:F 2->∀j∈(if me= "a" then [] else if me= "b" then [0] else if isT d then [1] else [0,1]:List Nat),F j:=fun h2 j hj=>by
  rcases hme with rfl|rfl|rfl
  ·rw[if_pos rfl]at hj;cases hj
  ·rw[if_neg (by decide+kernel),if_pos rfl]at hj
   rw[List.mem_singleton.mp hj];exact st 2 0 (by decide) (by decide) h2 (List.mem_singleton.mpr rfl)
  ·rw[if_neg (by decide+kernel),if_neg (by decide+kernel)]at hj
   exact cC (st 2 1 (by decide) (by decide) h2 (List.mem_singleton.mpr rfl)) j hj
 intro j hj
 rcases iE hk with rfl|rfl|rfl|rfl
 ·have hj:j∈([0]:List Nat):=hj
  rw[List.mem_singleton.mp hj];exact h0
 ·exact cC h0 j hj
 ·have hj:j∈(_++ [2]:List Nat):=hj
  rcases List.mem_append.mp hj with h|h
  ·exact cX h0 j h
  ·rw[List.mem_singleton.mp h];exact h0
 ·have h2:F 2:=st 3 2 (by decide) (by decide) h0 (List.mem_singleton.mpr rfl)
  have hj:j∈(_++ [2,3]:List Nat):=hj
  rcases List.mem_append.mp hj with h|h
  ·exact cX h2 j h
  ·simp only[List.mem_cons,List.not_mem_nil,or_false]at h
   rcases h with rfl|rfl
   ·exact h2
   ·exact h0
theorem sR(p:Nat)(f:Nat->Option (List Int)):∀(l:List Nat),l.Nodup->(∀j∈l,j<4)->∀(wl:gF) (ms:cS),
 (((l.filterMap fun j=>(f j).map fun is=>((cn (j+ 1),is):Str×List Int)).foldl (gB p) (wl,ms)).2=ms++ l.filterMap (fun j=>(f j).bind fun is=>if wl (cn (j+ 1)) p=some is then none else some ((cn (j+ 1),is):Str×List Int)))/\
 (∀j,j∈l->∀is,f j=some is->((l.filterMap fun j=>(f j).map fun is=>((cn (j+ 1),is):Str×List Int)).foldl (gB p) (wl,ms)).1 (cn (j+ 1)) p=some is)/\
 ∀c q,(∀j∈l,f j≠none->¬(c=cn (j+ 1)/\q=p))->((l.filterMap fun j=>(f j).map fun is=>((cn (j+ 1),is):Str×List Int)).foldl (gB p) (wl,ms)).1 c q=wl c q
 | [],_,_,wl,ms=>⟨(List.append_nil _).symm,fun j hj=>by{cases hj},fun c q _=>rfl⟩
 |a::l,nd,h4,wl,ms=>by
  have nd':=List.nodup_cons.mp nd;have h4':∀j∈l,j<4:=fun j hj=>h4 j (List.mem_cons_of_mem _ hj)
  have ha:=h4 a aa;have ne:∀j∈l,cn (j+ 1)≠cn (a+ 1):=fun j hj y=>nd'.1 (by
   have:=mV (by have:=h4' j hj;omega) (by omega) y
   rw[show a=j by omega];exact hj)
  cases e:f a with
  |none=>
   obtain⟨i1,i2,i3⟩:=sR p f l nd'.2 h4' wl ms;rw[List.filterMap_cons_none (by rw[e];rfl)];refine⟨by rw[i1,List.filterMap_cons_none (by rw[e];rfl)],fun j hj is ej=> ?_,fun c q h=>i3 c q fun j hj=>h j (List.mem_cons_of_mem _ hj)⟩
   rcases List.mem_cons.mp hj with rfl|hj
   ·rw[e]at ej;cases ej
   ·exact i2 j hj is ej
  |some is=>
   rw[List.filterMap_cons_some (b:=(cn (a+ 1),is)) (by rw[e];rfl),List.foldl_cons];unfold gB;by_cases hw:wl (cn (a+ 1)) p=some is
   ·rw[if_pos hw]
    obtain⟨i1,i2,i3⟩:=sR p f l nd'.2 h4' wl ms;unfold gB at i1 i2 i3;refine⟨by rw[i1,List.filterMap_cons_none (by rw[e];show(if wl (cn (a+ 1)) p=some is then none else some (cn (a+ 1),is))=none;rw[if_pos hw])],fun j hj js ej=> ?_,fun c q h=>i3 c q fun j hj=>h j (List.mem_cons_of_mem _ hj)⟩
    rcases List.mem_cons.mp hj with rfl|hj
    ·rw[e]at ej
     cases ej;rw[i3 _ _ fun j hj _ y=>ne j hj y.1.symm];exact hw
    ·exact i2 j hj js ej
   ·rw[if_neg hw]
    obtain⟨i1,i2,i3⟩:=sR p f l nd'.2 h4' (fun c q=>if c=cn (a+ 1)/\q=p then some is else wl c q) (ms++ [(cn (a+ 1),is)]);unfold gB at i1 i2 i3;refine⟨?_,fun j hj js ej=> ?_,fun c q h=> ?_⟩
    ·rw[i1,List.filterMap_cons_some (b:=(cn (a+ 1),is)) (by rw[e];show(if wl (cn (a+ 1)) p=some is then none else some (cn (a+ 1),is))=_;rw[if_neg hw]),List.append_assoc,List.singleton_append]
     congr 2;refine a0Y fun j hj=> ?_
     rw[if_neg (fun y=>ne j hj y.1)]
    ·rcases List.mem_cons.mp hj with rfl|hj
     ·rw[e]at ej
      cases ej;rw[i3 _ _ fun j hj _ y=>ne j hj y.1.symm];exact if_pos ⟨rfl,rfl⟩
     ·exact i2 j hj js ej
    ·rw[i3 c q fun j hj=>h j (List.mem_cons_of_mem _ hj)]
     exact if_neg (h a aa (by rw[e];exact fun y=>by cases y))
def fK(wo:aQ->Option (List Int×V)):gF:=fun c q=>(wo ("t",c,q)).map (·.1)
abbrev ce(k p:Nat):aQ:=("t",cn (k+ 1),p)
noncomputable def mT (m:Str×List Int):Option V×List Int:=(some (.str m.1),m.2)
section
variable{W:cN}
theorem xR{k:Nat}(hk:k<4):(bN P w K mg af CG CM W fi fd lk ys ds).sx.gv "t" (cn (k+ 1))=none:=(X1.gvn _ _).trans (a0F (by omega))
theorem rl30{k:Nat}(hk:k<4):(bN P w K mg af CG CM W fi fd lk ys ds).sx.rl "t" (cn (k+ 1))=some (eQ P w K mg af CG CM W k):=(X1.rln _ _).trans (a2h hk)
theorem qH(O:fU W)(hG:∀d∈ds,dW d)(ld:ds.length=W.m){k:Nat}(hk:k<4)(hp:p<W.m):((bN P w K mg af CG CM W fi fd lk ys ds).sx.tree (ce k p)).run (bN P w K mg af CG CM W fi fd lk ys ds).sx.val=(match dJ W.me (ds.getD p .none) k with|some is=> .inr is|none=> .inl (fE W.me (ds.getD p .none) (cn (k+ 1))))/\((bN P w K mg af CG CM W fi fd lk ys ds).sx.tree (ce k p)).looks (bN P w K mg af CG CM W fi fd lk ys ds).sx.val=(qY W.me (ds.getD p .none) k).map fun c=>(("t",c,p):aQ):=wT (P:=P) (w:=w) (K:=K) (mg:=mg) (af:=af) (CG:=CG) (CM:=CM) (W:=W) (fi:=fi) (fd:=fd) (lk:=lk) (ys:=ys) (ds:=ds) (k:=k) (p:=p) O hG ld hk hp
theorem a5X(O:fU W)(hG:∀d∈ds,dW d)(ld:ds.length=W.m){k:Nat}(hk:k<4)(hp:p<W.m){y:aQ}(h:nS (bN P w K mg af CG CM W fi fd lk ys ds).sx (ce k p) y):∃j,j∈gJ W.me (ds.getD p .none) k/\y=ce j p:=by
 induction h with
 |refl=>exact⟨k,(sW hk).2.1,rfl⟩
 | @step y z h hz g ih=>
  obtain⟨j,hj,rfl⟩:=ih
  have hj4:j<4:=by have:=(sW (me:=W.me) (d:=ds.getD p .none) hk).2.2 j hj;omega
  rw[(qH O hG ld hj4 hp).2,List.mem_map]at hz;obtain⟨c,hc,rfl⟩:=hz;obtain⟨i,hi,rfl⟩:=a20 O.mn hj4 hc
  cases i with
  |zero=>
   have g:(if("t":Str)= "t" then(if("a":Str)= "a" then some ys else none) else none)=none:=g;rw[if_pos rfl,if_pos rfl]at g;cases g
  |succ i=>exact⟨i,a8s O.mn hk hj hc (by omega),rfl⟩
theorem a3R(O:fU W)(hG:∀d∈ds,dW d)(ld:ds.length=W.m){k:Nat}(hk:k<4)(hp:p<W.m):nB (bN P w K mg af CG CM W fi fd lk ys ds).sx wo (ce k p)=((dJ W.me (ds.getD p .none) k).bind fun is=>if fK wo (cn (k+ 1)) p=some is then none else some (cn (k+ 1),is)).map mT:=by
 unfold nB;rw[(qH O hG ld hk hp).1];simp only[rl30 hk]
 cases e:dJ W.me (ds.getD p .none) k with
 |none=>rfl
 |some is=>
  show(if(wo (ce k p)).map (·.1)=some is then none else some ((eQ P w K mg af CG CM W k).mrk,is))=((if(wo (ce k p)).map (·.1)=some is then none else some (cn (k+ 1),is)).map mT);rw[(fI k).2.2.2.1];split<;>rfl
theorem vo30(O:fU W)(hG:∀d∈ds,dW d)(ld:ds.length=W.m){k:Nat}(hk:k<4)(hp:p<W.m){kl':List (Ky×V)}{mem':Str->Str->List (aB×V)}{L:List aQ}
 (S:SB P w K mg af RG CF CB CT zt (bN P w K mg af CG CM W fi fd lk ys ds).sx kf kl mem wo cs ns H)(S':SB P w K mg af RG CF CB CT zt (bN P w K mg af CG CM W fi fd lk ys ds).sx kf' kl' mem' wo' cs' ns' H')(fnd:(aE kf' (cK (ce k p))).isSome=true)(ve:pC (bN P w K mg af CG CM W fi fd lk ys ds).sx [ce k p] kf kf' wo wo' ns ns' L):
 (∃calls:cS,ns'=ns++ calls.map mT/\calls.Perm ((eN W.me (ds.getD p .none) (cn (k+ 1))).foldl (gB p) (fK wo,[])).2)/\∀c q,fK wo' c q=((eN W.me (ds.getD p .none) (cn (k+ 1))).foldl (gB p) (fK wo,[])).1 c q:=by
 obtain⟨dn,_,dk⟩:=sW (me:=W.me) (d:=ds.getD p .none) hk;have d4:∀j∈gJ W.me (ds.getD p .none) k,j<4:=fun j hj=>by have:=dk j hj;omega
 have Vc:∀j,j<4->(bN P w K mg af CG CM W fi fd lk ys ds).sx.Vc (ce j p):=fun j hj=>⟨rfl,by show cn (j+ 1)∈W.B.ord;rw[O.od];exact List.mem_map.mpr ⟨j+ 1,List.mem_range.mpr (by omega),rfl⟩,hp⟩
 have allf:∀j∈gJ W.me (ds.getD p .none) k,(aE kf' (cK (ce j p))).isSome=true:=a7W O.mn hk (F:=fun j=>(aE kf' (cK (ce j p))).isSome=true) fnd fun j i hj hi hf hc=>by
  obtain⟨v,e⟩:=Option.isSome_iff_exists.mp hf;refine S'.cz (ce j p) v (Vc j hj) (xR hj) e (ce i p) ?_ (xR hi);rw[(qH O hG ld hj hp).2];exact List.mem_map.mpr ⟨_,hc,rfl⟩
 let Lv:List aQ:=(gJ W.me (ds.getD p .none) k).map fun j=>ce j p
 have mC:∀y∈L,y∈Lv:=fun y hy=>by
  obtain⟨_,_,_,x,hx,hd⟩:=ve.mem y hy;rw[List.mem_singleton.mp hx]at hd;obtain⟨j,hj,rfl⟩:=a5X O hG ld hk hp hd;exact List.mem_map.mpr ⟨j,hj,rfl⟩
 have ndv:Lv.Nodup:=by
  show((gJ W.me (ds.getD p .none) k).map fun j=>ce j p).Nodup;rw[List.nodup_iff_pairwise_ne,List.pairwise_map];refine List.Pairwise.imp_of_mem (fun{a b} ha hb hab y=> ?_) (List.nodup_iff_pairwise_ne.mp dn);have ha:=d4 a ha;have hb:=d4 b hb;have:=mV (j:=a+ 1) (k:=b+ 1) (by omega) (by omega) (congrArg (fun z:aQ=>z.2.1) y);omega
 have told:∀{j:Nat} {kf1 kl1:List (Ky×V)} {mem1:Str->Str->List (aB×V)} {wo1:aQ->Option (List Int×V)} {cs1:List V} {ns1:List (Option V×List Int)} {H1:Hp},SB P w K mg af RG CF CB CT zt (bN P w K mg af CG CM W fi fd lk ys ds).sx kf1 kl1 mem1 wo1 cs1 ns1 H1->j<4->(aE kf1 (cK (ce j p))).isSome=true->∀is,dJ W.me (ds.getD p .none) j=some is->fK wo1 (cn (j+ 1)) p=some is:=by
  intro j kf1 kl1 mem1 wo1 cs1 ns1 H1 S1 hj hf is e;obtain⟨v,ev⟩:=Option.isSome_iff_exists.mp hf;have h2:=(S1.fp _ v (Vc j hj) (xR hj) ev).2 is (by rw[(qH O hG ld hj hp).1,e]);unfold fK;rw[h2];rfl
 have need:∀y∈Lv,nB (bN P w K mg af CG CM W fi fd lk ys ds).sx wo y≠none->y∈L:=fun y hy hn'=>by
  cases Classical.em (y∈L)with
  |inl h=>exact h
  |inr h=>
   exfalso;obtain⟨j,hj,rfl⟩:=List.mem_map.mp hy;apply hn';rw[a3R O hG ld (d4 j hj) hp]
   cases e:dJ W.me (ds.getD p .none) j with
   |none=>rfl
   |some is=>
    have hf:=allf j hj;rw[ve.fnd _ (xR (d4 j hj)) h]at hf;show(if fK wo (cn (j+ 1)) p=some is then none else some (cn (j+ 1),is)).map mT=none;rw[if_pos (told S (d4 j hj) hf is e)];rfl
 have perm:=a2Y ve.nd ndv mC need;obtain⟨f1,f2,f3⟩:=sR p (dJ W.me (ds.getD p .none)) (gJ W.me (ds.getD p .none) k) dn d4 (fK wo) [];rw[<- a2s O.mn hk]at f1 f2 f3
 have eR:Lv.filterMap (nB (bN P w K mg af CG CM W fi fd lk ys ds).sx wo)=((eN W.me (ds.getD p .none) (cn (k+ 1))).foldl (gB p) (fK wo,[])).2.map mT:=by
  rw[f1,List.nil_append];show((gJ W.me (ds.getD p .none) k).map fun j=>ce j p).filterMap _=_;rw[List.filterMap_map,List.map_filterMap];exact a0Y fun j hj=>a3R O hG ld (d4 j hj) hp
 rw[eR]at perm;refine⟨?_,fun c q=> ?_⟩
 ·let g:Option V×List Int->Str×List Int:=fun x=>(match x.1 with|some (.str i)=>i|_=> "",x.2)
  refine⟨(L.filterMap (nB (bN P w K mg af CG CM W fi fd lk ys ds).sx wo)).map g,?_,?_⟩
  ·rw[ve.ns,List.map_map]
   congr 1;refine(List.map_id _).symm.trans (List.map_congr_left fun x hx=> ?_);obtain⟨m,_,rfl⟩:=List.mem_map.mp (perm.mem_iff.mp hx);rfl
  ·have:=perm.map g
   rw[List.map_map,show(g ∘ mT)=id from funext fun m=>rfl,List.map_id]at this;exact this
 ·cases Classical.em (∃j∈gJ W.me (ds.getD p .none) k,∃is,dJ W.me (ds.getD p .none) j=some is/\c=cn (j+ 1)/\q=p)with
  |inl h=>
   obtain⟨j,hj,is,e,rfl,rfl⟩:=h;rw[f2 j hj is e];exact told S' (d4 j hj) (allf j hj) is e
  |inr h=>
   rw[f3 c q fun j hj hn y=>by
    cases e:dJ W.me (ds.getD p .none) j with
    |none=>exact hn e
    |some is=>exact h ⟨j,hj,is,e,y⟩]
   unfold fK;congr 1
   cases Classical.em ((("t",c,q):aQ)∈L)with
   |inr hn=>exact ve.won _ hn
   |inl hm=>
    obtain⟨j,hj,e⟩:=List.mem_map.mp (mC _ hm);cases e
    cases e2:dJ W.me (ds.getD p .none) j with
    |none=>exact ve.wov _ hm _ (by rw[show (("t",cn (j+ 1),p):aQ)=ce j p from rfl,(qH O hG ld (d4 j hj) hp).1,e2])
    |some is=>exact absurd ⟨j,hj,is,e2,rfl,rfl⟩ h
end
section
variable{X:SX}
theorem SB.clear(S:SB P w K mg af RG CF CB CT zt X kf kl mem wo cs ns H)(O:iT X)(hc:X.ca=some a)(u:bC a H H')(h':H' a=some (.lst [])):SB P w K mg af RG CF CB CT zt X kf kl mem wo [] [] H':=by
 have ha:=S.ca.2 a hc;have k1:∀b o,H b=some o->(∀y,o≠ .lst y)->H' b=some o:=fun b o e n=>u b o (fun y=>by rw[y,ha]at e;exact n _ (Option.some.inj e).symm) e
 refine S.mv [a] (fun b o e n _=>k1 b o e n) (fun b ys n e=>u b _ (fun y=>n (by rw[y];exact List.mem_singleton.mpr rfl)) e) (fun b hb=> ?_) (fun b hb=> ?_) (fun b hb=> ?_) (fun b hb=> ?_) (fun b hb=> ?_) ⟨fun _=>rfl,fun b e=> ?_⟩ (fun h=> .nil) (nY S.tb fun b o _ _ n e=>k1 b o e n)
 ·by_cases e:b=a
  ·rw[e,h'];exact fun y=>by cases y
  ·cases e2:H b with
   |none=>exact absurd e2 (S.fx b hb)
   |some o=>rw[u b o e e2];exact fun y=>by cases y
 ·rw[List.mem_singleton.mp hb];exact O.cf a hc
 ·rw[List.mem_singleton.mp hb];exact fun tb htb=>⟨fun y=>(O.cc tb htb).1 (y▸hc),fun y=>(O.cc tb htb).2 (y▸hc)⟩
 ·rw[List.mem_singleton.mp hb];exact fun t c ys B g h e=>O.cl t c ys B a g h e hc
 ·rw[List.mem_singleton.mp hb];exact fun t c R hR hm=>(O.ft t c R hR).2 a hm hc
 ·rw[hc]at e
  cases e;exact h'
end
section
theorem SB.dictT{X:SX}(S:SB P w K mg af RG CF CB CT zt X kf kl mem wo cs ns H){kv:List (Ky×V)}(hla:H la=some (.dT kv))(hla':H' la≠none)(u:bC la H H')(n1:la≠X.fd)(n2:la≠X.lk)(hn:∀y:aQ,aE kv (cK y)=none)(hl:∀x,X.Vc x->X.gv x.1 x.2.1=none->(X.tree x).looks X.val≠ []):SB P w K mg af RG CF CB CT zt X kf kl mem wo cs ns H':=by
 have k0:∀{b:Addr} {o:HO},H b=some o->(∀y,o≠ .dT y)->H' b=some o:=fun e n=>u _ _ (fun y=>by rw[y,hla]at e;exact n _ (Option.some.inj e).symm) e
 have kt:eI H H':=fun x o hx e=>k0 e (fun y z=>by obtain⟨xs,rfl|⟨q,rfl⟩⟩:=hx<;>cases z)
 have kd:∀{b:Addr} {y:List (aB×V)},H b=some (.dK y)->H' b=some (.dK y):=fun e=>k0 e (fun _ z=>by cases z)
 have ki:∀{b C dx:Addr} {fs:List (Str×V)},H b=some (.ins C dx fs)->H' b=some (.ins C dx fs):=fun e=>k0 e (fun _ z=>by cases z)
 have kL:∀{b:Addr} {ys:List V},H b=some (.lst ys)->H' b=some (.lst ys):=fun e=>k0 e (fun _ z=>by cases z)
 have klf:∀b ys,b∉X.fx->H b=some (.lst ys)->H' b=some (.lst ys):=fun b ys _ e=>kL e
 have kft:∀t c R,X.rl t c=some R->∀b∈R.ft,∀o,H b=some o->H' b=some o:=fun t c R hR b hb o e=>by
  obtain⟨o',e',m1,_,_,_⟩:=S.rt t c R hR b hb;rw[e]at e';cases e';exact k0 e m1
 refine⟨fun tb htb=> ?_,u _ _ n1.symm S.fd,S.ko,S.fo,fun x v a b c=>⟨(S.fp x v a b c).1.keep kt,(S.fp x v a b c).2⟩,fun x v a b c=> ?_,S.ln,S.cz,u _ _ n2.symm S.hl,S.lo,fun t c ys B g h=> ?_,fun t c ys p v a b=>(S.cd t c ys p v a b).keep kt,fun t c R hR=> ?_,fun t c R hR=>⟨kd (S.rm t c R hR).1,(S.rm t c R hR).2⟩,fun t c R hR b hb=> ?_,fun t c R hR p hp=>(S.ra t c R hR p hp).mv (kft t c R hR),fun x R a b=>⟨(S.me x R a b).1.mv rfl kt.t klf,fun is v e=>((S.me x R a b).2 is v e).keep kt⟩,fun t c R j a b=>⟨(S.ab t c R j a b).1.mv rfl kt.t klf,fun is v e=>((S.ab t c R j a b).2 is v e).keep kt⟩,⟨S.ca.1,fun a e=>kL (S.ca.2 a e)⟩,fun h=>Paired.imp (fun a b h=>h.mv kt.t klf) (S.nt h),fun b hb y=> ?_,nY S.tb (fun b o m1 _ _ e=>k0 e m1)⟩
 ·obtain⟨d0,e1⟩:=(S.F tb htb).fin
  obtain⟨kb,e2,e3⟩:=(S.F tb htb).bds;obtain⟨⟨d1',b1⟩,⟨⟨d2',b2⟩,b3,b4⟩,b5,b6,b7⟩:=(S.F tb htb).B;exact⟨⟨d0,ki e1⟩,⟨kb,kd e2,e3⟩,⟨⟨d1',ki b1⟩,⟨⟨d2',ki b2⟩,kL b3,kd b4⟩,kd b5,kd b6,kL b7⟩,u _ _ n1.symm (S.F tb htb).fnd,(S.F tb htb).len⟩
 ·obtain⟨tl,kt',h1,h2,h3⟩:=S.lp x v a b c
  refine⟨tl,kt',h1,u _ _ (fun y=> ?_) h2,h3⟩;rw[y,hla]at h2;cases h2
  cases e:(X.tree x).looks X.val with
  |nil=>exact hl x a b e
  |cons z r=>
   have:=(h3.2.2.2 z).mpr (by rw[e];exact aa);rw[hn z]at this;cases this
 ·obtain⟨l,h1,h2⟩:=S.cols t c ys B g h
  exact⟨l,h1,kL h2⟩
 ·obtain⟨⟨dx,e⟩,h1⟩:=S.rg t c R hR
  exact⟨⟨dx,ki e⟩,h1⟩
 ·obtain⟨o,e,m1,m2,m3,m4⟩:=S.rt t c R hR b hb
  exact⟨o,kft t c R hR b hb o e,m1,m2,m3,m4⟩
 ·by_cases z:b=la
  ·rw[z]at y;exact hla' y
  ·cases e:H b with
   |none=>exact S.fx b hb e
   |some o=>rw[u _ _ z e]at y;cases y
end
section
def mH(P:Program)(w:World)(K:Fg)(mg:Str->Option Value)(af:Heap)(CG CM:Addr):Addr->Sp->Prop:=fun C sp=>(C=CG/\sp=qB P w K mg af C)\/ (C=CM/\sp=tM P w K mg af C)
structure fB(P:Program)(w:World)(K:Fg)(mg:Str->Option Value)(af:Heap)(CS CF CB CT CG CM zt:Addr)(W:cN)(fi fd lk:Addr)(ys:List V)(ds:List PyData)(kf kl:List (Ky×V))(mem:Str->Str->List (aB×V))(wo:aQ->Option (List Int×V))(cs:List V)(ns:List (Option V×List Int))(csh:List V)(kvs:List (List aB×V))(wl:gF)(H:Hp):Prop where
 sb:SB P w K mg af (mH P w K mg af CG CM) CF CB CT zt (bN P w K mg af CG CM W fi fd lk ys ds).sx kf kl mem wo cs ns H
 sh:∃dx,H W.s=some (.ins CS dx (dZ W.bd W.ch fi))
 ch:H W.ch=some (.lst csh)
 fl:fd≠lk
 ly:ys.length=W.m
 ld:ds.length=W.m
 py:cQ K H ys ds
 sd:∀d∈ds,dW d
 zs:∃zs,H W.vl=some (.lst zs)/\cQ K H zs ds
 la:H W.la=some (.dT kvs)
 lo:sO W.fx H kvs wl
 lq:∀y:aQ,aE kvs (cK y)=none
 nf:W.la≠fd/\W.la≠lk
variable{W:cN}
theorem fB.ok(N:fB P w K mg af CS CF CB CT CG CM zt W fi fd lk ys ds kf kl mem wo cs ns csh kvs wl H)(O:fU W):iT (bN P w K mg af CG CM W fi fd lk ys ds).sx:=a5D (a9u O N.fl N.ly N.ld N.sd)
theorem fB.colA(N:fB P w K mg af CS CF CB CT CG CM zt W fi fd lk ys ds kf kl mem wo cs ns csh kvs wl H)(O:fU W):H W.lA=some (.lst ys):=by
 obtain⟨l,h1,h2⟩:=N.sb.cols "t" "a" ys W.B (by show(if("t":Str)= "t" then(if("a":Str)= "a" then some ys else none) else none)=some ys;rw[if_pos rfl,if_pos rfl]) (List.mem_singleton.mpr rfl);rw[O.k1]at h1;cases h1;exact h2
theorem a2l{X:X1}{t:Str}{B:BM}(h:(t,B)∈X.sx.tabs):t=X.nm/\B=X.B:=Prod.mk.inj (List.mem_singleton.mp h)
theorem mF{t:Str}{R:RD}(h:(bN P w K mg af CG CM W fi fd lk ys ds).sx.rl t c=some R):t= "t" /\∃k,k<4/\c=cn (k+ 1)/\R=eQ P w K mg af CG CM W k:=by
 obtain⟨h1,h2⟩:=X1.rl_some (Y:=bN P w K mg af CG CM W fi fd lk ys ds) h;exact⟨h1,jT h2⟩
theorem fB.same(N:fB P w K mg af CS CF CB CT CG CM zt W fi fd lk ys ds kf kl mem wo cs ns csh kvs wl H)(s:aF H H'):fB P w K mg af CS CF CB CT CG CM zt W fi fd lk ys ds kf kl mem wo cs ns csh kvs wl H':=
 ⟨N.sb.same s,N.sh.imp fun _ e=>s _ _ e,s _ _ N.ch,N.fl,N.ly,N.ld,N.py.keep (bQ.of s),N.sd,N.zs.imp fun _ e=>⟨s _ _ e.1,e.2.keep (bQ.of s)⟩,s _ _ N.la,N.lo.mv fun b ys n e=>⟨s _ _ e,n⟩,N.lq,N.nf⟩
theorem a6q(O:fU W)(hG:∀d∈ds,dW d)(ld:ds.length=W.m){x:aQ}(hV:(bN P w K mg af CG CM W fi fd lk ys ds).sx.Vc x)(g:(bN P w K mg af CG CM W fi fd lk ys ds).sx.gv x.1 x.2.1=none):((bN P w K mg af CG CM W fi fd lk ys ds).sx.tree x).looks (bN P w K mg af CG CM W fi fd lk ys ds).sx.val≠ []:=by
 obtain⟨t,c,p⟩:=x;obtain⟨rfl,hc,hp⟩:=hV;have hc:c∈W.B.ord:=hc;rw[O.od,List.mem_map]at hc;obtain⟨k,hk,rfl⟩:=hc;have hk:=List.mem_range.mp hk
 cases k with
 |zero=>
  have g:(if("t":Str)= "t" then(if("a":Str)= "a" then some ys else none) else none)=none:=g;rw[if_pos rfl,if_pos rfl]at g;cases g
 |succ k=>
  have e:=(qH (P:=P) (w:=w) (K:=K) (mg:=mg) (af:=af) (CG:=CG) (CM:=CM) (fi:=fi) (fd:=fd) (lk:=lk) (ys:=ys) O hG ld (k:=k) (by omega) hp).2;intro y;rw[show (((bN P w K mg af CG CM W fi fd lk ys ds).nm,cn (k+ 1),p):aQ)=ce k p from rfl,e]at y;have y:=List.map_eq_nil_iff.mp y
  rcases iE (show k<4 by omega)with rfl|rfl|rfl|rfl
  ·cases y
  ·have y:(if isT (ds.getD p .none) then ["a"] else ["a","b"]:List Str)= []:=y
   split at y<;>cases y
  ·cases y
  ·cases y
theorem fB.clear(N:fB P w K mg af CS CF CB CT CG CM zt W fi fd lk ys ds kf kl mem wo cs ns csh kvs wl H)(O:fU W)(u:bC W.ca H H')(h':H' W.ca=some (.lst [])):fB P w K mg af CS CF CB CT CG CM zt W fi fd lk ys ds kf kl mem wo [] [] csh kvs wl H':=by
 have hca:=N.sb.ca.2 W.ca rfl;have nd:=O.nd;unfold cN.fx at nd;simp only[List.nodup_cons,List.mem_cons,List.not_mem_nil,or_false,not_or]at nd;obtain⟨⟨_,_,_,a4,_⟩,_,_,_,e1,_⟩:=nd;have k1:∀{b:Addr} {o:HO},H b=some o->(∀y,o≠ .lst y)->H' b=some o:=fun e n=>u _ _ (fun y=>by rw[y,hca]at e;exact n _ (Option.some.inj e).symm) e
 have kt:bQ H H':=fun b xs e=>k1 e nk
 have caf:W.ca∈W.fx:=by unfold cN.fx;simp
 exact⟨N.sb.clear (N.ok O) rfl u h',N.sh.imp fun _ e=>k1 e nk,u _ _ a4 N.ch,N.fl,N.ly,N.ld,N.py.keep kt,N.sd,N.zs.imp fun _ e=>⟨u _ _ (fun y=>e1 y.symm) e.1,e.2.keep kt⟩,k1 N.la nk,N.lo.mv fun b ys n e=>⟨u _ _ (fun y=>n (y▸caf)) e,n⟩,N.lq,N.nf⟩
theorem fB.own(N:fB P w K mg af CS CF CB CT CG CM zt W fi fd lk ys ds kf kl mem wo cs ns csh kvs wl H)(O:fU W)(N0:fB P w K mg af CS CF CB CT CG CM zt W fi fd lk ys ds kf kl mem wo cs ns csh kvs wl H0)(hdu0:H0 du=none)(s0:aF H0 H){dv0:List V}(hdu:H du=some (.lst dv0)){kvs':List (List aB×V)}{wl':gF}{nb:Nat}(k:fV W.la du H H')(C:jH (du::W.fx) W.la du kvs' wl' dv ms nb H'):fB P w K mg af CS CF CB CT CG CM zt W fi fd lk ys ds kf kl mem wo cs ns csh kvs' wl' H':=by
 have nld:W.la≠du:=fun y=>by have:=N.la;rw[y,hdu]at this;cases this
 let H1:Hp:=upd H W.la (.dT kvs')
 have a1:H1 W.la=some (.dT kvs'):=aI;have u1:bC W.la H H1:=bC.upd;have du1:H1 du=some (.lst dv0):=u1 _ _ nld.symm hdu;have u2:bC du H1 H':=fun b o n e=>by
  by_cases y:b=W.la
  ·rw[y,a1]at e
   cases e;rw[y];exact C.a
  ·exact k b o y n (by rw[show H1=upd H W.la (.dT kvs') from rfl,aH y]at e;exact e)
 have S0:=N0.sb.fxup hdu0 s0 (by rw[hdu];exact fun y=>by cases y);have S1:=S0.dictT N.la (by rw[a1];exact fun y=>by cases y) u1 N.nf.1 N.nf.2 N.lq (fun x hV g=>a6q O N.sd N.ld hV g);obtain⟨p1,p2,p3,p4⟩:=N0.sb.apart hdu0;have S2:=S1.own (H0:=H1) du1 u2 (by rw[C.d];exact fun y=>by cases y) p1 p2 p3 p4;have kx:∀{b:Addr} {o:HO},H0 b=some o->b≠W.la->H' b=some o:=fun{b o} e n=>k _ _ n (fun y=>by rw[y,hdu0]at e;cases e) (s0 _ _ e)
 have kt:bQ H0 H':=fun b xs e=>kx e (fun y=>by rw[y,N0.la]at e;cases e)
 refine⟨S2.fxdown,N0.sh.imp fun _ e=>kx e (fun y=>by rw[y,N0.la]at e;cases e),kx N0.ch (fun y=>by have:=N0.ch;rw[y,N0.la]at this;cases this),N.fl,N.ly,N.ld,N0.py.keep kt,N.sd,N0.zs.imp fun _ e=>⟨kx e.1 (fun y=>by rw[y,N0.la]at e;cases e.1),e.2.keep kt⟩,C.a,C.l.mv fun b ys n e=>⟨e,fun y=>n (List.mem_cons_of_mem _ y)⟩,C.k,N.nf⟩
theorem fB.cell{k:Nat}{kl':List (Ky×V)}{mem':Str->Str->List (aB×V)}{L:List aQ}{wl0:gF}(N:fB P w K mg af CS CF CB CT CG CM zt W fi fd lk ys ds kf kl mem wo cs ns csh kvs wl H)(O:fU W)(hk:k<4)(hp:p<W.m)(ewl:wl=((eN W.me (ds.getD p .none) (cn (k+ 1))).foldl (gB p) (fK wo,[])).1)(S':SB P w K mg af (mH P w K mg af CG CM) CF CB CT zt (bN P w K mg af CG CM W fi fd lk ys ds).sx kf' kl' mem' wo' cs' ns' H')(f:dP (bN P w K mg af CG CM W fi fd lk ys ds).sx zt H H')(fnd:(aE kf' (cK (ce k p))).isSome=true)(ve:pC (bN P w K mg af CG CM W fi fd lk ys ds).sx [ce k p] kf kf' wo wo' ns ns' L):
 (∃calls:cS,ns'=ns++ calls.map mT/\calls.Perm ((eN W.me (ds.getD p .none) (cn (k+ 1))).foldl (gB p) (fK wo,[])).2)/\fB P w K mg af CS CF CB CT CG CM zt W fi fd lk ys ds kf' kl' mem' wo' cs' ns' csh kvs (fK wo') H':=by
 obtain⟨h1,h2⟩:=vo30 O N.sd N.ld hk hp N.sb S' fnd ve;have nd:=O.nd;unfold cN.fx at nd;simp only[List.nodup_cons,List.mem_cons,List.not_mem_nil,or_false,not_or]at nd;obtain⟨⟨_,_,_,a4,_⟩,_,_,_,e1,_⟩:=nd
 have caf:W.ca∈W.fx:=by unfold cN.fx;simp
 have hca:=N.sb.ca.2 W.ca rfl;have k:∀{b:Addr} {o:HO},H b=some o->(∀y,o≠ .dT y)->(∀y,o≠ .dK y)->(∀y,o≠ .ext y)->b≠W.ca->H' b=some o:=fun e n1 n2 n3 n4=>N.sb.k f e n1 n2 n3 (fun y=>n4 (Option.some.inj y).symm)
 have nl:∀{b:Addr} {o:HO},H b=some o->(∀y,o≠ .lst y)->b≠W.ca:=fun e n y=>by rw[y,hca]at e;exact n _ (Option.some.inj e).symm
 have kl1:∀{b:Addr} {zs:List V},H b=some (.lst zs)->b≠W.ca->H' b=some (.lst zs):=fun e n=>k e nk nk nk n
 have kt:bQ H H':=fun b xs e=>k e nk nk nk (nl e nk)
 have la':H' W.la=some (.dT kvs):=by
  refine f _ _ N.nf.1 N.nf.2 (fun y=> ?_) (fun y=> ?_) (fun t c R hR y=> ?_) N.la
  ·obtain⟨S0,t0,_⟩:=N.sb.tb
   have:=N.la;rw[y,t0]at this;cases this
  ·have:=nl N.la nk
   exact this (Option.some.inj y).symm
  ·have:=(N.sb.rm t c R hR).1
   rw[<- y,N.la]at this;cases this
 refine⟨h1,S',N.sh.imp fun _ e=>k e nk nk nk (nl e nk),kl1 N.ch a4,N.fl,N.ly,N.ld,N.py.keep kt,N.sd,N.zs.imp fun _ e=>⟨kl1 e.1 (fun y=>e1 y.symm),e.2.keep kt⟩,la',?_,N.lq,N.nf⟩
 have ew:fK wo'=wl:=by
  rw[ewl];funext c q;exact h2 c q
 rw[ew];exact N.lo.mv fun b ys n e=>⟨kl1 e (fun y=>n (y▸caf)),n⟩
end
theorem cQ.set{K:Fg}{H:Hp}{v:V}{d:PyData}(h:Pv K H v d):∀{vs:List V} {ds:List PyData} {i:Nat},cQ K H vs ds->cQ K H (vs.set i v) (ds.set i d)
 |_,_,_,.nil=> .nil
 |_,_,0,.cons _ t=> .cons h t
 |_,_,i+ 1,.cons h' t=> .cons h' (cQ.set h t)
theorem uI{v:V}(h:cL xs (p:Int)=some v):xs[p]?=some v:=by
 by_cases hp:p<xs.length
 ·have e:=rF (i:=p) (List.getElem?_eq_getElem hp)
  rw[h]at e;rw[List.getElem?_eq_getElem hp,Option.some.inj e]
 ·exfalso
  unfold cL at h
  cases e:iQ xs.length (p:Int)with
  |none=>rw[e]at h;cases h
  |some j=>
   rw[e]at h;have hj:j<xs.length:=(List.getElem?_eq_some_iff.mp h).1;unfold iQ at e;split at e<;>simp at e<;>omega
section
variable{W:cN}
theorem a7E(N:fB P w K mg af CS CF CB CT CG CM zt W fi fd lk ys ds kf kl mem wo cs ns csh kvs wl H)(O:fU W)(hzs:H W.vl=some (.lst zs)){v:V}(hv:Pv K H v d)(hsm:dW d)(u:bC W.vl H H1)(h1:H1 W.vl=some (.lst (zs.set p v))):(∃dx,H1 W.s=some (.ins CS dx (dZ W.bd W.ch fi)))/\H1 W.ch=some (.lst csh)/\(∃kb,H1 W.bd=some (.dK kb)/\aE kb (.inr "t":aB)=some (.ref W.B.b))/\cO CB CT H1 W.B/\H1 W.lA=some (.lst ys)/\Pv K H1 v d/\
 ∀H2 fi' fd' lk' c kb,oR CS CF W.s W.bd W.ch fi' fd' lk' (csh++ [.ref c]) kb H1 H2->aE kb (.inr "t":aB)=some (.ref W.B.b)->cO CB CT H2 W.B->H2 W.lA=some (.lst (ys.set p v))->(∀x o,x≠W.s->x≠W.ch->x≠W.lA->H1 x=some o->H2 x=some o)->
  fB P w K mg af CS CF CB CT CG CM zt W fi' fd' lk' (ys.set p v) (ds.set p d) [] [] mem wo cs ns (csh++ [.ref c]) kvs wl H2:=by
 have nd:=O.nd;have fxe:∀x,x∈W.fx↔x=W.ch\/ x=W.B.r\/ x=W.B.od\/ x=W.lA\/ x=W.ca\/ x=W.vl:=fun x=>by unfold cN.fx;simp only[List.mem_cons,List.not_mem_nil,or_false]
 unfold cN.fx at nd;simp only[List.nodup_cons,List.mem_cons,List.not_mem_nil,or_false,not_or]at nd;obtain⟨⟨a1,a2,a3,a4,a5⟩,⟨b1,b2,b3,b4⟩,⟨c1,c2,c3⟩,⟨d1,d2⟩,e1,_⟩:=nd;have k1:∀{b:Addr} {o:HO},H b=some o->(∀y,o≠ .lst y)->H1 b=some o:=fun e n=>u _ _ (fun y=>by rw[y,hzs]at e;exact n _ (Option.some.inj e).symm) e
 have hF:=N.sb.F _ (List.mem_singleton.mpr rfl)
 have hB:cO CB CT H1 W.B:=by
  obtain⟨⟨q1,t1⟩,⟨⟨q2,t2⟩,t3,t4⟩,t5,t6,t7⟩:=hF.B;exact⟨⟨q1,k1 t1 nk⟩,⟨⟨q2,k1 t2 nk⟩,u _ _ b4 t3,k1 t4 nk⟩,k1 t5 nk,k1 t6 nk,u _ _ c3 t7⟩
 obtain⟨kb0,kb1,kb2⟩:=hF.bds;have hA:=N.colA O;have kt1:bQ H H1:=fun b xs e=>k1 e nk
 refine⟨N.sh.imp fun _ e=>k1 e nk,u _ _ a5 N.ch,⟨kb0,k1 kb1 nk,kb2⟩,hB,u _ _ d2 hA,hv.keep kt1,fun H2 fi' fd' lk' c kb Fr kbv B2 l2 u2=> ?_⟩;obtain⟨⟨dS',s2⟩,ch2,bd2,⟨df,fi2⟩,fd2,lk2,fl2,nfi,nfd,nlk⟩:=Fr;have k2:∀{b:Addr} {o:HO},H b=some o->b∉ [W.vl,W.s,W.ch,W.lA] ->H2 b=some o:=fun{b o} e n=>by
  simp only[List.mem_cons,List.not_mem_nil,or_false,not_or]at n;exact u2 b o n.2.1 n.2.2.1 n.2.2.2 (u b o n.1 e)
 obtain⟨dS,sS⟩:=N.sh;have kn:∀{b:Addr} {o:HO},H b=some o->(∀y,o≠ .lst y)->(∀a b c,o≠ .ins a b c)->H2 b=some o:=fun{b o} e n1 n2=>k2 e (fun hm=>by
  simp only[List.mem_cons,List.not_mem_nil,or_false]at hm
  rcases hm with y|y|y|y<;>subst y
  ·rw[hzs]at e;exact n1 _ (Option.some.inj e).symm
  ·rw[sS]at e;exact n2 _ _ _ (Option.some.inj e).symm
  ·rw[N.ch]at e;exact n1 _ (Option.some.inj e).symm
  ·rw[hA]at e;exact n1 _ (Option.some.inj e).symm)
 have ns':∀{b:Addr} {zs:List V},H b=some (.lst zs)->b≠W.s:=fun e y=>by rw[y,sS]at e;cases e
 have kl2:∀{b:Addr} {zs:List V},H b=some (.lst zs)->b≠W.vl->b≠W.ch->b≠W.lA->H2 b=some (.lst zs):=fun e n1 n2 n3=>k2 e (by simp only[List.mem_cons,List.not_mem_nil,or_false,not_or];exact⟨n1,ns' e,n2,n3⟩)
 have kt2:bQ H H2:=fun b xs e=>kn e nk (fun _ _ _ y=>by cases y)
 have hv2:=hv.keep kt2;have py2:cQ K H2 (ys.set p v) (ds.set p d):=cQ.set hv2 (N.py.keep kt2);have vl2:H2 W.vl=some (.lst (zs.set p v)):=u2 _ _ (ns' hzs) (fun y=>a5 y.symm) (fun y=>d2 y.symm) h1;have vin:W.vl∈W.fx/\W.ch∈W.fx/\W.lA∈W.fx:=⟨(fxe _).mpr (by simp),(fxe _).mpr (by simp),(fxe _).mpr (by simp)⟩;have ftn:∀k,k<4->∀b,b=W.gr k\/ b=W.nl k->b∉ [W.vl,W.s,W.ch,W.lA]:=fun k hk b hb=>by
  have gx:=O.gx k hk;have gs:=O.gs k hk;simp only[List.mem_cons,List.not_mem_nil,or_false,not_or]
  rcases hb with rfl|rfl
  ·exact⟨fun y=>gx.1 (y▸vin.1),gs.1,fun y=>gx.1 (y▸vin.2.1),fun y=>gx.1 (y▸vin.2.2)⟩
  ·exact⟨fun y=>gx.2 (y▸vin.1),gs.2,fun y=>gx.2 (y▸vin.2.1),fun y=>gx.2 (y▸vin.2.2)⟩
 have S2:SB P w K mg af (mH P w K mg af CG CM) CF CB CT zt (bN P w K mg af CG CM W fi' fd' lk' (ys.set p v) (ds.set p d)).sx [] [] mem wo cs ns H2:=by
  refine SB.new N.sb [W.vl,W.s,W.ch,W.lA] (fun b hb=> ?_) (fun b o n e=>k2 e n) rfl rfl rfl (Nat.le_refl _) (fun t c R hR b hb=> ?_) (fun t c R hR=> ?_) (fun a e=> ?_) (fun b hb y=> ?_) (fun tb htb=> ?_) fd2 lk2 (fun t c ys' B g h=> ?_) (fun t c ys' q x g e=> ?_) (fun t c R hR q hq=> ?_) (fun x R hx hR=> .inl ⟨x,hx,rfl,rfl,rfl,rfl⟩) (fun t c R j hR hj=>False.elim hj)
  ·simp only[List.mem_cons,List.not_mem_nil,or_false]at hb
   rcases hb with rfl|rfl|rfl|rfl
   ·exact .inr ⟨_,hzs,vin.1⟩
   ·exact .inl ⟨_,_,_,sS⟩
   ·exact .inr ⟨_,N.ch,vin.2.1⟩
   ·exact .inr ⟨_,hA,vin.2.2⟩
  ·obtain⟨_,k,hk,rfl,rfl⟩:=mF hR
   exact ftn k hk b ((fI k).2.2.2.2.2.2.2.1 b hb)
  ·obtain⟨_,k,hk,rfl,rfl⟩:=mF hR
   rw[(fI k).1];exact(fI k).2.2.2.2.2.2.1
  ·have e:some W.ca=some a:=e
   cases e;simp only[List.mem_cons,List.not_mem_nil,or_false,not_or];exact⟨e1,ns' (N.sb.ca.2 _ rfl),fun y=>a4 y.symm,fun y=>d1 y.symm⟩
  ·simp only[List.mem_cons,List.not_mem_nil,or_false]at hb
   rcases hb with rfl|rfl|rfl|rfl
   ·rw[vl2]at y;cases y
   ·rw[s2]at y;cases y
   ·rw[ch2]at y;cases y
   ·rw[l2]at y;cases y
  ·rw[List.mem_singleton.mp htb]
   exact⟨⟨df,fi2⟩,⟨kb,bd2,kbv⟩,B2,fd2,by decide⟩
  ·have g1:(bN P w K mg af CG CM W fi' fd' lk' (ys.set p v) (ds.set p d)).gv c=some ys':=(X1.gv_some (Y:=bN P w K mg af CG CM W fi' fd' lk' (ys.set p v) (ds.set p d)) g).2
   obtain⟨rfl,rfl⟩:=tZ g1;rw[(a2l h).2];exact⟨W.lA,O.k1,l2⟩
  ·have g1:(bN P w K mg af CG CM W fi' fd' lk' (ys.set p v) (ds.set p d)).gv c=some ys':=(X1.gv_some (Y:=bN P w K mg af CG CM W fi' fd' lk' (ys.set p v) (ds.set p d)) g).2
   obtain⟨rfl,rfl⟩:=tZ g1;show Pd K H2 x (fE W.me ((ds.set p d).getD q .none) "a");exact(xN py2 (uI e)).pd
  ·obtain⟨rfl,k,hk,rfl,rfl⟩:=mF hR
   refine lS.mv (fun b hb o e=>k2 e (ftn k hk b ((fI k).2.2.2.2.2.2.2.1 b hb))) (N.sb.ra "t" (cn (k+ 1)) _ (rl30 hk) q hq)
 have la2:H2 W.la=some (.dT kvs):=kn N.la nk (fun _ _ _ y=>by cases y);have la1:H1 W.la=some (.dT kvs):=k1 N.la nk;refine⟨S2,⟨dS',s2⟩,ch2,fl2,by rw[List.length_set];exact N.ly,by rw[List.length_set];exact N.ld,py2,fun x hx=> ?_,⟨_,vl2,?_⟩,la2,N.lo.mv fun b zs n e=>⟨kl2 e (fun y=>n (y▸vin.1)) (fun y=>n (y▸vin.2.1)) (fun y=>n (y▸vin.2.2)),n⟩,N.lq,⟨fun y=> ?_,fun y=> ?_⟩⟩
 ·rcases List.mem_or_eq_of_mem_set hx with h|h
  ·exact N.sd x h
  ·rw[h];exact hsm
 ·obtain⟨zs',h',pz⟩:=N.zs
  rw[hzs]at h';cases h';exact cQ.set hv2 (pz.keep kt2)
 ·rw[<- y,la1]at nfd;cases nfd
 ·rw[<- y,la1]at nlk;cases nlk
end
def MS(K:Fg)(H:Hp)(x:V)(m:Str×List Int):Prop:=∃t l,x= .ref t/\bR K H t [.str m.1,.ref l] /\aM K H l (m.2.map V.int)
noncomputable def kQ (m:Str×List Int):PyData:=.tuple [.str m.1,.list (m.2.map .int)]
theorem MS.same(s:aF H H'){x:V}{m:Str×List Int}(h:MS K H x m):MS K H' x m:=by
 obtain⟨t,l,e1,e2,e3⟩:=h;exact⟨t,l,e1,aF.seqT s e2,s.seq e3⟩
theorem a0P{K:Fg}{H:Hp}:∀{ys:List V} {ms:cS},Paired (MS K H) ys ms->dI K H ys (ms.map kQ)
 |_,_,.nil=> .nil
 |_,_,.cons ⟨t,l,e,h1,h2⟩ r=>by
  subst e;exact .cons (.tup h1 (.cons (.str _) (.cons (.lst h2 (mS _)) .nil))) (a0P r)
theorem a0Q{K:Fg}{H:Hp}:∀{ys:List V} {ms:cS},Paired (MS K H) ys ms->qU K H ys (ms.map (·.1))
 |_,_,.nil=> .nil
 |_,_,.cons ⟨t,l,e,h1,_⟩ r=> .cons ⟨t,.ref l,e,h1⟩ (a0Q r)
theorem a3u{K:Fg}{H:Hp}{fx:List Addr}:∀{cs:List V} {calls:cS},Paired (mM fx H) cs (calls.map mT)->Paired (MS K H) cs calls
 |_,[],.nil=> .nil
 |_,_::_,.cons ⟨lc,h1,_⟩ t=>by
  obtain⟨tp,e1,e2⟩:=h1.2.2 _ rfl;exact .cons ⟨tp,lc,e1,bR.of e2,aM.of h1.1⟩ (a3u t)
theorem a6x{fx:List Addr}(h:Paired (qV fx H) dv ms):Paired (MS K H) dv ms:=Paired.imp (fun a b ⟨t,l,e1,e2,e3,_⟩=>⟨t,l,e1,bR.of e2,aM.of e3⟩) h
def xD(l:cS):Prop:=l.Pairwise fun a b=>¬b.1.cps.toList<a.1.cps.toList
theorem a2b{p:Array Nat}(h:Paired (MS K H) cs ms)(hs:p.size=cs.length)(hp:p.Perm (List.toArray (List.range cs.length)))(sd:Sd (mB (ms.map (·.1))) p cs.length):∃ms':cS,ms'.Perm ms/\xD ms'/\Paired (MS K H) (p.toList.map fun i=>cs.getD i .non) ms':=by
 have hl:cs.length=ms.length:=Paired.length h;refine⟨p.toList.map fun i=>ms.getD i ("",[]),a8Q ms ("",[]) (by rw[<- hl];exact hp),?_,a3K ((("":Str),([]:List Int)):Str×List Int) h (is:=p.toList) fun i hi=>xK hp hi⟩;refine a9K ?_;refine List.Pairwise.imp_of_mem (fun{i j} hi hj e=> ?_) (a7g hs sd);unfold mB at e;rw[decide_eq_false_iff_not]at e;have g:∀i,i<ms.length->(ms.map (·.1)).getD i ("":Str)=(ms.getD i ((("":Str),([]:List Int)):Str×List Int)).1:=fun i hi=>by
  rw[List.getD_eq_getElem?_getD,List.getD_eq_getElem?_getD,List.getElem?_map,List.getElem?_eq_getElem hi];rfl
 rw[g i (by rw[<- hl];exact xK hp hi),g j (by rw[<- hl];exact xK hp hj)]at e;exact e
theorem b0g{a b:Str}(h:¬b.cps.toList<a.cps.toList)(n:a≠b):a.cps.toList<b.cps.toList:=Classical.byContradiction fun h2=>n (by
 have:=List.le_antisymm (List.not_lt.mp h) (List.not_lt.mp h2);obtain⟨⟨x⟩⟩:=a;obtain⟨⟨y⟩⟩:=b;cases this
 rfl)
theorem a1s{l:cS}(nd:(l.map (·.1)).Nodup)(h:xD l):l.Pairwise fun a b=>a.1.cps.toList<b.1.cps.toList:=
 (List.Pairwise.and h (List.pairwise_map.mp (List.nodup_iff_pairwise_ne.mp nd))).imp fun h=>b0g h.1 h.2
theorem b0d{l l' m m':cS}(nd:(l.map (·.1)).Nodup)(h1:l'.Perm l)(s1:xD l')(h2:m'.Perm m)(s2:xD m')(h:l.Perm m):l'=m':=by
 have nl:(l'.map (·.1)).Nodup:=(h1.map (·.1)).nodup_iff.mpr nd;have nm:(m'.map (·.1)).Nodup:=((h2.trans h.symm).map (·.1)).nodup_iff.mpr nd;exact a2F (r:=fun a b=>a.1.cps.toList<b.1.cps.toList) (fun a b x y=>absurd y (List.lt_asymm x)) ((h1.trans h).trans h2.symm) (a1s nl s1) (a1s nm s2)
theorem a4o:∀ns:List Int,PyData.eqvAll (ns.map .int) (ns.map .int)=true
 | []=>by simp[PyData.eqvAll]
 |n::r=>by simp[PyData.eqvAll,PyData.eqv,a4o r]
theorem a4F:∀ms:cS,PyData.eqvAll (ms.map kQ) (ms.map kQ)=true
 | []=>by simp[PyData.eqvAll]
 |m::r=>by
  rw[List.map_cons,PyData.eqvAll,a4F r,Bool.and_true];unfold kQ;simp[PyData.eqv,PyData.eqvAll,a4o]
theorem a1S:∀ms:cS,(∀m∈ms,Nl m.1)->PyData.canLayAll0 (ms.map kQ)=true
 | [],_=>rfl
 |m::r,h=>by
  have h1:=a1b [m.2];rw[List.map_cons,PyData.canLayAll0,a1S r fun x hx=>h x (List.mem_cons_of_mem _ hx),Bool.and_true];show PyData.canLayAll0 [.str m.1,.list (m.2.map .int)]=true;rw[PyData.canLayAll0,(h m aa).lay];exact h1
theorem a4Q:∀ms:cS,PyData.depthAll (ms.map kQ)<=2
 | []=>by decide
 |m::r=>by
  have h1:=a4Q r;have h2:=a2x m.2;show max (max 0 (max (PyData.depthAll (m.2.map .int)+ 1) 0)+ 1) (PyData.depthAll (r.map kQ))<=2;omega
theorem a1l{g:Nat->Option (Str×List Int)}(hg:∀j b,g j=some b->b.1=cn (j+ 1)):∀l:List Nat,(∀j∈l,j<4)->l.Nodup->((l.filterMap g).map (·.1)).Nodup/\∀m∈l.filterMap g,∃j∈l,m.1=cn (j+ 1)
 | [],_,_=>⟨List.nodup_nil,fun m hm=>by{cases hm}⟩
 |a::l,h4,nd=>by
  have nd':=List.nodup_cons.mp nd;obtain⟨i1,i2⟩:=a1l hg l (fun j hj=>h4 j (List.mem_cons_of_mem _ hj)) nd'.2
  cases e:g a with
  |none=>
   rw[List.filterMap_cons_none e];exact⟨i1,fun m hm=>(i2 m hm).imp fun j h=>⟨List.mem_cons_of_mem _ h.1,h.2⟩⟩
  |some b=>
   have eb:=hg a b e;rw[List.filterMap_cons_some e];refine⟨?_,fun m hm=> ?_⟩
   ·rw[List.map_cons,List.nodup_cons]
    refine⟨fun hm=> ?_,i1⟩;obtain⟨m,hm,em⟩:=List.mem_map.mp hm;obtain⟨j,hj,ej⟩:=i2 m hm;have:=mV (j:=j+ 1) (k:=a+ 1) (by have:=h4 j (List.mem_cons_of_mem _ hj);omega) (by have:=h4 a aa;omega) (ej.symm.trans (em.trans eb));exact nd'.1 (by rw[show a=j by omega];exact hj)
   ·rcases List.mem_cons.mp hm with rfl|hm
    ·exact⟨a,aa,eb⟩
    ·exact(i2 m hm).imp fun j h=>⟨List.mem_cons_of_mem _ h.1,h.2⟩
theorem a7a(hme:gD me){k:Nat}(hk:k<4)(p:Nat)(wl:gF):((((eN me d (cn (k+ 1))).foldl (gB p) (wl,[])).2).map (·.1)).Nodup/\(∀m∈((eN me d (cn (k+ 1))).foldl (gB p) (wl,[])).2,Nl m.1)/\((eN me d (cn (k+ 1))).foldl (gB p) (wl,[])).2.length<=4:=by
 obtain⟨dn,_,dk⟩:=sW (me:=me) (d:=d) hk;have d4:∀j∈gJ me d k,j<4:=fun j hj=>by have:=dk j hj;omega
 have f1:=(sR p (dJ me d) (gJ me d k) dn d4 wl []).1;rw[<- a2s hme hk]at f1;rw[f1,List.nil_append]
 obtain⟨s1,s2⟩:=a1l (g:=fun j=>(dJ me d j).bind fun is=>if wl (cn (j+ 1)) p=some is then none else some ((cn (j+ 1),is):Str×List Int)) (fun j b e=>by
  cases e2:dJ me d j with
  |none=>rw[e2]at e;cases e
  |some is=>
   rw[e2]at e;have e:(if wl (cn (j+ 1)) p=some is then none else some ((cn (j+ 1),is):Str×List Int))=some b:=e;split at e
   ·cases e
   ·cases e;rfl) _ d4 dn
 refine⟨s1,fun m hm=> ?_,?_⟩
 ·obtain⟨j,hj,e⟩:=s2 m hm
  rw[e];exact kY (by have:=d4 j hj;omega)
 ·refine Nat.le_trans (List.length_filterMap_le _ _) ?_
  have:(gJ me d k).length<=(List.range 4).length:=tO dn fun j hj=>List.mem_range.mpr (d4 j hj)
  simpa using this
abbrev Nlaw:List Str:=["_law_script","_law_values","_law_mended","_law_calls","_law_sheet","_law_last","_law_k","_law_place","_law_due","_law_column","_law_value_here","_law_found"]
theorem jS:aY Nlaw ["_law_script"] (aL lR):={}
noncomputable def forB:Stmt->List Stmt
 | .For _ _ b _ _=>b
 |_=> []
abbrev a8a:Stmt:=(eZ lR).getD 6 (.Pass ⟨0,0,0,0⟩)
theorem Vd.eqv(h:Vd d):PyData.eqv d d=true:=by
 rcases h with⟨i,rfl,_⟩|⟨z,rfl,_⟩<;>simp[PyData.eqv,PyData.eqvAll]
theorem Vd.nb(h:Vd d):decide (gX d= .bl)=false:=by
 rcases h with⟨i,rfl,_⟩|⟨z,rfl,_⟩<;>rfl
theorem a9T(u:Nat)(h:u<6):∃ch k,cL ("bcmnnm":Str).cps.toList (u:Int)=some ch/\(⟨#[ch]⟩:Str)=cn (k+ 1)/\k<4:=by
 rcases(show u=0\/ u=1\/ u=2\/ u=3\/ u=4\/ u=5 by omega)with rfl|rfl|rfl|rfl|rfl|rfl
 ·exact⟨_,0,rfl,rfl,by decide⟩
 ·exact⟨_,1,rfl,rfl,by decide⟩
 ·exact⟨_,2,rfl,rfl,by decide⟩
 ·exact⟨_,3,rfl,rfl,by decide⟩
 ·exact⟨_,3,rfl,rfl,by decide⟩
 ·exact⟨_,2,rfl,rfl,by decide⟩
theorem a17{k:Nat}(h:k<4):Co30 (cn (k+ 1))/\kH (cn (k+ 1))<4:=by
 rcases iE h with rfl|rfl|rfl|rfl
 ·exact⟨.inl (.inr (.inl rfl)),by decide+kernel⟩
 ·exact⟨.inl (.inr (.inr rfl)),by decide+kernel⟩
 ·exact⟨.inr (.inl rfl),by decide+kernel⟩
 ·exact⟨.inr (.inr rfl),by decide+kernel⟩
section
abbrev uX(P:Program)(w:World)(K:Fg)(mg:Str->Option Value)(af:Heap)(f:Addr)(ah:Value)(A:Around)(ag:List Env)(s:Shared)(H:Hp)(E:XK):Cx:=(dF aD P w K mg af Nlaw "law" (aL lR) f ah A ag s H E).nox
def yJ(Hz:Hp)(W:cN)(zt:Addr):Prop:=∀b o,Hz b=some o->b∉zt::W.s::W.fx/\(∀k,k<4->b≠W.mc k)/\∀y,o≠ .dT y
def lX(W:cN)(zt:Addr)(H H':Hp):Prop:=∀b o,b∉zt::W.s::W.fx->(∀k,k<4->b≠W.mc k)->(∀y,o≠ .dT y)->H b=some o->H' b=some o
theorem lX.z{W:cN}{Hz:Hp}(Z:yJ Hz W zt)(s:aF Hz H)(f:lX W zt H H'):aF Hz H':=fun b o e=>f b o (Z b o e).1 (Z b o e).2.1 (Z b o e).2.2 (s b o e)
theorem lX.but{W:cN}{x:Addr}(hx:x∈W.fx)(u:bC x H H'):lX W zt H H':=fun b o n _ _ e=>u b o (fun y=>n (by rw[y];exact List.mem_cons_of_mem _ (List.mem_cons_of_mem _ hx))) e
variable{W:cN}
theorem dP.fr30(S:SB P w K mg af RG CF CB CT zt (bN P w K mg af CG CM W fi fd lk ys ds).sx kf kl mem wo cs ns H)(f:dP (bN P w K mg af CG CM W fi fd lk ys ds).sx zt H H'):lX W zt H H':=fun b o n1 n3 n2 e=>by
 simp only[List.mem_cons,not_or]at n1;refine f b o (fun y=>by rw[y,S.fd]at e;exact n2 _ (Option.some.inj e).symm) (fun y=>by rw[y,S.hl]at e;exact n2 _ (Option.some.inj e).symm) n1.1 (fun y=>n1.2.2 ?_) (fun t c R hR y=> ?_) e
 ·rw[<- Option.some.inj y]
  unfold cN.fx;simp
 ·obtain⟨_,k,hk,rfl,rfl⟩:=mF hR
  rw[(fI k).2.2.1]at y;exact n3 k hk y
def mI(P:Program)(w:World)(K:Fg)(mg:Str->Option Value)(af:Heap)(W:cN)(H:Hp):Prop:=∀k,k<4->nK P w K mg af 4 H (W.fa k) (some W.ca) (some (.str (cn (k+ 1)))) (gK k) (kM k)
theorem a5h(h:mI P w K mg af W H):mW P w K mg af (bN P w K mg af CG CM W fi fd lk ys ds).sx H:=fun t c R hR=>by
 obtain⟨_,k,hk,rfl,rfl⟩:=mF hR;obtain⟨_,e2,_,e4,e5,e6,_⟩:=fI (P:=P) (w:=w) (K:=K) (mg:=mg) (af:=af) (CG:=CG) (CM:=CM) (W:=W) k;rw[e2,e4,e5,e6];exact h k hk
theorem mI.keep(k:cD H H')(h:mI P w K mg af W H):mI P w K mg af W H':=fun j hj=>(h j hj).keep k
theorem rs30(O:fU W):(bN P w K mg af CG CM W fi fd lk ys ds).sx.Rs.length<=20:=by
 have m5:=O.m5;show(((List.range 4).map fun k=>cn (k+ 1)).flatMap fun c=>(List.range W.m).map fun p=>((("t":Str),c,p):aQ)).length<=20;rw[a0y (n:=W.m) (fun a=>by rw[List.length_map,List.length_range]),List.length_map,List.length_range];omega
inductive pW(P:Program)(w:World)(K:Fg)(mg:Str->Option Value)(af:Heap)(CS CF CB CT CG CM zt:Addr)(W:cN)(i:Nat)(H:Hp):Prop
 |mk (fw:mI P w K mg af W H) (fi fd lk:Addr) (ys:List V) (ds:List PyData) (kf kl:List (Ky×V)) (mem:Str->Str->List (aB×V)) (wo:aQ->Option (List Int×V)) (cs:List V) (ns:List (Option V×List Int)) (csh:List V) (kvs:List (List aB×V)) (N:fB P w K mg af CS CF CB CT CG CM zt W fi fd lk ys ds kf kl mem wo cs ns csh kvs (fK wo) H) (lc:csh.length<=20+ i) (lk:kvs.length<=4* i)
end
section
theorem mH.k(T:bA K mg)(Ce:kN K mg CG)(Me:kG K mg CM):∀C sp,mH P w K mg af CG CM C sp->cG K C/\aS P w K mg af aD 8 C "gather" ["self","look","many","table","column","place"] sp:=fun C sp h=>by
 rcases h with⟨rfl,rfl⟩|⟨rfl,rfl⟩
 ·exact⟨Ce.cl,a8d T Ce⟩
 ·exact⟨Me.cl,a46 T Me⟩
theorem a8k(T:bA K mg){CR:Addr}(Y:gR K mg CS)(R:mR K mg CR)(F:fO K mg CF)(Wb:cY K mg CB)(U:dQ K mg CT)(Ce:kN K mg CG)(Me:kG K mg CM)(B2:kO K mg "Finder" "gathered" "Finder.gathered" iI z2)(M2:jQ mg af z2.1 z2.2)(A:Around)(ag:List Env)(s:Shared)(H:Hp)(E:XK)(hr:bV 17 (A.deeper (PyProof.Rows.envOfC "law" (aL lR) s.heap.objs.size f ah))):
 ∃t,eV (uX P w K mg af f ah A ag s H E) ((forB a8a).drop 3) t/\
  ∀(D:kB) (W:cN) (O:fU W) (H2 Hz:Hp) (a:Addr) (sc:List Int) (i p:Nat) (fi fd lk:Addr) (ys:List V) (ds:List PyData) (kf kl:List (Ky×V)) (mem:Str->Str->List (aB×V)) (wo:aQ->Option (List Int×V)) (csh:List V) (kvs:List (List aB×V)) (o8 o9 o10 o11:Option V),i<8->p<W.m->yJ Hz W z2.2->aF Hz H2->mI P w K mg af W H2->fB P w K mg af CS CF CB CT CG CM z2.2 W fi fd lk ys ds kf kl mem wo [] [] csh kvs (fK wo) H2->csh.length<=21+ i->kvs.length<=4* i->aM K Hz a (sc.map V.int)->sc.length<=63->
   (∀H' o8 o9 o10 o11,aF Hz H'->pW P w K mg af CS CF CB CT CG CM z2.2 W (i+ 1) H'->D.nx [some (.ref a),some (.ref W.vl),some (.str W.me),some (.ref W.ca),some (.ref W.s),some (.ref W.la),some (.int (i:Int)),some (.int (p:Int)),o8,o9,o10,o11] H')->
   t D [some (.ref a),some (.ref W.vl),some (.str W.me),some (.ref W.ca),some (.ref W.s),some (.ref W.la),some (.int (i:Int)),some (.int (p:Int)),o8,o9,o10,o11] H2:=by
 have G_vo:aS P w K mg af aD 11 CF "value_of" ["self","cell"] (tU P w K mg af (mH P w K mg af CG CM) CF CB CT z2.2):=a8y T R F Wb U B2 M2 (mH.k T Ce Me);have G_cell:aS P w K mg af aD 12 CS "cell" ["self","table","column","place"] (wN CS CF CB CT (tU P w K mg af (mH P w K mg af CG CM) CF CB CT z2.2)):=a6Z T Y F Wb U (by decide) G_vo;have G_mixed:bD P w K mg af aD 1 "_law_mixed" ["_law_script","_law_k"] (rO K):=a0U T;have G_lc:bD P w K mg af aD 7 "_law_cell" wE (uR K 4):=a3i T 4
 refine⟨_,(aJ (cA (i:=8) jS.nd rfl ad (fC aG))
  (aJ (cA (i:=9) jS.nd rfl ad (cW a10 bT (bZ fR (bK G_mixed hr.mn aO (aA (pv 0) (aA (bZ kW bB (bZ oT bB (pv 6))) aG))) bB) (fun _ _=>rfl)))
  (aJ (cA (i:=10) jS.nd rfl ad (bK G_lc hr.mn aO (aA (fF (aA (pv 5) (aA (pv 8) aG))) (aA (pv 1) (aA (pv 2) (aA (pv 9) (aA (pv 7) aG)))))))
  (aJ (cA (i:=11) jS.nd rfl ad (cF (pv 4) Y.cl G_cell hr.mn aO (aA bT (aA (pv 9) (aA (pv 7) aG)))))
  (aK (bI (PW.pt (iN (cR (rL hr.units) (pv 11) (pv 10) (dA _)) (iN (dH (dC jZ rfl T.isinstance iM (aA (pv 11) (aA (iP T.bool a25) aG))) (fun _=>rfl)) (kE (cR (rL hr.units) (dC a22 rfl T.sorted a11 (aA (pv 3) aG)) (dC a22 rfl T.sorted a11 (aA (pv 8) aG)) (dA _)))))) (aK (bH oE)) bL)))))),?_⟩
 intro D W O H2 Hz a sc i p fi fd lk ys ds kf kl mem wo csh kvs o8 o9 o10 o11 hi hp Z old2 fw2 N2 lc lkv hS hl hD;refine⟨sl,fun du hdu=> ?_⟩;have s3:=aF.new (o:=.lst []) hdu;have d3:=aI (H:=H2) (a:=du) (o:=.lst [])
 generalize upd H2 du (.lst [])=H3 at s3 d3|-
 have old3:=old2.trans s3;refine⟨_,rfl,_,rfl,_,_,rfl,rfl,.inl ⟨by decide,by decide⟩,_,_,rfl,rfl,a,sc,_,rfl,old3.seq hS,hl,by omega,by omega,fun m3 h5 h6=>⟨_,_,rfl,rfl,(show(0:Int)<6 by decide),?_⟩⟩;have g1:=Int.emod_nonneg m3 (show(6:Int)≠0 by decide);have g2:=Int.emod_lt_of_pos m3 (show(0:Int)<6 by decide);obtain⟨u,hu'⟩:∃u:Nat,m3% 6=(u:Int):=⟨(m3% 6).toNat,by omega⟩;obtain⟨chh,k,hch,ech,hk⟩:=a9T u (by omega);refine⟨"bcmnnm",_,chh,rfl,rfl,by decide+kernel,by{rw[hu'];exact hch},?_⟩;rw[ech];refine⟨_,rfl,_,rfl,sl,fun wt hwt=> ?_⟩;have s4:=aF.new (o:=.tup [.ref W.la,.ref du]) hwt;have w4:=aI (H:=H3) (a:=wt) (o:=.tup [.ref W.la,.ref du])
 generalize upd H3 wt (.tup [.ref W.la,.ref du])=H4 at s4 w4|-
 have s24:=s3.trans s4;have N4:=N2.same s24;have d4:=s4 _ _ d3;have m5:=O.m5;obtain⟨zs,hvl,pz⟩:=N4.zs
 have lz:zs.length=W.m:=by rw[Paired.length pz,N2.ld]
 have hG:dW (ds.getD p .none):=by
  rw[List.getD_eq_getElem?_getD,List.getElem?_eq_getElem (by rw[N2.ld];exact hp)];exact N2.sd _ (List.getElem_mem _)
 have nvd:W.vl≠du:=fun y=>by
  obtain⟨zs2,e,_⟩:=N2.zs;rw[y,hdu]at e;cases e
 have C4:jH (du::W.fx) W.la du kvs (fK wo) [] [] (4* i) H4:=⟨N4.la,N2.lo.mv fun b zs n e=>⟨s24 _ _ e,fun y=>by
  rcases List.mem_cons.mp y with y|y
  ·rw[y,hdu]at e;cases e
  ·exact n y⟩,d4,.nil,⟨lkv,Nat.zero_le _⟩,⟨aa,fun b hb y=>by
   rcases List.mem_cons.mp hb with hb|hb
   ·rw[hb,d4]at y;cases y
   ·exact N4.sb.fx b hb y⟩,N4.lq⟩
 refine⟨_,rfl,_,rfl,_,rfl,_,rfl,du::W.fx,wt,W.la,du,W.vl,W.me,cn (k+ 1),p,zs,ds,kvs,fK wo,[],[],4* i,rfl,(a17 hk).2,O.mn,(a17 hk).1,w4,C4,by omega,hvl,nvd,pz,by omega,hG,fun H5 kvs5 dv5 v5 k5 C5 pv5=> ?_⟩;have N5:=N4.own O N2 hdu s24 d4 k5 C5;have nla:∀{b:Addr} {o:HO},H4 b=some o->(∀y,o≠ .dT y)->b≠W.la:=fun e n y=>by rw[y,N4.la]at e;exact n _ (Option.some.inj e).symm
 have old5:aF Hz H5:=fun b o e=>k5 _ _ (nla (s24 _ _ (old2 _ _ e)) (Z b o e).2.2) (fun y=>by have:=old2 _ _ e;rw[y,hdu]at this;cases this) (s24 _ _ (old2 _ _ e))
 have fw5:mI P w K mg af W H5:=fw2.keep fun b u e=>k5 _ _ (nla (s24 _ _ e) nk) (fun y=>by rw[y,hdu]at e;cases e) (s24 _ _ e)
 have rs:=rs30 (P:=P) (w:=w) (K:=K) (mg:=mg) (af:=af) (CG:=CG) (CM:=CM) O (fi:=fi) (fd:=fd) (lk:=lk) (ys:=ys) (ds:=ds)
 have co:cn (k+ 1)∈W.B.ord:=by rw[O.od];exact List.mem_map.mpr ⟨k+ 1,List.mem_range.mpr (by omega),rfl⟩
 obtain⟨dS,sS⟩:=N5.sh;refine⟨_,rfl,W.s,dS,_,rfl,sS,fN,_,rfl,_,rfl,?_⟩;refine sc_T (N5.ok O) N5.sb (a5h fw5) N5.sh (List.mem_singleton.mpr rfl) fM.1 (kY (by omega)) co ⟨rfl,co,hp⟩ (by show 0+ _<900;omega) (fun H6 v kf' kl' mem' wo' cs' ns' L S' f6 hv6 pd6 ve6 hc6=> ?_);obtain⟨⟨calls,ecalls,perm⟩,N6⟩:=N5.cell (wl0:=fK wo) O hk hp rfl S' f6 (by rw[show aE kf' (cK (ce k p))=some v from hv6];rfl) ve6;have old6:aF Hz H6:=lX.z Z old5 (dP.fr30 N5.sb f6);have fw6:=fw5.keep (N5.sb.kz f6);have kt6:=N5.sb.ktt f6;have vdk:=a76 (me:=W.me) (c:=cn (k+ 1)) hG;have lay:=vdk.lay;have pd6:Pd K H6 v (fE W.me (ds.getD p .none) (cn (k+ 1))):=pd6;refine⟨_,rfl,_,rfl,_,_,pd6.2,(pv5.keep kt6.t).dt,lay.1,lay.1,Nat.le_trans lay.2 (by decide),_,rfl,?_⟩;rw[vdk.eqv];refine bG ⟨_,rfl,v,"bool",_,_,rfl,pd6.2,a3l K _,_,rfl,?_⟩;rw[vdk.nb];refine bG ?_;obtain⟨nd,nls,l4⟩:=a7a O.mn (d:=ds.getD p .none) hk p (fK wo);have nt6:=S'.nt (fun y=>by cases y);rw[ecalls]at nt6;have mn:Paired (MS K H6) cs' calls:=a3u nt6;have l1:cs'.length=calls.length:=Paired.length mn;have l2:=perm.length_eq;have ca6:=S'.ca.2 W.ca rfl;have ndc:(calls.map (·.1)).Nodup:=(perm.map (·.1)).nodup_iff.mpr nd;refine⟨_,rfl,W.ca,cs',_,rfl,aM.of ca6,by omega,a30 _,⟨calls.map fun m:Str×List Int=>m.1,ndc,a0Q mn,rfl⟩,fun D1 pr1 hD1 hs1 hpr1 sd1=> ?_⟩;obtain⟨ms1,p1,q1,r1⟩:=a2b mn hs1 hpr1 sd1;have sD:=aF.new (o:=.lst (pr1.toList.map fun i=>cs'.getD i .non)) hD1;have vD:=aI (H:=H6) (a:=D1) (o:=.lst (pr1.toList.map fun i=>cs'.getD i .non))
 generalize upd H6 D1 (.lst (pr1.toList.map fun i=>cs'.getD i .non))=H7 at sD vD|-
 have caf:W.ca∈W.fx:=by unfold cN.fx;simp
 have kdu:∀{b:Addr} {xs:List V},b∉W.fx->H5 b=some (.lst xs)->H6 b=some (.lst xs):=fun n e=>N5.sb.k f6 e nk nk nk (fun y=>n (by rw[<- Option.some.inj y];exact caf))
 have ndu:du∉W.fx:=fun y=>N2.sb.fx du y hdu
 have du6:=kdu ndu C5.d;have mnD:Paired (MS K H6) dv5 _:=a6x (K:=K) (Paired.imp (fun a b h=>qV.mv (fx':=W.fx) kt6.t (fun b ys n e=>⟨kdu (fun y=>n (List.mem_cons_of_mem _ y)) e,fun y=>n (List.mem_cons_of_mem _ y)⟩) h) C5.m);have mnD7:=Paired.imp (fun a b h=>MS.same sD h) mnD;have l5:=Paired.length mnD;refine⟨_,rfl,du,dv5,_,rfl,aM.of (sD _ _ du6),by omega,a30 _,⟨_,nd,a0Q mnD7,rfl⟩,fun D2 pr2 hD2 hs2 hpr2 sd2=> ?_⟩;obtain⟨ms2,p2,q2,r2⟩:=a2b mnD7 hs2 hpr2 sd2;have sE:=aF.new (o:=.lst (pr2.toList.map fun i=>dv5.getD i .non)) hD2;obtain rfl:ms1=ms2:=b0d ndc p1 q1 p2 q2 perm;have nls1:∀m∈ms1,Nl m.1:=fun m hm=>nls m (p2.mem_iff.mp hm)
 have lay2:(PyData.list (ms1.map kQ)).canLay0=true:=a1S _ nls1
 have dep2:(PyData.list (ms1.map kQ)).depth<=64:=by
  show PyData.depthAll _+ 1<=64;have:=a4Q ms1;omega
 refine⟨_,_,.lst (aM.of (sE _ _ vD)) (a0P (Paired.imp (fun a b h=>MS.same (sD.trans sE) h) r1)),.lst (aM.of aI) (a0P (Paired.imp (fun a b h=>MS.same sE h) r2)),lay2,lay2,dep2,_,rfl,?_⟩;rw[show PyData.eqv (.list (ms1.map kQ)) (.list (ms1.map kQ))=true from by rw[PyData.eqv];exact a4F _];refine bG (hD _ _ _ _ _ ((old6.trans sD).trans sE) ⟨(fw6.keep (cD.of sD)).keep (cD.of sE),fi,fd,lk,ys,ds,kf',kl',mem',wo',cs',ns',csh,kvs5,(N6.same sD).same sE,by omega,?_⟩);have:=C5.n.1;have:=xL W.me (ds.getD p .none) (cn (k+ 1));omega
theorem a7Z(T:bA K mg){CR CV:Addr}(Y:gR K mg CS)(R:mR K mg CR)(F:fO K mg CF)(Wb:cY K mg CB)(U:dQ K mg CT)(Ce:kN K mg CG)(Me:kG K mg CM)(VP:uH K mg CV)(B2:kO K mg "Finder" "gathered" "Finder.gathered" iI z2)(M2:jQ mg af z2.1 z2.2)(A:Around)(ag:List Env)(s:Shared)(H:Hp)(Q:VK)(E:XK)(hr:bV 17 (A.deeper (PyProof.Rows.envOfC "law" (aL lR) s.heap.objs.size f ah)))(q:∀H',tK [z1,z2] H'->Q (.bl true) H'):
 ∃t,eV (uX P w K mg af f ah A ag s H E) ((eZ lR).drop 6) t/\
  ∀(W:cN) (O:fU W) (H1 Hz:Hp) (a:Addr) (sc:List Int) (o6 o7 o8 o9 o10 o11:Option V),yJ Hz W z2.2->aF Hz H1->pW P w K mg af CS CF CB CT CG CM z2.2 W 0 H1->aM K Hz a (sc.map V.int)->sc.length<=63->(∃S,Hz z1.2=some (eL z1.2 S))->
   t {nx:=fun _ H'=>Q .non H',rt:=Q} [some (.ref a),some (.ref W.vl),some (.str W.me),some (.ref W.ca),some (.ref W.s),some (.ref W.la),o6,o7,o8,o9,o10,o11] H1:=by
 have G_mixed:bD P w K mg af aD 1 "_law_mixed" ["_law_script","_law_k"] (rO K):=a0U T;have G_value:bD P w K mg af aD 1 "_law_value" ["_law_cell_here"] (rX K):=a2Z T;have G_put:aS P w K mg af aD 9 CS "put" ["self","table","column","place","value"] (a0L K CS CF CB CT):=a7t T Y F Wb U VP;obtain⟨tE,hE,qE⟩:=a8k (P:=P) (w:=w) T Y R F Wb U Ce Me B2 M2 (f:=f) (ah:=ah) A ag s H E hr
 refine⟨_,(aJ (nM PassesOwn.never rfl (a3Q rfl T.range (aA bB aG)) (iG (i:=6) jS.nd rfl ad)
  (aJ (bW (a1A PySem.F.plainAttrs_list PySem.F.slot_list_clear PySem.F.type_list_clear a9t (pv 3)))
  (aJ (cA (i:=7) jS.nd rfl ad (bZ fR (bK G_mixed hr.mn aO (aA (pv 0) (aA (bZ kW bB (bZ oT bB (pv 6))) aG))) (dC jX rfl T.len iR (aA (pv 1) aG))))
  (aJ (bI (cR lC (bZ fR (bK G_mixed hr.mn aO (aA (pv 0) (aA (bZ kW bB (bZ oT bB (pv 6))) aG))) bB) bB (dA _)) (aJ (a0i (bK G_value hr.mn aO (aA (bK G_mixed hr.mn aO (aA (pv 0) (aA (bZ kW bB (bZ oT bB (pv 6))) aG))) aG)) (a1k (pv 1) (pv 7) a3n (fun _=>rfl)))
  (aJ (bW (cF (pv 4) Y.cl G_put hr.mn aO (aA bT (aA bT (aA (pv 7) (aA (cW jR (pv 1) (pv 7) (fun _ _=>rfl)) aG))))))
  (aK (bI (cR (rL hr.units) (pv 3) (fC aG) (dA _)) (aK (bH oE)) bL)))) bL)
  hE))))
  (aK (bH oE))),?_⟩
 intro W O H1 Hz a sc o6 o7 o8 o9 o10 o11 Z old1 L1 hS hl hz1;have m5:=O.m5
 have lx:W.B.xs.length=W.m:=by rw[O.xs,pV]
 have caf:W.ca∈W.fx:=by unfold cN.fx;simp
 have vlf:W.vl∈W.fx:=by unfold cN.fx;simp
 refine⟨_,rfl,by decide,by decide,?_⟩;refine a5f (lo:=0) (n:=(8:Int).toNat) (fun i σ Hi=>∃o6 o7 o8 o9 o10 o11,σ= [some (.ref a),some (.ref W.vl),some (.str W.me),some (.ref W.ca),some (.ref W.s),some (.ref W.la),o6,o7,o8,o9,o10,o11] /\aF Hz Hi/\pW P w K mg af CS CF CB CT CG CM z2.2 W i Hi) ⟨_,_,_,_,_,_,rfl,old1,L1⟩ ?_ ?_
 ·rintro i σ Hi hi ⟨o6,o7,o8,o9,o10,o11,rfl,oldi,L⟩
  have hi:i<8:=hi;obtain⟨fw,fi,fd,lk,ys,ds,kf,kl,mem,wo,cs,ns,csh,kvs,N,lc,lkv⟩:=L;rw[Int.zero_add];have hca:=N.sb.ca.2 W.ca rfl;refine⟨_,rfl,.inl ⟨rfl,_,aM.of hca⟩,W.ca,_,rfl,rfl,hca,?_⟩;have u2:bC W.ca Hi (upd Hi W.ca (.lst [])):=bC.upd;have c2:upd Hi W.ca (.lst []) W.ca=some (.lst []):=aI
  generalize upd Hi W.ca (.lst [])=H2 at u2 c2|-
  have N2:=N.clear O u2 c2;have old2:aF Hz H2:=lX.z Z oldi (lX.but caf u2);have fw2:mI P w K mg af W H2:=fw.keep (cD.but u2 hca nk);obtain⟨zs,hvl,pz⟩:=N2.zs
  have lz:zs.length=W.m:=by rw[Paired.length pz,N.ld]
  refine⟨_,rfl,_,rfl,_,_,rfl,rfl,.inl ⟨by decide,by decide⟩,_,_,rfl,rfl,a,sc,_,rfl,old2.seq hS,hl,by omega,by omega,fun m1 h1 h2=>⟨_,rfl,_,_,rfl,.inl ⟨_,aM.of hvl,rfl⟩,_,_,rfl,rfl,by omega,?_⟩⟩;have e1:=Int.emod_nonneg m1 (show(zs.length:Int)≠0 by omega);have e2:=Int.emod_lt_of_pos m1 (show(0:Int)<(zs.length:Int)by omega);obtain⟨p,hp'⟩:∃p:Nat,m1% (zs.length:Int)=(p:Int):=⟨(m1% (zs.length:Int)).toNat,by omega⟩
  have hp:p<W.m:=by omega
  dsimp only;rw[hp']
  have next:∀(H':Hp) (o8 o9 o10 o11:Option V),aF Hz H'->pW P w K mg af CS CF CB CT CG CM z2.2 W (i+ 1) H'->∃o6 o7 o8' o9' o10' o11',[some (.ref a),some (.ref W.vl),some (.str W.me),some (.ref W.ca),some (.ref W.s),some (.ref W.la),some (.int (i:Int)),some (.int (p:Int)),o8,o9,o10,o11]= [some (.ref a),some (.ref W.vl),some (.str W.me),some (.ref W.ca),some (.ref W.s),some (.ref W.la),o6,o7,o8',o9',o10',o11'] /\aF Hz H'/\pW P w K mg af CS CF CB CT CG CM z2.2 W (i+ 1) H':=fun H' o8 o9 o10 o11 x y=>⟨_,_,_,_,_,_,rfl,x,y⟩
  refine⟨_,rfl,_,rfl,_,_,rfl,rfl,.inl ⟨by decide,by decide⟩,_,_,rfl,rfl,a,sc,_,rfl,old2.seq hS,hl,by omega,by omega,fun m2 h3 h4=>⟨_,_,rfl,rfl,(show(0:Int)<3 by decide),rfl,_,rfl,?_⟩⟩;refine bY (fun _=> ?_) (fun _=> ?_)
  ·
   refine⟨_,rfl,_,rfl,_,_,rfl,rfl,.inl ⟨by decide,by decide⟩,_,_,rfl,rfl,a,sc,_,rfl,old2.seq hS,hl,by omega,by omega,fun m3 h5 h6=>⟨m3,rfl,fun H3 v d s3 hG hv=> ?_⟩⟩;have N3:=N2.same s3;have hvl3:=s3 _ _ hvl;refine⟨_,rfl,_,rfl,W.vl,zs,(p:Int),p,rfl,rfl,hvl3,by rw[a0V (by omega) (by omega),Int.toNat_natCast],?_⟩;have u4:bC W.vl H3 (upd H3 W.vl (.lst (zs.set p v))):=bC.upd;have v4:upd H3 W.vl (.lst (zs.set p v)) W.vl=some (.lst (zs.set p v)):=aI
   generalize upd H3 W.vl (.lst (zs.set p v))=H4 at u4 v4|-
   obtain⟨⟨dS,sS⟩,ch4,⟨kb,bd4,kbv⟩,B4,lA4,pv4,fin⟩:=a7E N3 O hvl3 hv hG u4 v4;have nd:=O.nd;unfold cN.fx at nd;simp only[List.nodup_cons,List.mem_cons,List.not_mem_nil,or_false,not_or]at nd;obtain⟨⟨a1,a2,a3,a4,a5⟩,⟨b1,b2,b3,b4⟩,⟨c1,c2',c3⟩,⟨d1,d2⟩,f1,_⟩:=nd;refine⟨_,rfl,W.s,dS,_,rfl,sS,fN,_,rfl,_,rfl,_,rfl,W.vl,_,_,_,rfl,rfl,aM.of v4,rF (List.getElem?_set_self (by omega)),W.s,W.bd,W.ch,W.lA,csh,kb,"t","a",p,_,_,ys,W.B,rfl,⟨⟨dS,fi,sS⟩,ch4,bd4⟩,by omega,fM.1,kbv,B4,O.ss,kY (k:=0) (by decide),by{rw[O.od];exact List.mem_map.mpr ⟨0,List.mem_range.mpr (by omega),rfl⟩},O.r1,O.k1,lA4,by omega,by rw[lx];exact N.ly,pv4,fun y=>a3 y.symm,fun y=>b2 y.symm,fun y=>c1 y.symm,fun H5 fi' fd' lk' c Fr B5 l5 u5=> ?_⟩;have N5:=fin H5 fi' fd' lk' c kb Fr kbv B5 l5 u5;have kz5:cD H3 H5:=fun b u e=>u5 _ _ (fun y=>by rw[y,N3.sh.choose_spec]at e;cases e) (fun y=>by rw[y,N3.ch]at e;cases e) (fun y=>by rw[y,N3.colA O]at e;cases e) (u4 _ _ (fun y=>by rw[y,hvl3]at e;cases e) e)
   have old5:aF Hz H5:=lX.z Z (old2.trans s3) fun b o n1 n3 n2 e=>by
    simp only[List.mem_cons,not_or]at n1;have hx:∀x∈W.fx,b≠x:=fun x hx y=>n1.2.2 (y▸hx)
    exact u5 _ _ n1.2.1 (hx _ (by unfold cN.fx;simp)) (hx _ (by unfold cN.fx;simp)) (u4 _ _ (hx _ vlf) e)
   refine⟨_,rfl,sl,fun el hel=> ?_⟩;have s6:=aF.new (o:=.lst []) hel;have ca6:=s6 _ _ (N5.sb.ca.2 _ rfl);refine⟨.list [],.list [],.lst (aM.of ca6) .nil,.lst (aM.of aI) .nil,rfl,rfl,by decide,_,rfl,bG ?_⟩
   refine qE _ W O _ Hz a sc i p fi' fd' lk' _ _ [] [] mem wo (csh++ [.ref c]) kvs _ _ _ _ hi hp Z (old5.trans s6) (((fw2.keep (cD.of s3)).keep kz5).keep (cD.of s6)) (N5.same s6) ?_ lkv hS hl next
   rw[List.length_append];show csh.length+ 1<=21+ i;omega
  ·exact qE _ W O H2 Hz a sc i p fi fd lk ys ds kf kl mem wo csh kvs _ _ _ _ hi hp Z old2 fw2 N2 (by omega) lkv hS hl next
 ·rintro σ Hi ⟨o6,o7,o8,o9,o10,o11,rfl,oldi,L⟩
  obtain⟨fw,fi,fd,lk,ys,ds,kf,kl,mem,wo,cs,ns,csh,kvs,N,lc,lkv⟩:=L;refine q _ fun z hz=> ?_
  simp only[List.mem_cons,List.not_mem_nil,or_false]at hz
  rcases hz with rfl|rfl
  ·obtain⟨S,e⟩:=hz1
   exact⟨S,oldi _ _ e⟩
  ·obtain⟨S,e,_⟩:=N.sb.tb
   exact⟨S,e⟩
end
theorem b0m{g:eS}(L:lL X σ H g):aF H (dE g H):=fun b o e=>by
 cases e2:g b with
 |none=>rw[dM e2];exact e
 |some ob=>rw[L.free b ob e2]at e;cases e
section
inductive yE(vs:List V)(H:Hp)(Q:VK)(E:XK):Prop
 |mk (ca l:Addr) (c:Str) (x:V) (is:List Int) (cs:List V):vs= [.ref ca,.str c,.ref l,x] ->H l=some (.lst (is.map V.int))->H ca=some (.lst cs)->cs.length<900->(∀H' tp lc,bC ca H H'->H lc=none->H' ca=some (.lst (cs++ [.ref tp]))->H' tp=some (.tup [.str c,.ref lc])->H' lc=some (.lst (is.map V.int))->Q x H')->yE vs H Q E
abbrev wU:List Str:=["_law_calls","_law_column","_law_some","_law_told"]
theorem a4Z:aY wU wU (aL a05):={}
theorem a5V(T:bA K mg):bD P w K mg af aD 1 "_law_noted" wU yE:=by
 refine T.d_law_noted.known a4Z (fun _ _ _ _ _ _ us hl=>kP (fun _ _ _ _=>rfl) us hl) (fun vs H Q E h=> ?_) (fun f ah A ag s H vs Q E hr h=> ?_)
 ·obtain⟨ca,l,c,x,is,cs,rfl,_⟩:=h
  rfl
 ·obtain⟨ca,l,c,x,is,cs,rfl,hl,hca,c9,q⟩:=h
  refine⟨_,(aJ (bW (lZ F.plainAttrs_list F.slot_list_append F.type_list_append lO (pv 0) (aA (fF (aA (pv 1) (aA (nT sP rfl T.list lD (aA (pv 2) aG)) aG))) aG)))
   (aK (bH (pv 3)))),?_⟩
  refine⟨_,rfl,.inl ⟨rfl,_,aM.of hca⟩,_,rfl,_,rfl,l,_,rfl,.inl (aM.of hl),fun lc hlc=> ?_⟩;have s1:=aF.new (o:=.lst (is.map V.int)) hlc;have l1:upd H lc (.lst (is.map V.int)) lc=some (.lst (is.map V.int)):=aI
  generalize upd H lc (.lst (is.map V.int))=H1 at s1 l1|-
  refine⟨sl,fun tp htp=> ?_⟩;have s2:=aF.new (o:=.tup [.str c,.ref lc]) htp;have t2:upd H1 tp (.tup [.str c,.ref lc]) tp=some (.tup [.str c,.ref lc]):=aI
  generalize upd H1 tp (.tup [.str c,.ref lc])=H2 at s2 t2|-
  refine⟨ca,_,_,rfl,rfl,s2 _ _ (s1 _ _ hca),eD (by omega),?_⟩;have u3:bC ca H2 (upd H2 ca (.lst (cs++ [.ref tp]))):=bC.upd;have c3:upd H2 ca (.lst (cs++ [.ref tp])) ca=some (.lst (cs++ [.ref tp])):=aI
  generalize upd H2 ca (.lst (cs++ [.ref tp]))=H3 at u3 c3|-
  have nlc:lc≠ca:=fun y=>by rw[y,hca]at hlc;cases hlc
  have ntp:tp≠ca:=fun y=>by rw[y,s1 _ _ hca]at htp;cases htp
  exact⟨_,rfl,q H3 tp lc ((bC.of (s1.trans s2)).trans u3) hlc c3 (u3 _ _ ntp t2) (u3 _ _ nlc (s2 _ _ l1))⟩
def uE(K:Fg)(ca:Addr)(mk:V)(g:List Int->PyData)(ok:List Int->Prop):List V->Hp->VK->Prop:=fun vs H Q=>∃(l:Addr) (is:List Int) (cs:List V),vs= [.ref l] /\H l=some (.lst (is.map V.int))/\H ca=some (.lst cs)/\cs.length<900/\ok is/\ca≠l/\
 ∀H' v tp lc,bC ca H H'->H lc=none->H' ca=some (.lst (cs++ [.ref tp]))->H' tp=some (.tup [mk,.ref lc])->H' lc=some (.lst (is.map V.int))->Dt K H' v (g is)->Q v H'
theorem yA{ca:Addr}{mk:V}{k:Nat}{g:List Int->PyData}{ok:List Int->Prop}{fl:eS}{HB:Hp}(hk:k<=4)(free:∀b o,fl b=some o->HB b=none)(la:gN q params body ai clos HB fa)(F:eT P w K mg af k fa (mY fa fl q params body ai clos 1 (uE K ca mk g ok))):nK P w K mg af 4 (dE fl HB) fa (some ca) (some mk) g ok:=by
 refine⟨fun H=>gN q params body ai clos H fa/\∀b o,fl b=some o->H b=some (Fz o),(F.mono hk).imp fun vs H Q E h=> ?_,⟨?_,fun b o e=>mL e⟩,fun H H' kz h=>⟨iL kz h.1,fun b o e=>kz _ _ (h.2 b o e)⟩⟩
 ·obtain⟨l,is,cs,rfl,⟨h1,h2⟩,hl,hca,c9,i0,i1,ncl,qq⟩:=h
  have hca:=hca.2 ca rfl;have nf:∀{b:Addr} {o:HO},H b=some o->(∀u,o≠Fz u)->fl b=none:=fun{b o} e n=>by
   cases e2:fl b with
   |none=>rfl
   |some ob=>rw[h2 b ob e2]at e;exact absurd (Option.some.inj e).symm (n ob)
  have fc:=nf hca nk;have fl':=nf hl nk;refine⟨rfl,h1,h2,l,is,cs,rfl,by rw[dO fl'];exact hl,by rw[dO fc];exact hca,c9,i0,fun y=>ncl (by rw[y]),fun H' v tp lc b hlc hc' ht' hl' hd fr=> ?_⟩
  have flc:fl lc=none:=by
   cases e2:fl lc with
   |none=>rfl
   |some ob=>rw[fr lc ob e2]at hl';cases hl'
  have sL:aF H' (dE fl H'):=fun x o e=>by
   cases e2:fl x with
   |none=>rw[dM e2];exact e
   |some ob=>rw[fr x ob e2]at e;cases e
  refine qq (dE fl H') v [.ref tp] (fun x o n e=> ?_) ⟨fun e=>(by cases e),fun x e=> ?_⟩ ⟨fun e=>(by cases e),fun x e=>⟨.ref tp,lc,rfl,by rw[dO flc]at hlc;exact hlc,sL _ _ hl',fun e=>(by cases e),fun m e=>⟨tp,rfl,by cases e;exact sL _ _ ht'⟩⟩⟩ (hd.same sL)
  ·cases e2:fl x with
   |none=>rw[dM e2];exact b _ _ (fun y=>n (by rw[y])) (by rw[dO e2];exact e)
   |some ob=>rw[h2 x ob e2]at e;rw[mL e2];exact e
  ·cases e
   exact sL _ _ hc'
 ·refine iL (fun b u e=> ?_) la
  cases e2:fl b with
  |none=>rw[dM e2];exact e
  |some ob=>rw[free b ob e2]at e;cases e
end
abbrev zK:Str:=("_law_built":Str)++ ".<locals>." ++ "<lambda>"
theorem a2e{κ:Type} [DecidableEq κ]{k:κ}:∀{kvs:List (κ×V)},(∀kv∈kvs,kv.1≠k)->aE kvs k=none
 | [],_=>rfl
 |x::r,h=>by
  rw[jG (h x aa)];exact a2e fun kv hkv=>h kv (List.mem_cons_of_mem _ hkv)
def rK(gr:Nat->Addr)(j:Nat):List (aB×V):=(List.range j).map fun k=>((.inr (cn (k+ 1)):aB),V.ref (gr k))
theorem a0w:(rK gr j).length=j:=by unfold rK;rw[List.length_map,List.length_range]
theorem a19{rv:aB×V}(h:rv∈rK gr j):∃k,k<j/\rv=((.inr (cn (k+ 1)):aB),V.ref (gr k)):=by
 obtain⟨k,hk,e⟩:=List.mem_map.mp h;exact⟨k,List.mem_range.mp hk,e.symm⟩
theorem a3A(h:j<=4):((rK gr j).map (·.1)).Nodup:=by
 unfold rK;rw[List.map_map,List.nodup_iff_pairwise_ne,List.pairwise_map];refine List.Pairwise.imp_of_mem (fun{a b} ha hb hab y=> ?_) (List.nodup_iff_pairwise_ne.mp List.nodup_range);have ha:=List.mem_range.mp ha;have hb:=List.mem_range.mp hb;have y:(Sum.inr (cn (a+ 1)):aB)= .inr (cn (b+ 1)):=y;have:=mV (j:=a+ 1) (k:=b+ 1) (by omega) (by omega) (Sum.inr.inj y);omega
theorem a2H{k:Nat}(h:j<=4)(hk:k<j):aE (rK gr j) (.inr (cn (k+ 1)):aB)=some (.ref (gr k)):=wI (a3A h) (List.mem_map.mpr ⟨k,List.mem_range.mpr hk,rfl⟩)
theorem a0z(h:j<=4)(hi:i<=4)(n:i=0\/ j<i):aE (rK gr j) (.inr (cn i):aB)=none:=a2e fun kv hkv y=>by
 obtain⟨k,hk,rfl⟩:=a19 hkv;have:=mV (j:=k+ 1) (k:=i) (by omega) hi (Sum.inr.inj y);omega
def ext(f:Nat->Addr)(j:Nat)(a:Addr):Nat->Addr:=fun k=>if k=j then a else f k
theorem nX{f:Nat->Addr}:ext f j a j=a:=if_pos rfl
theorem lU{f:Nat->Addr}{k:Nat}(h:k<j):ext f j a k=f k:=if_neg (by omega)
theorem rQ{f:Nat->Addr}{p:Nat->Addr->Prop}(h:∀k,k<j->p k (f k))(ha:p j a):∀k,k<j+ 1->p k (ext f j a k):=fun k hk=>by
 rcases Nat.lt_or_ge k j with h'|h'
 ·rw[lU h']
  exact h k h'
 ·obtain rfl:k=j:=by omega
  rw[nX];exact ha
theorem a2P(h:j<4):aR (rK gr j) (.inr (cn (j+ 1)):aB) (.ref a)=rK (ext gr j a) (j+ 1):=by
 rw[sH _ (a0z (by omega) (by omega) (.inr (by omega)))];unfold rK;rw[List.range_succ,List.map_append];congr 1
 ·refine List.map_congr_left fun k hk=> ?_
  show(_,V.ref (gr k))=(_,V.ref (ext gr j a k));rw[lU (List.mem_range.mp hk)]
 ·show [(_,V.ref a)]= [(_,V.ref (ext gr j a j))]
  rw[nX]
def oQ(B:BM)(gr mc:Nat->Addr)(j:Nat):BM:={B with rus:=rK gr j,mes:=rK mc j,ord:=(List.range (j+ 1)).map cn}
theorem a3s(h:j<4):cn (j+ 1)∉(List.range (j+ 1)).map cn:=fun y=>by
 obtain⟨k,hk,e⟩:=List.mem_map.mp y;have hk:=List.mem_range.mp hk;have:=mV (by omega) (by omega) e;omega
def kR(CG CM:Addr)(k:Nat):Addr:=if k=2 then CM else CG
def iJ(me:Str)(nl fa:Nat->Addr)(k:Nat):List (Str×V):=if k=2 then jC me (fa k) else jB (nl k) (fa k)
noncomputable def kX (me:Str) (k:Nat):List bP:=if k=2 then [(("t":Str),me)] else fA ((gI k).map fun z=>(("t":Str),z))
def lE(CG CM:Addr):Addr->Sp->Prop:=fun C sp=>(C=CG/\sp=wL C)\/ (C=CM/\sp=vQ C)
theorem a2n(me:Str)(nl fa:Nat->Addr)(k:Nat):(iJ me nl fa k).lookup ("leans":Str)=none:=by
 unfold iJ;split
 ·exact(qA _ _).2.2.1
 ·exact(rN _ _).2.2.1
theorem yL:∀k:Fin 3,(∀z∈gI k.val,Nl z)/\(gI k.val).length<=6:=by unfold Nl;decide+kernel
theorem jY(k:Nat):(∀z∈gI k,Nl z)/\(gI k).length<=6:=by
 match k with
 |0=>exact yL 0
 |1=>exact yL 1
 |_+ 2=>exact yL 2
theorem a3e(hme:gD me){k:Nat}(hk:k<4){z:bP}(h:z∈kX me k):∃i,i<=k/\z=(("t":Str),cn i):=by
 obtain⟨i,hi,e⟩:=hme.cn;unfold kX at h
 rcases iE hk with rfl|rfl|rfl|rfl
 ·rw[if_neg (by decide)]at h
  have h:=List.mem_singleton.mp (xC (show z∈fA [(("t":Str),("a":Str))] from h));exact⟨0,by decide,h⟩
 ·rw[if_neg (by decide)]at h
  have h:=xC (show z∈fA [(("t":Str),("a":Str)),("t","b")] from h);simp only[List.mem_cons,List.not_mem_nil,or_false]at h
  rcases h with h|h
  ·exact⟨0,by decide,h⟩
  ·exact⟨1,by decide,h⟩
 ·rw[if_pos rfl]at h
  exact⟨i,hi,by rw[List.mem_singleton.mp h,e]⟩
 ·rw[if_neg (by decide)]at h
  have h:=List.mem_singleton.mp (xC (show z∈fA [(("t":Str),("m":Str))] from h));exact⟨3,by decide,h⟩
theorem a1T(me:Str)(k:Nat):(kX me k).length<=100:=by
 unfold kX;split
 ·show 1<=100;decide
 ·refine Nat.le_trans (a1a _) ?_
  rw[List.length_map];exact Nat.le_trans (jY k).2 (by decide)
structure hZ(CS CF CB CT CG CM zt s ch bd:Addr)(B:BM)(me:Str)(H0:Hp)(j:Nat)(gr nl fa mc:Nat->Addr)(fi fd lk:Addr)(csh:List V)(H:Hp):Prop where
 sh:∃dx,H s=some (.ins CS dx (dZ bd ch fi))
 hc:H ch=some (.lst csh)
 hb:H bd=some (.dK [((.inr "t":aB),V.ref B.b)])
 hf:∃df,H fi=some (.ins CF df (gY bd fd lk))
 d1:H fd=some (.dT [])
 d2:H lk=some (.dT [])
 fl:fd≠lk
 bt:cO CB CT H (oQ B gr mc j)
 g:∀k,k<j->∃dg,H (gr k)=some (.ins (kR CG CM k) dg (iJ me nl fa k))
 n:∀k,k<j->k≠2->H (nl k)=some (.lst ((gI k).map V.str))
 m:∀k,k<j->H (mc k)=some (.dK [])
 md:∀i k,i<j->k<j->mc i=mc k->i=k
 g0:∀k,k<j->H0 (gr k)=none
 n0:∀k,k<j->H0 (nl k)=none
 m0:∀k,k<j->H0 (mc k)=none
 tb:gM zK H zt
 kp:∀x o,x≠zt->x≠s->x≠ch->x≠B.od->x≠B.ru->x≠B.me->H0 x=some o->H x=some o
 ol:∀x∈ [s,ch,B.od,B.ru,B.me],H0 x≠none
 lc:csh.length=2+ j
section
variable{s:Addr}{B:BM}{nl fa mc:Nat->Addr}
theorem hZ.le(R:hZ CS CF CB CT CG CM zt s ch bd B me H0 j gr nl fa mc fi fd lk csh H){k:Nat}(hk:k<j)(h4:k<4):∃C sp,lE CG CM C sp/\kR CG CM k=C/\mO sp (gr k) "t" (kX me k) H:=by
 obtain⟨dg,e⟩:=R.g k hk;by_cases h2:k=2
 ·subst h2
  exact⟨CM,_,.inr ⟨rfl,rfl⟩,rfl,a33 e⟩
 ·unfold kR iJ at e
  rw[if_neg h2,if_neg h2]at e;refine⟨CG,_,.inl ⟨rfl,rfl⟩,by unfold kR;rw[if_neg h2],?_⟩;unfold kX;rw[if_neg h2];exact a3C e (R.n k hk h2) (jY k).2 (jY k).1 fM.1
theorem hZ.dn(R:hZ CS CF CB CT CG CM zt s ch bd B me H0 j gr nl fa mc fi fd lk csh H){x:Addr}(h:H x=none):H0 x=none:=by
 cases e:H0 x with
 |none=>rfl
 |some o=>
  obtain⟨_,s1⟩:=R.sh;obtain⟨_,t1,_⟩:=R.tb;have:=R.kp x o (fun y=>by rw[y,t1]at h;cases h) (fun y=>by rw[y,s1]at h;cases h) (fun y=>by rw[y,R.hc]at h;cases h) (fun y=>by rw[y]at h;have:=R.bt.ord.symm.trans h;cases this) (fun y=>by rw[y]at h;have:=R.bt.rul.symm.trans h;cases this) (fun y=>by rw[y]at h;have:=R.bt.mem.symm.trans h;cases this) e;rw[h]at this;cases this
theorem hZ.go(R:hZ CS CF CB CT CG CM zt s ch bd B me H0 j gr nl fa mc fi fd lk csh H)(u:pY zt H H')(tb:gM zK H' zt):hZ CS CF CB CT CG CM zt s ch bd B me H0 j gr nl fa mc fi fd lk csh H':=by
 obtain⟨S,t1,_⟩:=R.tb;have k:∀{x:Addr} {o:HO},H x=some o->(∀φ,o≠ .ext φ)->H' x=some o:=fun{x o} e n=>u _ _ (fun y=>by rw[y,t1]at e;exact n _ (Option.some.inj e).symm) e
 obtain⟨ds,hs⟩:=R.sh;obtain⟨df,hf⟩:=R.hf
 have bt:cO CB CT H' (oQ B gr mc j):=by
  obtain⟨⟨d1,e1⟩,⟨⟨d2,e2⟩,e3,e4⟩,e5,e6,e7⟩:=R.bt;exact⟨⟨d1,k e1 nk⟩,⟨⟨d2,k e2 nk⟩,k e3 nk,k e4 nk⟩,k e5 nk,k e6 nk,k e7 nk⟩
 exact⟨⟨ds,k hs nk⟩,k R.hc nk,k R.hb nk,⟨df,k hf nk⟩,k R.d1 nk,k R.d2 nk,R.fl,bt,fun i hi=>let ⟨dg,e⟩:=R.g i hi;⟨dg,k e nk⟩,fun i hi h2=>k (R.n i hi h2) nk,fun i hi=>k (R.m i hi) nk,R.md,R.g0,R.n0,R.m0,tb,fun x o n1 n2 n3 n4 n5 n6 e=>u _ _ n1 (R.kp x o n1 n2 n3 n4 n5 n6 e),R.ol,R.lc⟩
theorem hZ.step(R:hZ CS CF CB CT CG CM zt s ch bd B me H0 j gr nl fa mc fi fd lk csh H)(hj:j<4){g n m dg fi' fd' lk' c:Addr}(hg:H g=some (.ins (kR CG CM j) dg (iJ me (fun _=>n) (fun _=>f) j)))(hn:j≠2->H n=some (.lst ((gI j).map V.str)))(g0:H0 g=none)(n0:H0 n=none)
 (Fr:oR CS CF s bd ch fi' fd' lk' (csh++ [.ref c]) [((.inr "t":aB),V.ref B.b)] H H')(hm:H m=none)(hB:cO CB CT H' {oQ B gr mc j with rus:=aR (rK gr j) (.inr (cn (j+ 1)):aB) (.ref g),mes:=aR (rK mc j) (.inr (cn (j+ 1)):aB) (.ref m),ord:=(List.range (j+ 1)).map cn++ [cn (j+ 1)]})(m':H' m=some (.dK []))(u:∀x o,x≠s->x≠ch->x≠B.od->x≠B.ru->x≠B.me->H x=some o->H' x=some o):
 hZ CS CF CB CT CG CM zt s ch bd B me H0 (j+ 1) (ext gr j g) (ext nl j n) (ext fa j f) (ext mc j m) fi' fd' lk' (csh++ [.ref c]) H'/\cD H H':=by
 obtain⟨sh',ch',bd',hf',fd1,lk1,fl1,_,_,_⟩:=Fr;have o0:=R.ol;obtain⟨_,s1⟩:=R.sh;have h2:=R.hc;have h3:H B.od=some (.lst (((List.range (j+ 1)).map cn).map V.str)):=R.bt.ord;have h4:H B.ru=some (.dK (rK gr j)):=R.bt.rul;have h5:H B.me=some (.dK (rK mc j)):=R.bt.mem;have nw:∀{x y:Addr},H0 x=none->y∈ [s,ch,B.od,B.ru,B.me] ->x≠y:=fun e hy z=>o0 _ hy (by rw[<- z];exact e)
 have ku:∀{x:Addr} {o:HO},H0 x=none->H x=some o->H' x=some o:=fun e e1=>u _ _ (nw e (by simp)) (nw e (by simp)) (nw e (by simp)) (nw e (by simp)) (nw e (by simp)) e1
 have kz:∀{x:Addr} {o:HO},H x=some o->(∀a b c,o≠ .ins a b c)->(∀y,o≠ .lst y)->(∀y,o≠ .dK y)->H' x=some o:=fun{x o} e n1 n2 n3=>u _ _ (fun y=>by rw[y,s1]at e;exact n1 _ _ _ (Option.some.inj e).symm) (fun y=>by rw[y,h2]at e;exact n2 _ (Option.some.inj e).symm) (fun y=>by rw[y,h3]at e;exact n2 _ (Option.some.inj e).symm) (fun y=>by rw[y,h4]at e;exact n3 _ (Option.some.inj e).symm) (fun y=>by rw[y,h5]at e;exact n3 _ (Option.some.inj e).symm) e
 obtain⟨S,t1,t2⟩:=R.tb;refine⟨⟨sh',ch',bd',hf',fd1,lk1,fl1,?_,?_,?_,?_,?_,rQ (p:=fun _ a=>H0 a=none) R.g0 g0,rQ (p:=fun _ a=>H0 a=none) R.n0 n0,rQ (p:=fun _ a=>H0 a=none) R.m0 (R.dn hm),⟨S,kz t1 (fun _ _ _ y=>by cases y) nk nk,fun c hc=> ?_⟩,fun x o n1 n2 n3 n4 n5 n6 e=>u _ _ n2 n3 n4 n5 n6 (R.kp x o n1 n2 n3 n4 n5 n6 e),o0,?_⟩,fun b v e=>kz e (fun _ _ _ y=>by cases y) nk nk⟩
 ·rw[a2P hj,a2P hj,<- List.map_singleton (f:=cn),<- List.map_append,<- List.range_succ]at hB
  exact hB
 ·intro k hk
  rcases Nat.lt_or_ge k j with h'|h'
  ·have ef:iJ me (ext nl j n) (ext fa j f) k=iJ me nl fa k:=by unfold iJ;rw[lU h',lU h']
   rw[lU h',ef];obtain⟨dg,e⟩:=R.g k h';exact⟨dg,ku (R.g0 k h') e⟩
  ·obtain rfl:k=j:=by omega
   have ef:iJ me (ext nl k n) (ext fa k f) k=iJ me (fun _=>n) (fun _=>f) k:=by unfold iJ;rw[nX,nX]
   rw[nX,ef];exact⟨dg,ku g0 hg⟩
 ·exact rQ (p:=fun k a=>k≠2->H' a=some (.lst ((gI k).map V.str))) (fun k hk h2=>ku (R.n0 k hk) (R.n k hk h2)) (fun h2=>ku n0 (hn h2))
 ·exact rQ (p:=fun _ a=>H' a=some (.dK [])) (fun k hk=>ku (R.m0 k hk) (R.m k hk)) m'
 ·intro i k hi hk e
  rcases Nat.lt_or_ge i j with a|a<;>rcases Nat.lt_or_ge k j with b|b
  ·rw[lU a,lU b]at e
   exact R.md i k a b e
  ·obtain rfl:k=j:=by omega
   rw[lU a,nX]at e;have:=R.m i a;rw[e,hm]at this;cases this
  ·obtain rfl:i=j:=by omega
   rw[lU b,nX]at e;have:=R.m k b;rw[<- e,hm]at this;cases this
  ·omega
 ·obtain⟨o,e1,e2⟩:=t2 c hc
  exact⟨o,kz e1 (fun _ _ _ y=>by cases y) nk nk,e2⟩
 ·rw[List.length_append,R.lc]
  rfl
theorem hZ.rule(R:hZ CS CF CB CT CG CM zt s ch bd B me H0 j gr nl fa mc fi fd lk csh H)(hj:j<4)(hme:gD me)(sp:B.sep)(ss:nG bd ch B){g n dg:Addr}(hg:H g=some (.ins (kR CG CM j) dg (iJ me (fun _=>n) (fun _=>f) j)))(hn:j≠2->H n=some (.lst ((gI j).map V.str)))(g0:H0 g=none)(n0:H0 n=none){Q:VK}
 (q:∀H9 fi9 fd9 lk9 m9 csh9,hZ CS CF CB CT CG CM zt s ch bd B me H0 (j+ 1) (ext gr j g) (ext nl j n) (ext fa j f) (ext mc j m9) fi9 fd9 lk9 csh9 H9->cD H H9->Q .non H9):nE K CS CF CB CT (lE CG CM) [.ref s,.str "t",.str (cn (j+ 1)),.ref g] H Q E0:=by
 have gm:∀{k:Nat},k<j+ 1->(("t":Str),cn k)∈(List.range (j+ 1)).map fun k=>(("t":Str),cn k):=fun{k} hk=>List.mem_map.mpr ⟨k,List.mem_range.mpr hk,rfl⟩
 have lcs:=R.lc;obtain⟨dS2,sS2⟩:=R.sh
 obtain⟨C,spl,hRc,eC,le⟩:∃C sp,lE CG CM C sp/\kR CG CM j=C/\mO sp g "t" (kX me j) H:=by
  by_cases h2:j=2
  ·subst h2
   exact⟨CM,_,.inr ⟨rfl,rfl⟩,rfl,a33 hg⟩
  ·have hg:=hg
   unfold kR iJ at hg;rw[if_neg h2,if_neg h2]at hg;refine⟨CG,_,.inl ⟨rfl,rfl⟩,by unfold kR;rw[if_neg h2],?_⟩;unfold kX;rw[if_neg h2];exact a3C hg (hn h2) (jY j).2 (jY j).1 fM.1
 refine⟨C,spl,s,bd,ch,g,dg,csh,[((.inr "t":aB),V.ref B.b)],"t",cn (j+ 1),iJ me (fun _=>n) (fun _=>f) j,oQ B gr mc j,kX me j,(List.range (j+ 1)).map fun k=>(("t":Str),cn k),rfl,hRc,⟨⟨dS2,fi,sS2⟩,R.hc,R.hb⟩,by omega,fM.1,rfl,R.bt,⟨sp.ro,sp.eu,sp.em,sp.um⟩,⟨ss.r,ss.o,ss.e,ss.u,ss.m⟩,⟨a0z (by omega) (by omega) (.inr (by omega)),a3s (by omega)⟩,kY (by omega),by{rw[<- eC];exact hg},a2n ..,le,fun z hz=> ?_,a1T ..,fun h=> ?_,by rw[List.length_map,List.length_range];omega,by simp,(show 1<=4 by decide),fun kv hkv=> ?_,by show(rK gr j).length<100;rw[a0w];omega,by show(rK mc j).length<100;rw[a0w];omega,by show((List.range (j+ 1)).map cn).length<8;rw[List.length_map,List.length_range];omega,fun H9 fi9 fd9 lk9 c9 m9 Fr9 hm9 hB9 mc9 u9=> ?_⟩
 ·obtain⟨i,hi,rfl⟩:=a3e hme hj hz
  exact⟨⟨fM.1,kY (by omega)⟩,gm (by omega),oQ B gr mc j,rfl,R.bt,List.mem_map.mpr ⟨i,List.mem_range.mpr (by omega),rfl⟩⟩
 ·obtain⟨k,hk,e⟩:=List.mem_map.mp h
  exact a3s (j:=j) (by omega) (List.mem_map.mpr ⟨k,hk,(Prod.mk.inj e).2⟩)
 ·rw[List.mem_singleton.mp hkv]
  refine⟨"t",oQ B gr mc j,rfl,fM.1,R.bt,ss.u,a3A (by omega),by show(rK gr j).length<=8;rw[a0w];omega,fun rv hrv=> ?_⟩;obtain⟨k,hk,rfl⟩:=a19 hrv;obtain⟨dk,ek⟩:=R.g k hk;obtain⟨C',sp',hR',eC',le'⟩:=R.le hk (by omega);refine⟨cn (k+ 1),gr k,dk,C',sp',_,kX me k,hR',rfl,kY (by omega),by{rw[<- eC'];exact ek},a2n ..,le',fun y hy=> ?_,a1T ..⟩;obtain⟨i,hi,rfl⟩:=a3e hme (by omega) hy;exact⟨⟨fM.1,kY (by omega)⟩,gm (by omega)⟩
 ·obtain⟨R9,k9⟩:=R.step hj hg hn g0 n0 Fr9 hm9 hB9 mc9 u9
  exact q H9 fi9 fd9 lk9 m9 _ R9 k9
end
section
structure uC(P:Program)(w:World)(K:Fg)(mg:Str->Option Value)(af:Heap)(CS CF CB CT CG CM zt:Addr)(W:cN)(fi fd lk:Addr)(ys:List V)(ds:List PyData)(csh:List V)(H:Hp):Prop where
 sb:SB P w K mg af (mH P w K mg af CG CM) CF CB CT zt (bN P w K mg af CG CM W fi fd lk ys ds).sx [] [] (fun _ _=> []) (fun _=>none) [] [] H
 sh:∃dx,H W.s=some (.ins CS dx (dZ W.bd W.ch fi))
 ch:H W.ch=some (.lst csh)
 fl:fd≠lk
 ly:ys.length=W.m
 ld:ds.length=W.m
 py:cQ K H ys ds
 zs:∃zs,H W.vl=some (.lst zs)/\cQ K H zs ds
theorem uC.same{W:cN}(M:uC P w K mg af CS CF CB CT CG CM zt W fi fd lk ys ds csh H)(s:aF H H'):uC P w K mg af CS CF CB CT CG CM zt W fi fd lk ys ds csh H':=⟨M.sb.same s,M.sh.imp fun _ e=>s _ _ e,s _ _ M.ch,M.fl,M.ly,M.ld,M.py.keep (bQ.of s),M.zs.imp fun _ e=>⟨s _ _ e.1,e.2.keep (bQ.of s)⟩⟩
variable{s ca vl lA:Addr}{B:BM}{H6:Hp}{f0 nl fa mc:Nat->Addr}{fi0 fd0 lk0:Addr}{csh0:List V}{m:Nat}
theorem a8t(Ce:kN K mg CG)(Me:kG K mg CM)(n12:z1.2≠z2.2)(R0:hZ CS CF CB CT CG CM z1.2 s ch bd B me H0 0 f0 f0 f0 f0 fi0 fd0 lk0 csh0 H0)(R:hZ CS CF CB CT CG CM z1.2 s ch bd B me H0 4 gr nl fa mc fi fd lk csh H6)(hme:gD me)
 (m5:1<=m/\m<=5)(ss:nG bd ch B)(nd6:[ch,B.r,B.od,lA,ca,vl].Nodup)(k1:aE B.kvs (.inr "a":aB)=some (.ref lA))(bx:B.xs=eY 0 m)
 (hlA:H0 lA=some (.lst ys))(hca:H0 ca=some (.lst []))(hvl:H0 vl=some (.lst zs))(py:cQ K H0 ys ds)(pz:cQ K H0 zs ds)(ly:ys.length=m)(ld:ds.length=m)(sd:∀d∈ds,dW d)
 (t1:H0 z1.2=some (eL z1.2 []))(t2:H0 z2.2=some (eL z2.2 []))
 {W:cN}(eW:W=⟨s,ch,bd,ca,vl,s,lA,gr,nl,fa,mc,oQ B gr mc 4,m,me⟩):
 fU W/\uC P w K mg af CS CF CB CT CG CM z2.2 W fi fd lk ys ds csh H6:=by
 have b6:=R.bt;have r6:H6 B.r=some (.lst B.xs):=b6.tab.rows;have o6:H6 B.od=some (.lst (((List.range 5).map cn).map V.str)):=b6.ord;have r0:H0 B.r=some (.lst B.xs):=R0.bt.tab.rows;have o0:H0 B.od=some (.lst [.str (cn 0)]):=R0.bt.ord;have u0:H0 B.ru=some (.dK []):=R0.bt.rul;have e0:H0 B.me=some (.dK []):=R0.bt.mem;obtain⟨d0,s0⟩:=R0.sh;obtain⟨d6,s6⟩:=R.sh;have nd:=nd6;simp only[List.nodup_cons,List.mem_cons,List.not_mem_nil,or_false,not_or]at nd;obtain⟨⟨c1,c2,c3,c4,c5⟩,⟨r2,r3,r4,r5⟩,⟨q3,q4,q5⟩,_,_,_⟩:=nd;have kl:∀{x:Addr} {xs:List V},H0 x=some (.lst xs)->x≠ch->x≠B.od->H6 x=some (.lst xs):=fun{x xs} e n1 n2=>R.kp x _ (fun y=>by rw[y,t1]at e;cases e) (fun y=>by rw[y,s0]at e;cases e) n1 n2 (fun y=>by rw[y,u0]at e;cases e) (fun y=>by rw[y,e0]at e;cases e) e
 have lA6:=kl hlA (fun y=>c3 y.symm) (fun y=>q3 y.symm);have ca6:=kl hca (fun y=>c4 y.symm) (fun y=>q4 y.symm);have vl6:=kl hvl (fun y=>c5 y.symm) (fun y=>q5 y.symm);have kt:bQ H0 H6:=fun x xs e=>R.kp x _ (fun y=>by rw[y,t1]at e;cases e) (fun y=>by rw[y,s0]at e;cases e) (fun y=>by rw[y,R0.hc]at e;cases e) (fun y=>by rw[y,o0]at e;cases e) (fun y=>by rw[y,u0]at e;cases e) (fun y=>by rw[y,e0]at e;cases e) e
 have efx:W.fx= [ch,B.r,B.od,lA,ca,vl]:=by rw[eW];rfl
 have l06:∀x∈W.fx,(∃xs,H6 x=some (.lst xs))/\H0 x≠none:=fun x hx=>by
  rw[efx]at hx;simp only[List.mem_cons,List.not_mem_nil,or_false]at hx
  rcases hx with y|y|y|y|y|y<;>rw[y]
  ·exact⟨⟨_,R.hc⟩,by rw[R0.hc];exact fun y=>by cases y⟩
  ·exact⟨⟨_,r6⟩,by rw[r0];exact fun y=>by cases y⟩
  ·exact⟨⟨_,o6⟩,by rw[o0];exact fun y=>by cases y⟩
  ·exact⟨⟨_,lA6⟩,by rw[hlA];exact fun y=>by cases y⟩
  ·exact⟨⟨_,ca6⟩,by rw[hca];exact fun y=>by cases y⟩
  ·exact⟨⟨_,vl6⟩,by rw[hvl];exact fun y=>by cases y⟩
 have nfx:∀{x:Addr},H0 x=none->x∉W.fx:=fun e hx=>(l06 _ hx).2 e
 have ne0:∀{x y:Addr} {o:HO},H0 x=none->H0 y=some o->x≠y:=fun e e1 z=>by rw[z,e1]at e;cases e
 have k0:H0 B.e=some (.dK B.kvs):=R0.bt.tab.kept
 have O:fU W:=by
  rw[eW]at nfx|-
  exact⟨nd6,fun k hk=>⟨ne0 (R.m0 k hk) R0.hb,ne0 (R.m0 k hk) k0,ne0 (R.m0 k hk) u0,ne0 (R.m0 k hk) e0⟩,R.md,⟨ss.r,ss.o,ss.e,ss.u,ss.m⟩,k1,fun k hk=>a2H (by decide) hk,a0z (i:=0) (by decide) (by decide) (.inl rfl),fun k hk=>a2H (by decide) hk,bx,m5,rfl,fun k hk=>⟨ne0 (R.g0 k hk) s0,ne0 (R.n0 k hk) s0⟩,fun k hk=>⟨nfx (R.g0 k hk),nfx (R.n0 k hk)⟩,hme⟩
 have t26:H6 z2.2=some (eL z2.2 []):=R.kp _ _ (fun y=>n12 y.symm) (fun y=>by rw[y,s0]at t2;cases t2) (fun y=>by rw[y,R0.hc]at t2;cases t2) (fun y=>by rw[y,o0]at t2;cases t2) (fun y=>by rw[y,u0]at t2;cases t2) (fun y=>by rw[y,e0]at t2;cases t2) t2;have py6:=py.keep kt;have pz6:=pz.keep kt;have hrd:∀k,k<4->∃dg,H6 (eQ P w K mg af CG CM W k).gr=some (.ins (eQ P w K mg af CG CM W k).CG dg (eQ P w K mg af CG CM W k).fs):=fun k hk=>by
  obtain⟨dg,e⟩:=R.g k hk;refine⟨dg,?_⟩;unfold eQ;unfold kR iJ at e;rw[eW];by_cases h2:k=2
  ·rw[if_pos h2,if_pos h2]at e
   rw[if_pos h2];exact e
  ·rw[if_neg h2,if_neg h2]at e
   rw[if_neg h2];exact e
 refine⟨O,⟨?_,?_,?_,R.fl,?_,?_,py6,?_⟩⟩
 ·refine⟨fun tb htb=> ?_,R.d1,eJ.nil,fun t c p v ys _ e=>(by cases e),fun x v _ _ e=>(by cases e),fun x v _ _ e=>(by cases e),fun x _ _ _=>rfl,fun x v _ _ e=>(by cases e),R.d2,eJ.nil,fun t c ys' B' g h=> ?_,fun t c ys' q x g e=> ?_,fun t c R' hR=> ?_,fun t c R' hR=> ?_,fun t c R' hR b hb=> ?_,fun t c R' hR p hp=> ?_,fun x R' hx hR=>⟨rfl,fun is v e=>(by cases e)⟩,fun t c R' j hR hj=>False.elim hj,⟨fun y=>(by cases y),fun a e=> ?_⟩,fun h=> .nil,fun b hb y=> ?_,⟨[],t26,fun c hc=>by cases hc⟩⟩
  ·rw[List.mem_singleton.mp htb]
   obtain⟨df,hf⟩:=R.hf;rw[eW];exact⟨⟨df,hf⟩,⟨_,R.hb,rfl⟩,b6,R.d1,by decide⟩
  ·have g1:(bN P w K mg af CG CM W fi fd lk ys ds).gv c=some ys':=(X1.gv_some (Y:=bN P w K mg af CG CM W fi fd lk ys ds) g).2
   obtain⟨rfl,rfl⟩:=tZ g1;obtain⟨_,rfl⟩:=a2l h;exact⟨W.lA,O.k1,by rw[eW];exact lA6⟩
  ·have g1:(bN P w K mg af CG CM W fi fd lk ys ds).gv c=some ys':=(X1.gv_some (Y:=bN P w K mg af CG CM W fi fd lk ys ds) g).2
   obtain⟨rfl,rfl⟩:=tZ g1;obtain⟨rfl,_⟩:=X1.gv_some (Y:=bN P w K mg af CG CM W fi fd lk ys' ds) g;show Pd K H6 x (fE W.me (ds.getD q .none) "a");exact(xN py6 (uI e)).pd
  ·obtain⟨_,k,hk,rfl,rfl⟩:=mF hR
   refine⟨hrd k hk,?_⟩;unfold eQ;split
   ·exact⟨.inr ⟨rfl,rfl⟩,a87 Me⟩
   ·exact⟨.inl ⟨rfl,rfl⟩,a6A Ce⟩
  ·obtain⟨_,k,hk,rfl,rfl⟩:=mF hR
   rw[(fI k).2.2.1,eW];exact⟨R.m k hk,kI.nil⟩
  ·obtain⟨_,k,hk,rfl,rfl⟩:=mF hR
   by_cases h2:k=2
   ·subst h2
    have hb:b∈ [W.gr 2]:=hb;rw[List.mem_singleton.mp hb];obtain⟨dg,e⟩:=hrd 2 hk;rw[(fI 2).1]at e;exact⟨_,e,fun _ y=>(by cases y),fun _ y=>(by cases y),fun _ y=>(by cases y),fun _ y=>(by cases y)⟩
   ·rcases(fI k).2.2.2.2.2.2.2.1 b hb with y|y<;>rw[y]
    ·obtain⟨dg,e⟩:=hrd k hk
     rw[(fI k).1]at e;exact⟨_,e,fun _ y=>(by cases y),fun _ y=>(by cases y),fun _ y=>(by cases y),fun _ y=>(by cases y)⟩
    ·rw[eW]
     exact⟨_,R.n k hk h2,fun _ y=>(by cases y),fun _ y=>(by cases y),fun _ y=>(by cases y),fun _ y=>(by cases y)⟩
  ·obtain⟨rfl,k,hk,rfl,rfl⟩:=mF hR
   rw[show (bN P w K mg af CG CM W fi fd lk ys ds).sx.tree ("t",cn (k+ 1),p)=oU W.me k p from a3o (P:=P) (w:=w) (K:=K) (mg:=mg) (af:=af) (CG:=CG) (CM:=CM) (fi:=fi) (fd:=fd) (lk:=lk) (ys:=ys) (ds:=ds) (by omega)];obtain⟨dg,e⟩:=hrd k hk;have gQ:∀i,i<=4->(bN P w K mg af CG CM W fi fd lk ys ds).sx.Vc ("t",cn i,p):=fun i hi=>⟨rfl,by show cn i∈W.B.ord;rw[O.od];exact List.mem_map.mpr ⟨i,List.mem_range.mpr (by omega),rfl⟩,hp.2.2⟩
   by_cases h2:k=2
   ·subst h2
    have e:H6 (W.gr 2)=some (.ins CM dg (jC W.me (W.fa 2))):=e;obtain⟨i,hi,ei⟩:=O.mn.cn;exact a6h e (by rw[ei];exact gQ i (by omega))
   ·have er:eQ P w K mg af CG CM W k=⟨W.gr k,W.fa k,W.mc k,CG,jB (W.nl k) (W.fa k),[W.gr k,W.nl k],some (.str (cn (k+ 1))),gK k,kM k,qB P w K mg af CG⟩:=if_neg h2
    have et:oU W.me k p=jI "t" (gI k) p:=if_neg h2
    rw[er]at e|-
    rw[et]
    have en:H6 (W.nl k)=some (.lst ((gI k).map V.str)):=by rw[eW];exact R.n k hk h2
    refine a5v e en (jY k).2 (fun z hz=> ?_)
    have:∃i,i<=4/\z=cn i:=by
     rcases iE hk with rfl|rfl|rfl|rfl
     ·exact⟨0,by decide,List.mem_singleton.mp (show z∈ [("a":Str)] from hz)⟩
     ·have hz:z∈ [("a":Str),"b"]:=hz
      simp only[List.mem_cons,List.not_mem_nil,or_false]at hz
      rcases hz with h|h
      ·exact⟨0,by decide,h⟩
      ·exact⟨1,by decide,h⟩
     ·exact absurd rfl h2
     ·exact⟨3,by decide,List.mem_singleton.mp (show z∈ [("m":Str)] from hz)⟩
    obtain⟨i,hi,rfl⟩:=this;exact gQ i hi
  ·have e:some W.ca=some a:=e
   cases e;rw[eW];exact ca6
  ·obtain⟨⟨xs,h⟩,_⟩:=l06 b hb
   rw[h]at y;cases y
 ·rw[eW];exact⟨d6,s6⟩
 ·rw[eW];exact R.hc
 ·rw[eW];exact ly
 ·rw[eW];exact ld
 ·rw[eW];exact⟨_,vl6,pz6⟩
end
section
abbrev Nb:List Str:=["_law_sheet","_law_values","_law_mended","_law_calls"]
theorem a9q:aY Nb Nb (aL gC):={}
inductive zJ(P:Program)(w:World)(K:Fg)(mg:Str->Option Value)(af:Heap)(CS CF CB CT CG CM z1 z2:Addr)(vs:List V)(H:Hp)(Q:VK)(E:XK):Prop
 |mk (s bd ch vl ca:Addr) (me:Str) (zs:List V) (ds:List PyData):vs= [.ref s,.ref vl,.str me,.ref ca] ->gD me->tF CS s bd ch [] [] H->H vl=some (.lst zs)->cQ K H zs ds->(1<=zs.length/\zs.length<=5)->(∀d∈ds,dW d)->H ca=some (.lst [])->ca≠vl->ch≠ca->ch≠vl->H z1=some (eL z1 [])->H z2=some (eL z2 [])->z1≠z2->(∀(H':Hp) (W:cN) (fi fd lk:Addr) (csh:List V),W.s=s->W.vl=vl->W.ca=ca->W.me=me->W.ch=ch->fU W->uC P w K mg af CS CF CB CT CG CM z2 W fi fd lk zs ds csh H'->mI P w K mg af W H'->csh.length<=10->gM zK H' z1->
  (∀b o,H b=some o->b≠s->b≠ch->b≠bd->b≠z1->H' b=some o)->(∀b o,H b=some o->b≠ch->b≠ca->b≠vl->b∉W.fx)->(∀b o,H b=some o->∀k,k<4->b≠W.mc k)->Q .non H')->zJ P w K mg af CS CF CB CT CG CM z1 z2 vs H Q E
theorem a8H(h:gD me):Nl me:=by
 obtain⟨k,hk,rfl⟩:=h.cn;exact kY (by omega)
theorem a8m(T:bA K mg){CE CU CW:Addr}(Y:gR K mg CS)(Fi:fO K mg CF)(Wb:cY K mg CB)(U:dQ K mg CT)(CC:qZ K mg CU)(TT:tX K mg CW)(Ce:kN K mg CG)(Me:kG K mg CM)(Ru:tP K mg CE)(B1:oZ K mg "_law_built" gC z1)(M1:jQ mg af z1.1 z1.2):bD P w K mg af aD 12 "_law_built" Nb (zJ P w K mg af CS CF CB CT CG CM z1.2 z2.2):=by
 have hRL:∀C sp,lE CG CM C sp->cG K C/\aS P w K mg af aD 3 C "leans" ["self","table"] sp:=fun C sp h=>by
  rcases h with⟨rfl,rfl⟩|⟨rfl,rfl⟩
  ·exact⟨Ce.cl,a7J T Ce⟩
  ·exact⟨Me.cl,a8n T Me⟩
 have hRI:∀C sp,lE CG CM C sp->wO K C:=fun C sp h=>by
  rcases h with⟨rfl,rfl⟩|⟨rfl,rfl⟩
  ·exact a6Y Ce
  ·exact a9o Me
 have G_rule:aS P w K mg af aD 9 CS "rule" ["self","table","column","rule"] (nE K CS CF CB CT (lE CG CM)):=a9U T Y Fi Wb U CC hRI hRL;have GI:eO P w K mg af aD 4 CG ["self","names","function"] (a0M K CG):=a99 T Ru Ce;have GM:eO P w K mg af aD 3 CM ["self","name","function"] (zM CM):=a9r T Ru Me;have G_table:aS P w K mg af aD 9 CS "table" ["self","name","many"] (zF CS CF CB CT):=a44 T Y Fi Wb U TT;have G_give:aS P w K mg af aD 9 CS "give" ["self","table","column","values"] (a0a K CS CF CB CT):=a43 T Y Fi Wb U CC;have G_noted:bD P w K mg af aD 1 "_law_noted" wU yE:=a5V T;have G_strange:bD P w K mg af aD 1 "_law_strange" ["_law_one"] (vF K):=a08 T;refine B1.knownN a9q (fun _ _ _ _ _ _ us hl=>kP (fun _ _ _ _=>rfl) us hl) (fun vs H Q E h=> ?_) (fun f A ag s H vs Q E hr h=> ?_)
 ·obtain⟨s',bd,ch,vl,ca,me,zs,ds,rfl,_⟩:=h
  rfl
 ·obtain⟨s',bd,ch,vl,ca,me,zs,ds,rfl,hme,hSh,hvl,pz,m5,sd,hca,ncv,ncc,nchv,t1,t2,n12,q⟩:=h
  have hcl:∀x,(dF aD P w K mg af Nb "_law_built" (aL gC) f (.ref z1.1) A ag s H E).nox.env.scope.names.lookup x=some .cell->∃c,(dF aD P w K mg af Nb "_law_built" (aL gC) f (.ref z1.1) A ag s H E).nox.env.cells.lookup x=some c:=fun x hx=>Option.isSome_iff_exists.mp (W.cellsFrom_some _ _ _ (.inl hx))
  refine⟨_,(sQ (pQ (bW (cF (pv 0) Y.cl G_table hr.mn aO (aA bT (aA (dC jX rfl T.len iR (aA (pv 1) aG)) aG)))))
   (sQ (pQ (bW (cF (pv 0) Y.cl G_give hr.mn aO (aA bT (aA bT (aA (nT sP rfl T.list lD (aA (pv 1) aG)) aG))))))
   (sQ (pQ (bW (cF (pv 0) Y.cl G_rule hr.mn aO (aA bT (aA bT (aA (jE GI hr.mn Ce.c aO (aA (fC (aA bT aG)) (aA (rC M1 rfl (mD (sc:=aL gC) (N:=Nb) (cp:=[(3,"_law_calls")]) hcl).clos rfl) aG))) aG))))))
   (sQ (pQ (bW (cF (pv 0) Y.cl G_rule hr.mn aO (aA bT (aA bT (aA (jE GI hr.mn Ce.c aO (aA (fC (aA bT (aA bT aG))) (aA (rC M1 rfl (mD (sc:=aL gC) (N:=Nb) (cp:=[(3,"_law_calls")]) hcl).clos rfl) aG))) aG))))))
   (sQ (pQ (bW (cF (pv 0) Y.cl G_rule hr.mn aO (aA bT (aA bT (aA (jE GM hr.mn Me.c aO (aA (pv 2) (aA (rC M1 rfl (mD (sc:=aL gC) (N:=Nb) (cp:=[(3,"_law_calls")]) hcl).clos rfl) aG))) aG))))))
   (a9I (pQ (bW (cF (pv 0) Y.cl G_rule hr.mn aO (aA bT (aA bT (aA (jE GI hr.mn Ce.c aO (aA (fC (aA bT aG)) (aA (rC M1 rfl (mD (sc:=aL gC) (N:=Nb) (cp:=[(3,"_law_calls")]) hcl).clos rfl) aG))) aG)))))))))))),?_⟩
  obtain⟨⟨dSh,fi0,g1⟩,g3,g2⟩:=hSh;refine⟨_,rfl,s',dSh,_,rfl,g1,fN,_,rfl,_,_,rfl,.inl ⟨_,aM.of hvl,rfl⟩,s',bd,ch,[],[],"t",zs.length,rfl,⟨⟨dSh,fi0,g1⟩,g3,g2⟩,by decide,by decide,fM.1,rfl,by omega,fun H3 fi' fd2 lk' c1 b g r e ru me' od Fr3 hB3 sp3 fr3 u3=> ?_⟩;obtain⟨⟨dS3,sS3⟩,ch3,bd3,_⟩:=Fr3;have n2:∀{x y:Addr} {o:HO},y∈ [b,g,r,e,ru,me',od] ->H x=some o->x≠y:=fun hy ex z=>by rw[z,fr3 _ hy]at ex;cases ex
  have k3:∀{x:Addr} {o:HO},H x=some o->x≠s'->x≠ch->x≠bd->H3 x=some o:=fun e a1 a2 a3=>u3 _ _ a1 a2 a3 e
  have lis:∀{x:Addr} {xs:List V},H x=some (.lst xs)->x≠s'/\x≠bd:=fun e=>⟨fun y=>(by rw[y,g1]at e;cases e),fun y=>(by rw[y,g2]at e;cases e)⟩
  have vl3:H3 vl=some (.lst zs):=k3 hvl (lis hvl).1 (fun y=>nchv y.symm) (lis hvl).2;have ca3:H3 ca=some (.lst []):=k3 hca (lis hca).1 (fun y=>ncc y.symm) (lis hca).2;have kt3:bQ H H3:=fun x xs e=>k3 e (fun y=>by rw[y,g1]at e;cases e) (fun y=>by rw[y,g3]at e;cases e) (fun y=>by rw[y,g2]at e;cases e)
  have t13:H3 z1.2=some (eL z1.2 []):=k3 t1 (fun y=>by rw[y,g1]at t1;cases t1) (fun y=>by rw[y,g3]at t1;cases t1) (fun y=>by rw[y,g2]at t1;cases t1);have t23:H3 z2.2=some (eL z2.2 []):=k3 t2 (fun y=>by rw[y,g1]at t2;cases t2) (fun y=>by rw[y,g3]at t2;cases t2) (fun y=>by rw[y,g2]at t2;cases t2);refine⟨_,rfl,s',dS3,_,rfl,sS3,fN,_,rfl,vl,_,rfl,.inl (aM.of vl3),fun hd hhd=> ?_⟩;have s35:=aF.new (o:=.lst zs) hhd;have hd5:upd H3 hd (.lst zs) hd=some (.lst zs):=aI
  generalize upd H3 hd (.lst zs)=H5 at s35 hd5|-
  have hB5:=hB3.same s35;have od3:H3 od=some (.lst (([]:List Str).map V.str)):=hB3.ord;have r3:H3 r=some (.lst (eY 0 zs.length)):=hB3.tab.rows;have e3:H3 e=some (.dK []):=hB3.tab.kept;have nhd:hd≠od:=fun y=>by rw[y,od3]at hhd;cases hhd
  have ss3:nG bd ch ⟨b,g,r,e,ru,me',od,eY 0 zs.length,(zs.length:Int),[],[],[],[]⟩:=⟨n2 (by simp) g3,n2 (by simp) g3,n2 (by simp) g2,n2 (by simp) g2,n2 (by simp) g2⟩;have pz5:=cQ.keep (bQ.of s35) (cQ.keep kt3 pz);refine⟨s',bd,ch,hd,[.ref c1],[((.inr "t":aB),V.ref b)],"t","a",zs,ds,⟨b,g,r,e,ru,me',od,eY 0 zs.length,(zs.length:Int),[],[],[],[]⟩,rfl,⟨⟨dS3,fi',s35 _ _ sS3⟩,s35 _ _ ch3,s35 _ _ bd3⟩,(show 1<900 by decide),fM.1,rfl,hB5,sp3,ss3,⟨rfl,fun h=>by cases h⟩,kY (k:=0) (by decide),hd5,nhd,pz5,by show zs.length=(eY 0 zs.length).length;rw[pV],by omega,(show 0<8 by decide),(show 0<8 by decide),fun H6 fi5 fd5 lk5 c5 lA Fr5 hlA hB6 lA6 u5=> ?_⟩;obtain⟨⟨dS6,sS6⟩,ch6,bd6,hf6,fd6,lk6,fl6,_⟩:=Fr5;have k6:∀{x:Addr} {o:HO},H3 x=some o->x≠s'->x≠ch->x≠od->x≠e->H6 x=some o:=fun ex a1 a2 a3 a4=>u5 _ _ a1 a2 a3 a4 (s35 _ _ ex)
  have lAne:∀{x:Addr} {o:HO},H3 x=some o->lA≠x:=fun ex y=>by rw[y,s35 _ _ ex]at hlA;cases hlA
  have vl6:H6 vl=some (.lst zs):=k6 vl3 (lis hvl).1 (fun y=>nchv y.symm) (n2 (by simp) hvl) (n2 (by simp) hvl);have ca6:H6 ca=some (.lst []):=k6 ca3 (lis hca).1 (fun y=>ncc y.symm) (n2 (by simp) hca) (n2 (by simp) hca);have o6:H6 od=some (.lst [.str "a"]):=hB6.ord;have u6:H6 ru=some (.dK []):=hB6.rul;have m6:H6 me'=some (.dK []):=hB6.mem;have r6:H6 r=some (.lst (eY 0 zs.length)):=hB6.tab.rows
  let B:BM:=⟨b,g,r,e,ru,me',od,eY 0 zs.length,(zs.length:Int),aR [] (.inr "a":aB) (.ref lA),[],[],["a"]⟩
  have sp:B.sep:=⟨sp3.ro,sp3.eu,sp3.em,sp3.um⟩;have ss:nG bd ch B:=⟨ss3.r,ss3.o,ss3.e,ss3.u,ss3.m⟩;have ext6:∀{x:Addr},H3 x=some (eL x [])->H x=some (eL x [])->H6 x=some (eL x []):=fun{x} ex e0=>k6 ex (fun y=>by rw[y,g1]at e0;cases e0) (fun y=>by rw[y,g3]at e0;cases e0) (n2 (by simp) e0) (n2 (by simp) e0)
  have t16:=ext6 t13 t1;have t26:=ext6 t23 t2;obtain⟨df6,hf6⟩:=hf6
  have R0:hZ CS CF CB CT CG CM z1.2 s' ch bd B me H6 0 (fun _=>s') (fun _=>s') (fun _=>s') (fun _=>s') fi5 fd5 lk5 ([.ref c1] ++ [.ref c5]) H6:=by
   refine⟨⟨dS6,sS6⟩,ch6,bd6,⟨df6,hf6⟩,fd6,lk6,fl6,hB6,fun k h=>by{omega},fun k h=>by{omega},fun k h=>by{omega},fun i k h=>by{omega},fun k h=>by{omega},fun k h=>by{omega},fun k h=>by{omega},⟨[],t16,fun c hc=>by cases hc⟩,fun x o _ _ _ _ _ _ ex=>ex,fun x hx=> ?_,rfl⟩;have hx:x∈ [s',ch,od,ru,me']:=hx;simp only[List.mem_cons,List.not_mem_nil,or_false]at hx
   rcases hx with y|y|y|y|y<;>rw[y]
   ·rw[sS6];exact fun y=>by cases y
   ·rw[ch6];exact fun y=>by cases y
   ·rw[o6];exact fun y=>by cases y
   ·rw[u6];exact fun y=>by cases y
   ·rw[m6];exact fun y=>by cases y
  obtain⟨dSq0,sSq0⟩:=R0.sh;obtain⟨_,tz0,_⟩:=id R0.tb;refine⟨_,rfl,s',dSq0,_,rfl,sSq0,fN,sl,fun l0 hl0=> ?_⟩;have sa0:=aF.new (o:=.lst [.str ("a":Str)]) hl0;have caq0:=aI (H:=H6) (a:=l0) (o:=.lst [.str ("a":Str)])
  generalize upd H6 l0 (.lst [.str ("a":Str)])=Ha0 at sa0 caq0|-
  refine⟨lT sa0 R0.tb,fun fa0 HA0 hfa0 sA0 tA0 la0=> ?_⟩;intro gq0 dg0 hg0 hdg0 neg0;have uA0:pY z1.2 H6 HA0:=fun b o n e=>sA0 b o n (sa0 _ _ e)
  have RA0:=R0.go uA0 tA0;have lA0:HA0 l0=some (.lst ((gI 0).map V.str)):=sA0 _ _ (fun y=>by rw[y,sa0 _ _ tz0]at caq0;cases caq0) caq0;refine⟨gq0,dg0,l0,fa0,gI 0,rfl,aI,aM.of ?_,aX lA0 hg0,(jY 0).2,(jY 0).1,fun HB0 nq0 bB0 hn0 gB0 nB0=>⟨rfl,?_⟩⟩
  ·rw[aH (aX lA0 hg0),aH (aX lA0 hdg0)]
   exact lA0
  have hN0:HA0 nq0=none:=(iC (iC hn0).1).1;have sB0:aF HA0 HB0:=fun x o ex=>bB0 _ _ (aX ex hg0) (by rw[aH (aX ex hg0),aH (aX ex hdg0)];exact ex)
  have RB0:=RA0.go (fun b o _ e=>sB0 _ _ e) (lT sB0 tA0);dsimp only[jU,List.cons_append,List.nil_append,List.append_nil];show nE K CS CF CB CT (lE CG CM) [.ref s',.str "t",.str (cn (0+ 1)),.ref gq0] HB0 _ E0;refine RB0.rule (by decide) hme sp ss (f:=fa0) gB0 (fun _=>nB0) (RA0.dn hg0) (RA0.dn hN0) fun H09 fi09 fd09 lk09 m09 csh09 R09 k09=> ?_
  have kl0:cD HA0 H09:=fun b u e=>k09 _ _ (sB0 _ _ e)
  have kz0:cD H6 H09:=fun b u e=>kl0 _ _ (uA0 _ _ (fun y=>by rw[y,tz0]at e;cases e) e)
  obtain⟨dSq1,sSq1⟩:=R09.sh;obtain⟨_,tz1,_⟩:=id R09.tb;refine⟨_,rfl,s',dSq1,_,rfl,sSq1,fN,sl,fun l1 hl1=> ?_⟩;have sa1:=aF.new (o:=.lst [.str ("a":Str),.str ("b":Str)]) hl1;have caq1:=aI (H:=H09) (a:=l1) (o:=.lst [.str ("a":Str),.str ("b":Str)])
  generalize upd H09 l1 (.lst [.str ("a":Str),.str ("b":Str)])=Ha1 at sa1 caq1|-
  refine⟨lT sa1 R09.tb,fun fa1 HA1 hfa1 sA1 tA1 la1=> ?_⟩;intro gq1 dg1 hg1 hdg1 neg1;have uA1:pY z1.2 H09 HA1:=fun b o n e=>sA1 b o n (sa1 _ _ e)
  have RA1:=R09.go uA1 tA1;have lA1:HA1 l1=some (.lst ((gI 1).map V.str)):=sA1 _ _ (fun y=>by rw[y,sa1 _ _ tz1]at caq1;cases caq1) caq1;refine⟨gq1,dg1,l1,fa1,gI 1,rfl,aI,aM.of ?_,aX lA1 hg1,(jY 1).2,(jY 1).1,fun HB1 nq1 bB1 hn1 gB1 nB1=>⟨rfl,?_⟩⟩
  ·rw[aH (aX lA1 hg1),aH (aX lA1 hdg1)]
   exact lA1
  have hN1:HA1 nq1=none:=(iC (iC hn1).1).1;have sB1:aF HA1 HB1:=fun x o ex=>bB1 _ _ (aX ex hg1) (by rw[aH (aX ex hg1),aH (aX ex hdg1)];exact ex)
  have RB1:=RA1.go (fun b o _ e=>sB1 _ _ e) (lT sB1 tA1);dsimp only[jU,List.cons_append,List.nil_append,List.append_nil];show nE K CS CF CB CT (lE CG CM) [.ref s',.str "t",.str (cn (1+ 1)),.ref gq1] HB1 _ E0;refine RB1.rule (by decide) hme sp ss (f:=fa1) gB1 (fun _=>nB1) (RA1.dn hg1) (RA1.dn hN1) fun H19 fi19 fd19 lk19 m19 csh19 R19 k19=> ?_
  have kl1:cD HA1 H19:=fun b u e=>k19 _ _ (sB1 _ _ e)
  have kz1:cD H09 H19:=fun b u e=>kl1 _ _ (uA1 _ _ (fun y=>by rw[y,tz1]at e;cases e) e)
  obtain⟨dSq2,sSq2⟩:=R19.sh;obtain⟨_,tz2,_⟩:=id R19.tb;refine⟨_,rfl,s',dSq2,_,rfl,sSq2,fN,_,rfl,R19.tb,fun fa2 HA2 hfa2 sA2 tA2 la2=> ?_⟩;intro gq2 dg2 hg2 hdg2 neg2;have RA2:=R19.go sA2 tA2;refine⟨gq2,dg2,fa2,me,rfl,aI,a8H hme,fun HB2 bB2 gB2=>⟨rfl,?_⟩⟩;have sB2:aF HA2 HB2:=fun x o ex=>bB2 _ _ (aX ex hg2) (by rw[aH (aX ex hg2),aH (aX ex hdg2)];exact ex)
  have RB2:=RA2.go (fun b o _ e=>sB2 _ _ e) (lT sB2 tA2);dsimp only[jU,List.cons_append,List.nil_append,List.append_nil];show nE K CS CF CB CT (lE CG CM) [.ref s',.str "t",.str (cn (2+ 1)),.ref gq2] HB2 _ E0;refine RB2.rule (n:=gq2) (by decide) hme sp ss (f:=fa2) gB2 (fun h=>absurd rfl h) (RA2.dn hg2) (RA2.dn hg2) fun H29 fi29 fd29 lk29 m29 csh29 R29 k29=> ?_
  have kl2:cD HA2 H29:=fun b u e=>k29 _ _ (sB2 _ _ e)
  have kz2:cD H19 H29:=fun b u e=>kl2 _ _ (sA2 _ _ (fun y=>by rw[y,tz2]at e;cases e) e)
  obtain⟨dSq3,sSq3⟩:=R29.sh;obtain⟨_,tz3,_⟩:=id R29.tb;refine⟨_,rfl,s',dSq3,_,rfl,sSq3,fN,sl,fun l3 hl3=> ?_⟩;have sa3:=aF.new (o:=.lst [.str ("m":Str)]) hl3;have caq3:=aI (H:=H29) (a:=l3) (o:=.lst [.str ("m":Str)])
  generalize upd H29 l3 (.lst [.str ("m":Str)])=Ha3 at sa3 caq3|-
  refine⟨lT sa3 R29.tb,fun fa3 HA3 hfa3 sA3 tA3 la3=> ?_⟩;intro gq3 dg3 hg3 hdg3 neg3;have uA3:pY z1.2 H29 HA3:=fun b o n e=>sA3 b o n (sa3 _ _ e)
  have RA3:=R29.go uA3 tA3;have lA3:HA3 l3=some (.lst ((gI 3).map V.str)):=sA3 _ _ (fun y=>by rw[y,sa3 _ _ tz3]at caq3;cases caq3) caq3;refine⟨gq3,dg3,l3,fa3,gI 3,rfl,aI,aM.of ?_,aX lA3 hg3,(jY 3).2,(jY 3).1,fun HB3 nq3 bB3 hn3 gB3 nB3=>⟨rfl,?_⟩⟩
  ·rw[aH (aX lA3 hg3),aH (aX lA3 hdg3)]
   exact lA3
  have hN3:HA3 nq3=none:=(iC (iC hn3).1).1;have sB3:aF HA3 HB3:=fun x o ex=>bB3 _ _ (aX ex hg3) (by rw[aH (aX ex hg3),aH (aX ex hdg3)];exact ex)
  have RB3:=RA3.go (fun b o _ e=>sB3 _ _ e) (lT sB3 tA3);dsimp only[jU,List.cons_append,List.nil_append,List.append_nil];show nE K CS CF CB CT (lE CG CM) [.ref s',.str "t",.str (cn (3+ 1)),.ref gq3] HB3 _ E0;refine RB3.rule (by decide) hme sp ss (f:=fa3) gB3 (fun _=>nB3) (RA3.dn hg3) (RA3.dn hN3) fun H39 fi39 fd39 lk39 m39 csh39 R39 k39=> ?_
  have kl3:cD HA3 H39:=fun b u e=>k39 _ _ (sB3 _ _ e)
  have kz3:cD H29 H39:=fun b u e=>kl3 _ _ (uA3 _ _ (fun y=>by rw[y,tz3]at e;cases e) e)
  intro gl L;have sL:=b0m L
  have nd6:[ch,B.r,B.od,lA,ca,vl].Nodup:=by
   show [ch,r,od,lA,ca,vl].Nodup;simp only[List.nodup_cons,List.mem_cons,List.not_mem_nil,or_false,not_or];exact⟨⟨ss.r,ss.o,(lAne ch3).symm,ncc,nchv⟩,⟨sp.ro,(lAne r3).symm,(n2 (by simp) hca).symm,(n2 (by simp) hvl).symm⟩,⟨(lAne od3).symm,(n2 (by simp) hca).symm,(n2 (by simp) hvl).symm⟩,⟨lAne ca3,lAne vl3⟩,ncv,not_false,List.nodup_nil⟩
  have k1:aE B.kvs (.inr "a":aB)=some (.ref lA):=by
   show aE (aR [] (.inr "a":aB) (.ref lA)) (.inr "a":aB)=_;rw[gA,if_pos rfl]
  have kt6:bQ H3 H6:=fun x xs ex=>k6 ex (fun y=>by rw[y,sS3]at ex;cases ex) (fun y=>by rw[y,ch3]at ex;cases ex) (fun y=>by rw[y,od3]at ex;cases ex) (fun y=>by rw[y,e3]at ex;cases ex)
  have pz6:=cQ.keep kt6 (cQ.keep kt3 pz);obtain⟨O,M⟩:=a8t (P:=P) (w:=w) (K:=K) (mg:=mg) (af:=af) (z1:=z1) (z2:=z2) (ca:=ca) (vl:=vl) (lA:=lA) (m:=zs.length) Ce Me n12 R0 R39 hme m5 ss nd6 k1 rfl lA6 ca6 vl6 pz6 pz6 rfl (Paired.length pz).symm sd t16 t26 rfl;have kb:∀{x:Addr} {o:HO},H x=some o->x≠s'->x≠ch->x≠bd->H6 x=some o:=fun ex a1 a2 a3=>k6 (k3 ex a1 a2 a3) a1 a2 (n2 (by simp) ex) (n2 (by simp) ex)
  have h06:∀{x:Addr} {o:HO},H x=some o->H6 x≠none:=fun{x o} ex y=>by
   by_cases a1:x=s'
   ·rw[a1,sS6]at y;cases y
   ·by_cases a2:x=ch
    ·rw[a2,ch6]at y;cases y
    ·by_cases a3:x=bd
     ·rw[a3,bd6]at y;cases y
     ·rw[kb ex a1 a2 a3]at y;cases y
  refine q (dE gl H39) _ fi39 fd39 lk39 csh39 rfl rfl rfl rfl rfl O (M.same sL) ?_ (by have:=R39.lc;omega) (lT sL R39.tb) (fun x o ex a1 a2 a3 a4=>sL _ _ (R39.kp x o a4 a1 a2 (n2 (y:=od) (by simp) ex) (n2 (y:=ru) (by simp) ex) (n2 (y:=me') (by simp) ex) (kb ex a1 a2 a3))) (fun x o ex a1 a2 a3 hm=> ?_) (fun x o ex k hk y=> ?_)
  ·intro k hk
   rcases iE hk with rfl|rfl|rfl|rfl
   ·refine yA (k:=3) (by decide) L.free (iL (fun b u e=>kz3 _ _ (kz2 _ _ (kz1 _ _ (kl0 _ _ e)))) la0) ?_
    refine rP (X:=(dF aD P w K mg af Nb "_law_built" (aL gC) f (.ref z1.1) A ag s H E).nox) (sc:=aL gC) (N:=Nb) (ps:=["_law_xs"]) (cp:=[(3,"_law_calls")]) (cv:=[.ref ca]) (k:=2) (spB:=uE K ca (.str "b") (gK 0) (kM 0)) (iL (fun b u e=>kz3 _ _ (kz2 _ _ (kz1 _ _ (kl0 _ _ e)))) la0) L hcl rfl (fun _ _ _ _ us hl=>eU (fun _=>rfl) us hl) (fun cd A' outer' s' H' vs Q' hr' h'=> ?_);obtain⟨l,is,cs,rfl,hl,hca',c9',⟨n,hn,rfl⟩,ncl,q'⟩:=h';exact⟨_,bK G_noted (hr'.mono (by decide)) aO (aA (pv 1) (aA bT (aA (pv 0) (aA (bK G_strange (hr'.mono (by decide)) aO (aA (cW jR (pv 0) bB (fun _ _=>rfl)) aG)) aG)))),_,rfl,_,rfl,_,rfl,l,_,_,_,rfl,rfl,aM.of hl,rfl,n,rfl,hn,fun H1 v s1 dv _=>⟨ca,l,"b",v,[(n:Int)],cs,rfl,s1 _ _ hl,s1 _ _ hca',c9',fun H2 tp lc b2 hlc c2 t2 l2=>q' H2 v tp lc ((bC.of s1).trans b2) (gU s1 hlc) c2 t2 l2 (dv H2 fun b o hb e=>b2 _ _ (fun y=>by rw[y,hca']at hb;cases hb) e)⟩⟩
   ·refine yA (k:=3) (by decide) L.free (iL (fun b u e=>kz3 _ _ (kz2 _ _ (kl1 _ _ e))) la1) ?_
    refine rP (X:=(dF aD P w K mg af Nb "_law_built" (aL gC) f (.ref z1.1) A ag s H E).nox) (sc:=aL gC) (N:=Nb) (ps:=["_law_ys"]) (cp:=[(3,"_law_calls")]) (cv:=[.ref ca]) (k:=2) (spB:=uE K ca (.str "c") (gK 1) (kM 1)) (iL (fun b u e=>kz3 _ _ (kz2 _ _ (kl1 _ _ e))) la1) L hcl rfl (fun _ _ _ _ us hl=>eU (fun _=>rfl) us hl) (fun cd A' outer' s' H' vs Q' hr' h'=> ?_);obtain⟨l,is,cs,rfl,hl,hca',c9',⟨n,b,hn,rfl⟩,ncl,q'⟩:=h';exact⟨_,bK G_noted (hr'.mono (by decide)) aO (aA (pv 1) (aA bT (aA (pv 0) (aA (bZ tI (cW jR (pv 0) bB (fun _ _=>rfl)) (bZ fR (cW jR (pv 0) bB (fun _ _=>rfl)) bB)) aG)))),_,rfl,_,rfl,_,rfl,l,_,_,_,rfl,rfl,aM.of hl,rfl,_,rfl,l,_,_,_,rfl,rfl,aM.of hl,rfl,_,_,rfl,rfl,(show(0:Int)<3 by decide),_,_,rfl,rfl,ca,l,"c",_,[(n:Int),b],cs,rfl,hl,hca',c9',fun H2 tp lc b2 hlc c2 t2 l2=>q' H2 _ tp lc b2 hlc c2 t2 l2 (.int _)⟩
   ·refine yA (k:=3) (by decide) L.free (iL (fun b u e=>kz3 _ _ (kl2 _ _ e)) la2) ?_
    refine rP (X:=(dF aD P w K mg af Nb "_law_built" (aL gC) f (.ref z1.1) A ag s H E).nox) (sc:=aL gC) (N:=Nb) (ps:=["_law_zs"]) (cp:=[(3,"_law_calls")]) (cv:=[.ref ca]) (k:=2) (spB:=uE K ca (.str "m") (gK 2) (kM 2)) (iL (fun b u e=>kz3 _ _ (kl2 _ _ e)) la2) L hcl rfl (fun _ _ _ _ us hl=>eU (fun _=>rfl) us hl) (fun cd A' outer' s' H' vs Q' hr' h'=> ?_);obtain⟨l,is,cs,rfl,hl,hca',c9',ok',ncl,q'⟩:=h';exact⟨_,bK G_noted (hr'.mono (by decide)) aO (aA (pv 1) (aA bT (aA (pv 0) (aA bB aG)))),_,rfl,_,rfl,ca,l,"m",_,is,cs,rfl,hl,hca',c9',fun H2 tp lc b2 hlc c2 t2 l2=>q' H2 _ tp lc b2 hlc c2 t2 l2 (.int _)⟩
   ·refine yA (k:=3) (by decide) L.free (iL kl3 la3) ?_
    refine rP (X:=(dF aD P w K mg af Nb "_law_built" (aL gC) f (.ref z1.1) A ag s H E).nox) (sc:=aL gC) (N:=Nb) (ps:=["_law_ws"]) (cp:=[(3,"_law_calls")]) (cv:=[.ref ca]) (k:=2) (spB:=uE K ca (.str "n") (gK 3) (kM 3)) (iL kl3 la3) L hcl rfl (fun _ _ _ _ us hl=>eU (fun _=>rfl) us hl) (fun cd A' outer' s' H' vs Q' hr' h'=> ?_);obtain⟨l,is,cs,rfl,hl,hca',c9',⟨x,rfl⟩,ncl,q'⟩:=h';exact⟨_,bK G_noted (hr'.mono (by decide)) aO (aA (pv 1) (aA bT (aA (pv 0) (aA (bZ fR (cW jR (pv 0) bB (fun _ _=>rfl)) bB) aG)))),_,rfl,_,rfl,_,rfl,l,_,_,_,rfl,rfl,aM.of hl,rfl,_,_,rfl,rfl,(show(0:Int)<7 by decide),ca,l,"n",_,[x],cs,rfl,hl,hca',c9',fun H2 tp lc b2 hlc c2 t2 l2=>q' H2 _ tp lc b2 hlc c2 t2 l2 (.int _)⟩
  ·have hm:x∈ [ch,r,od,lA,ca,vl]:=hm
   simp only[List.mem_cons,List.not_mem_nil,or_false]at hm
   rcases hm with y|y|y|y|y|y
   ·exact a1 y
   ·exact n2 (by simp) ex y
   ·exact n2 (by simp) ex y
   ·by_cases b1:x=s'
    ·exact lAne sS3 (y.symm.trans b1)
    ·by_cases b3:x=bd
     ·exact lAne bd3 (y.symm.trans b3)
     ·exact lAne (k3 ex b1 a1 b3) y.symm
   ·exact a2 y
   ·exact a3 y
  ·exact h06 ex (by rw[y];exact R39.m0 k hk)
end
noncomputable def qG (H:Hp) (L:List Addr):Hp:=fun x=>if x∈L then none else match H x with
 |some (.dT _)=>none
 |o=>o
theorem xY{L:List Addr}{x:Addr}(h:qG H L x=some o):x∉L/\(∀y,o≠ .dT y)/\H x=some o:=by
 unfold qG at h;split at h
 ·cases h
 ·next n=>
  split at h
  ·cases h
  ·next e=>
   refine⟨n,fun y z=> ?_,h⟩;subst z;exact e y h
theorem a1y{L:List Addr}{x:Addr}(h:H x=some o)(n:x∉L)(nd:∀y,o≠ .dT y):qG H L x=some o:=by
 unfold qG;rw[if_neg n,h];split
 ·next e=>exact absurd (Option.some.inj e) (nd _)
 ·rfl
theorem a8A(u:Nat)(h:u<3):∃ch,cL ("abc":Str).cps.toList (u:Int)=some ch/\gD ⟨#[ch]⟩:=by
 rcases(lt3 (n:=u))with rfl|rfl|rfl
 ·exact⟨_,rfl,.inl rfl⟩
 ·exact⟨_,rfl,.inr (.inl rfl)⟩
 ·exact⟨_,rfl,.inr (.inr rfl)⟩
section
inductive zA(K:Fg)(tabs:List (Addr×Addr))(vs:List V)(H:Hp)(Q:VK)(E:XK):Prop
 |mk (a:Addr) (ns:List Int):vs= [.ref a] ->aM K H a (ns.map V.int)->ns.length<=63->uN tabs H->(∀H',tK tabs H'->Q (.bl true) H')->zA K tabs vs H Q E
theorem a92(T:bA K mg)(B1:oZ K mg "_law_built" gC z1)(M1:jQ mg af z1.1 z1.2)(B2:kO K mg "Finder" "gathered" "Finder.gathered" iI z2)(M2:jQ mg af z2.1 z2.2)(n12:z1.2≠z2.2){fd:FuncData}(F:lM K "law" "law" lR f fd):fT P w K mg af aD 18 f fd ["_law_script"] (zA K [z1,z2]):=by
 obtain⟨CS,Y⟩:=T.t_Sheet;obtain⟨CF,Fi⟩:=T.t_Finder;obtain⟨CB,Wb⟩:=T.t_Board;obtain⟨CT,U⟩:=T.t_Table;obtain⟨CG,Ce⟩:=T.t_Cells;obtain⟨CM,Me⟩:=T.t_Mend;obtain⟨CE,Ru⟩:=T.t_Rule;obtain⟨CR,R⟩:=T.t_Trial;obtain⟨CV,VP⟩:=T.t_ValuePut;obtain⟨CU,CC⟩:=T.t_ColumnSet;obtain⟨CW,TT⟩:=T.t_TableTold;have G_mixed:bD P w K mg af aD 1 "_law_mixed" ["_law_script","_law_k"] (rO K):=a0U T;have G_value:bD P w K mg af aD 1 "_law_value" ["_law_cell_here"] (rX K):=a2Z T;have GS:eO P w K mg af aD 3 CS ["self"] (spSI CS CF):=a9d T Y Fi;have G_built:bD P w K mg af aD 12 "_law_built" Nb (zJ P w K mg af CS CF CB CT CG CM z1.2 z2.2):=a8m T Y Fi Wb U CC TT Ce Me Ru B1 M1;refine F.ok jS (fun vs H Q E h=> ?_) (fun ah A ag s H vs Q E hr h=> ?_)
 ·obtain⟨a,ns,rfl,_⟩:=h
  rfl
 ·obtain⟨a,sc,rfl,hS,hl,hT,q⟩:=h
  have hcl:∀x,(uX P w K mg af f ah A ag s H E).env.scope.names.lookup x=some .cell->∃c,(uX P w K mg af f ah A ag s H E).env.cells.lookup x=some c:=fun x hx=>Option.isSome_iff_exists.mp (PySem.W.cellsFrom_some _ _ _ (.inl hx))
  obtain⟨tE,hE,qE⟩:=a7Z (P:=P) (w:=w) T Y R Fi Wb U Ce Me VP (z1:=z1) B2 M2 (f:=f) (ah:=ah) A ag s H Q E hr q
  refine⟨_,(aJ (a7D (te:=uG (rX K) [] E0 (lQ (uG (rO K) [] E0 (lQ (uW 1) (lQ (rG _ (tC (.int 10)) (uW 0)) jU))) jU)) (i:=1) jS.nd rfl rfl (mD (sc:=aL lR) (N:=Nlaw) (cp:=[(0,"_law_script")]) hcl) rfl rfl (by decide) (a3Q rfl T.range (aA (bZ kW bB (bZ fR (bK G_mixed hr.mn aO (aA (pv 0) (aA bB aG))) bB)) aG)) (fun _ _ _ _ _=>rZ) (fun _ _ _ _ _=>(bK G_value hr.mn aO (aA (bK G_mixed hr.mn aO (aA (pv 1) (aA (bZ kW bB (pv 0)) aG))) aG))) rfl)
   (aJ (cA (i:=2) jS.nd rfl ad (cW a10 bT (bZ fR (bK G_mixed hr.mn aO (aA (pv 0) (aA bB aG))) bB) (fun _ _=>rfl)))
   (aJ (cA (i:=3) jS.nd rfl ad (fC aG))
   (aJ (cA (i:=4) jS.nd rfl ad (a52 GS hr.mn Y.c aO))
   (aJ (bW (bK G_built hr.mn aO (aA (pv 4) (aA (pv 1) (aA (pv 2) (aA (pv 3) aG))))))
   (aJ (cA (i:=5) jS.nd rfl ad pJ)
   hE)))))),?_⟩
  have t1:H z1.2=some (eL z1.2 []):=hT _ (by simp);have t2:H z2.2=some (eL z2.2 []):=hT _ (by simp);refine⟨_,rfl,a,sc,_,rfl,hS,hl,by decide,by decide,fun m1 h1 h2=>⟨_,_,rfl,rfl,(show(0:Int)<5 by decide),_,_,rfl,rfl,?_⟩⟩;have e1:=Int.emod_nonneg m1 (show(5:Int)≠0 by decide);have e2:=Int.emod_lt_of_pos m1 (show(0:Int)<5 by decide);obtain⟨m,em⟩:∃m:Nat,1+ m1% 5=(m:Int):=⟨(1+ m1% 5).toNat,by omega⟩
  have m5:1<=m/\m<=5:=by omega
  refine⟨_,rfl,by omega,by omega,fun vl hvl=> ?_⟩;rw[em,Int.toNat_natCast];refine a5g (lo:=0) (n:=m) (fun i ys Hi=>aF H Hi/\ys.length=i/\∃ds,cQ K Hi ys ds/\∀d∈ds,dW d) ⟨aF.new hvl,rfl,[],.nil,fun d hd=>(by cases hd)⟩ ?_ ?_
  ·rintro i ys Hi hi hiD ⟨si,li,ds,py,sd⟩
   refine⟨_,rfl,_,rfl,_,_,rfl,rfl,a,sc,_,rfl,si.seq hS,hl,by omega,by omega,fun m2 h3 h4=>⟨m2,rfl,fun Hj v d sj hG hv=> ?_⟩⟩;have hjD:=sj _ _ hiD;have kt:bQ Hj (upd Hj vl (.lst (ys++ [v]))):=bQ.upd hjD nk;refine⟨hjD,eD (by omega),(si.trans sj).on hvl,by rw[List.length_append,li];rfl,ds++ [d],Paired.snoc (hv.keep kt) (cQ.keep kt (cQ.keep (bQ.of sj) py)),fun x hx=> ?_⟩
   rcases List.mem_append.mp hx with hx|hx
   ·exact sd x hx
   ·rw[List.mem_singleton.mp hx];exact hG
  rintro zs H1 vl1 ⟨s1,lz,ds,pz,sd⟩;refine⟨_,rfl,a,sc,_,rfl,s1.seq hS,hl,by decide,by decide,fun m2 h3 h4=>⟨_,_,rfl,rfl,(show(0:Int)<3 by decide),?_⟩⟩;have f1:=Int.emod_nonneg m2 (show(3:Int)≠0 by decide);have f2:=Int.emod_lt_of_pos m2 (show(0:Int)<3 by decide);obtain⟨u,eu⟩:∃u:Nat,m2% 3=(u:Int):=⟨(m2% 3).toNat,by omega⟩;obtain⟨chh,hch,hme⟩:=a8A u (by omega);refine⟨"abc",_,chh,rfl,rfl,by decide+kernel,by{rw[eu];exact hch},?_⟩
  generalize (⟨#[chh]⟩:Str)=me at hme|-
  refine⟨sl,fun ca hca=> ?_⟩;have s2:=aF.new (o:=.lst []) hca;have c2:upd H1 ca (.lst []) ca=some (.lst []):=aI
  generalize upd H1 ca (.lst [])=H2 at s2 c2|-
  have s02:=s1.trans s2;intro s' dSh hs hds ne;refine⟨s',dSh,rfl,aI,fun H3 bd ch fi0 fd0 lk0 df fr nfl g1 g2 g3 g4 g5 g6 b1=>⟨rfl,?_⟩⟩;have s3:aF H2 H3:=fun x o e=>b1 _ _ (aX e hs) (by rw[aH (aX e hs),aH (aX e hds)];exact e)
  have fr0:∀x∈ [bd,ch,fi0,fd0,lk0],H2 x=none:=fun x hx=>(iC (iC (fr x hx)).1).1
  have s03:=s02.trans s3;have vl3:=s3 _ _ (s2 _ _ vl1);have ca3:=s3 _ _ c2;have ncv:ca≠vl:=fun y=>by rw[y,vl1]at hca;cases hca
  have ncc:ch≠ca:=fun y=>by rw[<- y,fr0 ch (by simp)]at c2;cases c2
  have ncv':ch≠vl:=fun y=>by have:=s2 _ _ vl1;rw[<- y,fr0 ch (by simp)]at this;cases this
  refine⟨_,rfl,_,rfl,_,rfl,_,rfl,s',bd,ch,vl,ca,me,zs,ds,rfl,hme,⟨⟨dSh,fi0,g1⟩,g3,g2⟩,vl3,cQ.keep (bQ.of (s2.trans s3)) pz,by omega,sd,ca3,ncv,ncc,ncv',s03 _ _ t1,s03 _ _ t2,n12,fun H4 W fi4 fd4 lk4 csh4 eWs eWv eWc eWm eWh O M fw lc tb4 fra nfx nmc=> ?_⟩;have hs2:∀{x:Addr} {o:HO},H x=some o->x≠s'/\x≠ch/\x≠bd/\x≠ca/\x≠vl:=fun{x o} ex=>⟨aX (s02 _ _ ex) hs,fun y=>(by have:=s02 _ _ ex;rw[y,fr0 ch (by simp)]at this;cases this),fun y=>(by have:=s02 _ _ ex;rw[y,fr0 bd (by simp)]at this;cases this),aX (s1 _ _ ex) hca,aX ex hvl⟩
  intro la hla;have s5:=aF.new (o:=.dT []) hla;have v5:upd H4 la (.dT []) la=some (.dT []):=aI
  generalize upd H4 la (.dT [])=H5 at s5 v5|-
  let W':cN:={W with la:=la}
  have O':fU W':=⟨O.nd,O.mb,O.md,O.ss,O.k1,O.r0,O.r1,O.me,O.xs,O.m5,O.od,O.gs,O.gx,O.mn⟩;have M5:=M.same s5;have nf:la≠fd4/\la≠lk4:=⟨fun y=>(by have e:H4 fd4=some (.dT []):=M.sb.fd;rw[<- y,hla]at e;cases e),fun y=>(by have e:H4 lk4=some (.dT []):=M.sb.hl;rw[<- y,hla]at e;cases e)⟩;have N:fB P w K mg af CS CF CB CT CG CM z2.2 W' fi4 fd4 lk4 zs ds [] [] (fun _ _=> []) (fun _=>none) [] [] csh4 [] (fK fun _=>none) H5:=⟨M5.sb,M5.sh,M5.ch,M5.fl,M5.ly,M5.ld,M5.py,sd,M5.zs,v5,fun c p=>⟨fun _=>rfl,fun is e=>by cases e⟩,fun y=>rfl,nf⟩
  let L:=z2.2::W.s::W.fx++ (List.range 4).map W.mc
  have keep:∀{x:Addr} {o:HO},H x=some o->x≠z1.2->H5 x=some o:=fun ex n=>s5 _ _ (fra _ _ (s03 _ _ ex) (hs2 ex).1 (hs2 ex).2.1 (hs2 ex).2.2.1 n)
  have nL:∀{x:Addr} {o:HO},H x=some o->x≠z2.2->x∉L:=fun{x o} ex n2 hm=>by
   rcases List.mem_append.mp hm with hm|hm
   ·rcases List.mem_cons.mp hm with y|hm
    ·exact n2 y
    ·rcases List.mem_cons.mp hm with y|hm
     ·exact(hs2 ex).1 (y.trans eWs)
     ·exact nfx x o (s03 _ _ ex) (hs2 ex).2.1 (hs2 ex).2.2.2.1 (hs2 ex).2.2.2.2 hm
   ·obtain⟨k,hk,e⟩:=List.mem_map.mp hm
    exact nmc x o (s03 _ _ ex) k (List.mem_range.mp hk) e.symm
  have St:pW P w K mg af CS CF CB CT CG CM z2.2 W' 0 H5:=⟨fw.keep (cD.of s5),fi4,fd4,lk4,zs,ds,[],[],_,_,[],[],csh4,[],N,by omega,Nat.zero_le _⟩;rw[<- eWv,<- eWm,<- eWc,<- eWs];refine qE W' O' H5 (qG H5 L) a sc _ _ _ _ _ _ (fun x o ex=>⟨fun hm=>(xY ex).1 (List.mem_append.mpr (.inl hm)),fun k hk y=>(xY ex).1 (List.mem_append.mpr (.inr (List.mem_map.mpr ⟨k,List.mem_range.mpr hk,y.symm⟩))),(xY ex).2.1⟩) (fun x o ex=>(xY ex).2.2) St ?_ hl ?_
  ·have na:∀{o:HO},H a=some o->(∀φ,o≠ .ext φ)->(∀y,o≠ .dT y)->qG H5 L a=some o:=fun{o} ex n1 n4=>a1y (keep ex (fun y=>by rw[y,t1]at ex;exact n1 _ (Option.some.inj ex).symm)) (nL ex (fun y=>by rw[y,t2]at ex;exact n1 _ (Option.some.inj ex).symm)) n4
   rcases hS with(ex|⟨q,ex⟩)|h
   ·exact .inl (.inl (na ex nk nk))
   ·exact .inl (.inr ⟨q,na ex nk nk⟩)
   ·exact .inr h
  ·obtain⟨S,e,_⟩:=tb4
   exact⟨S,a1y (s5 _ _ e) (nL t1 n12) nk⟩
end
theorem walk{l:W.OpenLaw}{q:Program}{loose:List Str}{XP:(Str->Option Value)->Heap->Prop}{YP:World->Heap->Prop}{d:DefRec}{K:Params->Fg}(hn:l.most=some 63)(hdf:d.params.defaults= [])(hdn:d.name= "law")
 (hY:∀(w:World) (h:Heap),YP w h->(K w.params).In h)
 (recs:((PyProof.Rows.recsOf q).find? (fun e=>e.name==("_law_built":Str))).isSome=true)
 (F:∀(w:World) (mg:Str->Option Value) (h:Heap),YP w h->(K w.params).In h->h.Ns mainGlobals mg->bA (K w.params) mg/\True/\Tbs h (K w.params) mg):
 W.WalkO q loose XP YP l.row.toRowW d [] (fun f vs=>PySem.call f vs):=
 L2.a67 (n:=63) (k:=18) (x:= "_law_script") (CX:=fun _=>aD) (sp:=fun w tabs=>zA (K w.params) tabs) hn (by decide) hdf ⟨rfl,by decide,by decide⟩ hY
  (fun w mg fa h Yy KX G hmg=>by
   obtain⟨T,TD,TB⟩:=F w mg h Yy KX G;obtain⟨f,fd,F4,hm⟩:=T.d_law.ex;rw[hdn]at hmg;have e:=hmg.symm.trans hm;cases e;obtain⟨z_law_built,z_Finder_gathered,B_law_built,B_Finder_gathered,ne_law_built_Finder_gathered,te_Finder_gathered⟩:=TB.bs;have r_law_built:=recs;refine⟨T.notabs,[z_law_built,z_Finder_gathered],fun z hz=> ?_,fd,fun s u=> ?_,fun af kb nb mk=> ?_⟩
   ·simp only[List.mem_cons,List.not_mem_nil,or_false]at hz
    rcases hz with rfl|rfl
    ·exact .inl ⟨⟨_,r_law_built,B_law_built.tab⟩⟩
    ·exact .inr ⟨B_Finder_gathered.hd,te_Finder_gathered⟩
   ·obtain⟨oc,od,kV,doc,pm,an,ah,ct,osl,rfl,_⟩:=F4.ex
    exact .of_eq rfl
   ·exact a92 T B_law_built (mk _ (by simp)) B_Finder_gathered (mk _ (by simp)) ne_law_built_Finder_gathered F4)
  (fun _ _ _ a ns hl hT hS=>⟨a,ns,rfl,hS,hl,hT,fun _ hT'=>⟨rfl,hT'⟩⟩) fun _ _ _ _ _ z=>z
end My
variable{J:Option My.GT->Hp->Prop}{wo wo':My.aQ->Option (List Int×V)}{tabs:List (Str×My.BM)}{ms:My.cS}{kf kf' kl:List (My.Ky×V)}{Vc:My.aQ->Prop}{wl:My.gF}
namespace PySem.W.Fast
abbrev Z:=Nat
def tw9746279263891434000:=Z
def tw2712309210439942525:=Z
def tw8197286045188354553:=Z
def tw12742544809946207619:=Z
def tw13346642609836400755:=Z
def tw17867239756834965840:=Z
def tw1170922381824618152:=Z
def tw17508931143711650767:=Z
def tw347389359469924988:=Z
def tw885372420054480784:=Z
def tw9306775896294593287:=Z
def tw2391891669773105402:=Z
def tw2750410813144155688:=Z
def tw12363140540141151953:=Z
def tw13457704452352200654:=Z
def tw5146830402819166666:=Z
def tw16967683114739478801:=Z
def tw10752640711663651121:=Z
def tw12511726745073366613:=Z
def tw7154244534067219541:=Z
def tw6843481936588335866:=Z
def tw4924092196347198707:=Z
def tw17084840637707374938:=Z
def tw2065887286496457427:=Z
def tw7768785594671107988:=Z
def tw6746848689344644549:=Z
def tw9868696903020106897:=Z
def tw6579312489654602330:=Z
def tw13207812451149265426:=Z
def tw7492757672000318190:=Z
def tw16599975804580789991:=Z
def tw6852627455506149546:=Z
def tw10583845725684539297:=Z
def tw12502841146465702499:=Z
def tw2010841217381106496:=Z
def tw10350797542623467711:=Z
def tw2163116420033866223:=Z
def tw9101385377131907973:=Z
def tw640104266065171706:=Z
def tw880872814623804570:=Z
def tw15271589206875945125:=Z
def tw9590892364389739785:=Z
def tw12505924571442605048:=Z
def tw13235306847074645949:=Z
def tw12064022975528805751:=Z
def tw3325424535463328434:=Z
def tw10968992025627390744:=Z
def tw10004545036593313784:=Z
def tw17432262783410416654:=Z
def tw756661279776278650:=Z
def tw10834565649287326576:=Z
def tw462164181090466746:=Z
def tw17719262663167849494:=Z
def tw10329735550560329314:=Z
def tw11970774685539839715:=Z
def tw6952207208674420424:=Z
def tw12022010568482718248:=Z
def tw10934917116929150062:=Z
def tw13966866843592917303:=Z
def tw7925498359445028172:=Z
def tw15061679547611713253:=Z
def tw1802078877184196574:=Z
def tw7302958286321125634:=Z
def tw5982813010596164698:=Z
def tw6418711453677105434:=Z
def tw7341159064251312478:=Z
def tw13013564506977232008:=Z
def tw8405225784237033318:=Z
def tw15756709572436179108:=Z
def tw13679444459830005856:=Z
def tw13570220316842884804:=Z
def tw13197786798946878933:=Z
def tw18261198421555940505:=Z
def tw1663710442108331340:=Z
def tw15670561423509000205:=Z
def tw13307895912765412782:=Z
def tw2068024285156173512:=Z
def tw16686365527759144749:=Z
def tw17443393042671364083:=Z
def tw14333265378226919431:=Z
def tw15121501664260906024:=Z
def tw14640646615567138074:=Z
def tw2093613706475389307:=Z
def tw14232659737404699410:=Z
def tw833686820852925308:=Z
def tw16227847391713424555:=Z
def tw4315875861482124232:=Z
def tw3829316869870903799:=Z
def tw3425909851990142861:=Z
def tw13072690464577993283:=Z
def tw2330790808265617145:=Z
def tw5388649159684145375:=Z
def tw11653364509844781386:=Z
def tw11711358802373628259:=Z
def tw11727821758778743431:=Z
def tw7898035050830728918:=Z
def tw14788547883430809514:=Z
def tw5029378127875125496:=Z
def tw6872774117308440359:=Z
def tw8527275802615655401:=Z
def tw14704199966047671717:=Z
def tw12256796093328295461:=Z
def tw5175347709050063708:=Z
def tw14979832588067187392:=Z
def tw17465951208430630110:=Z
def tw14805970739331349208:=Z
def tw758770769565208720:=Z
def tw14590098819300112958:=Z
def tw10492123531667878183:=Z
def tw1845929810606785175:=Z
def tw15473789631266510287:=Z
def tw1521101807725396721:=Z
def tw6424194895776475504:=Z
def tw11802391108426080758:=Z
def tw6012826930443147012:=Z
def tw4258635020542000621:=Z
def tw12933123606745755570:=Z
def tw1130631115240231397:=Z
def tw3963435454664571573:=Z
def tw7347606326092096362:=Z
def tw5622137961535693268:=Z
def tw43760714181888071:=Z
def tw6583093209736603436:=Z
def tw3219222233878204342:=Z
def tw10169857634650110519:=Z
def tw4982655706053311978:=Z
def tw9335190494466147399:=Z
def tw7337844380186839262:=Z
def tw3758855096813583760:=Z
def tw6701829481985958832:=Z
def tw10780471863984059740:=Z
def tw3478620340741615687:=Z
def tw6934391500139351562:=Z
def tw16218456161402841237:=Z
def tw7931343491348100277:=Z
def tw5519804985371489227:=Z
def tw14501847488414882969:=Z
def tw10883590381843458994:=Z
def tw12677591949701203923:=Z
def tw5506847181404594916:=Z
def tw12114122601002858752:=Z
def tw11105825771474104083:=Z
def tw11846322988568839192:=Z
def tw8935812206645859965:=Z
def tw11620565402057423590:=Z
def tw284218573141358142:=Z
def tw16487710461414554037:=Z
def tw16565483927284392003:=Z
def tw12398668013080528631:=Z
def tw1440993763555146261:=Z
def tw12250342006947836636:=Z
def tw16486266651530415637:=Z
def tw18053334219043126004:=Z
def tw4123854678636984136:=Z
def tw10676491216278270659:=Z
def tw3942672064755990610:=Z
def tw13803395700808699911:=Z
def tw5095131761518840998:=Z
def tw7996320596749078931:=Z
def tw11646375673405618009:=Z
def tw15728815759540942749:=Z
def tw6161231305425538920:=Z
def tw9346891594427715217:=Z
def tw7706968012354134700:=Z
def tw14848889870671682935:=Z
def tw8052199197201837579:=Z
def tw12265090189380110970:=Z
def tw2989511623496004581:=Z
def tw11821913792596534599:=Z
def tw10750245250835136810:=Z
def tw4374149135310354280:=Z
def tw17411432995450265413:=Z
def tw4999426027362854247:=Z
def tw9916799870560116974:=Z
def tw3185196644870804006:=Z
def tw8440942821848643266:=Z
def tw15220481898322422416:=Z
def tw3962951722585662103:=Z
def tw7839717963878190616:=Z
def tw14753313705920579414:=Z
def tw18313502562850556809:=Z
def tw7922622794506327696:=Z
def tw7760516108944474612:=Z
def tw2487976825359948991:=Z
def tw4426817449629840475:=Z
def tw5597179134185779422:=Z
def tw14233400873641489038:=Z
def tw11618790792853927041:=Z
def tw66025849579983895:=Z
def tw6062998263762890417:=Z
def tw14209790190218464671:=Z
def tw17430630491558193941:=Z
def tw7883442614788599057:=Z
def tw222684688746218933:=Z
def tw9168973662823516219:=Z
def tw1188193661926671454:=Z
def tw12151963307677906143:=Z
def tw11382246636961762656:=Z
def tw3885629662973558361:=Z
def tw6176865291985538758:=Z
def tw5632870566051911998:=Z
def tw2620260300747313951:=Z
def tw10416641548589282598:=Z
def tw4335916205464620817:=Z
def tw2909783140211595972:=Z
def tw10461983072078650989:=Z
def tw3191632661321232482:=Z
def tw1271124748098947426:=Z
def tw6896639648379034615:=Z
def tw7889029371445556631:=Z
def tw12027634873215859743:=Z
def tw114121189494776423:=Z
def tw4255547009133414578:=Z
def tw3101129795956757579:=Z
def tw4714283584816104128:=Z
def tw11079276683593641316:=Z
def tw2354443248932460154:=Z
def tw10080413334704569714:=Z
def tw7606081803948929240:=Z
def tw6289524248608411526:=Z
def tw2059566168086370661:=Z
def tw8142912019233516730:=Z
def tw3512423841280799901:=Z
def tw10973615531365056824:=Z
def tw10354842646537154299:=Z
def tw15590293156336583649:=Z
def tw5338409877474941780:=Z
def tw8623236434043008127:=Z
def tw11218489670120702743:=Z
def tw18006496878359592874:=Z
def tw10404326469975125381:=Z
def tw15522964437267777931:=Z
def tw17138423484992835415:=Z
def tw16763745535033744354:=Z
def tw8320215298906207913:=Z
def tw17088778487493133995:=Z
def tw15612775324901171504:=Z
def tw15774154134441804542:=Z
def tw3885016766175472375:=Z
def tw13467380863225059469:=Z
def tw13784564702718658223:=Z
def tw13101354443026528646:=Z
def tw13382835718143511937:=Z
def tw2944508566389820941:=Z
def tw4705933609920549137:=Z
def tw1784074248413019766:=Z
def tw5377120769061326239:=Z
def tw10650909615643085019:=Z
def tw15376903346557464663:=Z
def tw5317196943898074224:=Z
def tw11374495040441608536:=Z
def tw6427089672255699703:=Z
def tw9871747945776777754:=Z
def tw9292679234336846491:=Z
def tw1939661227352770391:=Z
def tw761600024093202158:=Z
def tw16429798209750488320:=Z
def tw5850124541873155109:=Z
def tw4405429581323496517:=Z
def tw597781633350539333:=Z
def tw13256609343353978387:=Z
def tw4939331124301239573:=Z
def tw12022038303018691106:=Z
def tw1370679174483994861:=Z
def tw362227672792336821:=Z
def tw3364553182946254785:=Z
def tw10118656369422848329:=Z
def tw9928728225518566747:=Z
def tw694513420602992985:=Z
def tw14278540427284494285:=Z
def tw7306626551348494044:=Z
def tw1444955643195737515:=Z
def tw16471490037362605499:=Z
def tw4823051227573556583:=Z
def tw7736475915170342428:=Z
def tw13681303468514853253:=Z
def tw13412434678211050361:=Z
def tw3332275398008101632:=Z
def tw18140137656354294022:=Z
def tw18253389653365019390:=Z
def tw3324705465409737353:=Z
def tw7284246942827041209:=Z
def tw15193683900699393948:=Z
def tw11813379429204416529:=Z
def tw10594100205526611113:=Z
def tw10141330576483246701:=Z
def tw5242044061896717614:=Z
def tw13244836154286766614:=Z
def tw17661979354349116654:=Z
def tw1000985382541402490:=Z
def tw6844495593872246286:=Z
def tw692151339106575775:=Z
def tw15206508033267777984:=Z
def tw5527242287520806085:=Z
def tw3824374473544024306:=Z
def tw12210971083029203319:=Z
def tw5925586910692917637:=Z
def tw15887344885093578641:=Z
def tw13509470020873637773:=Z
def tw16536644121834740156:=Z
def tw17202826643169327384:=Z
def tw33282422906901226:=Z
def tw421843630208754412:=Z
def tw14732628391303573862:=Z
def tw7397229737522512019:=Z
def tw11498138714295787970:=Z
def tw15578683304221344542:=Z
def tw14542265234462448964:=Z
def tw4420475549107091193:=Z
def tw6097421269917801457:=Z
def tw7771417475367278876:=Z
def tw14852108076443213920:=Z
def tw10580068908328243495:=Z
def tw9407622853847906980:=Z
def tw14531178720058230875:=Z
def tw9205100766181474472:=Z
def tw2653459483815578321:=Z
def tw8850413487561646958:=Z
def tw13660584516511465965:=Z
def tw11069450874957171958:=Z
def tw2010149501108929764:=Z
def tw10412011776146187467:=Z
def tw6175699741642276518:=Z
def tw626722083989665703:=Z
def tw9946011856415888698:=Z
def tw2164357309654865945:=Z
def tw2999877124257473905:=Z
def tw18112530072337808805:=Z
def tw5211317783494755197:=Z
def tw16291201470448879344:=Z
def tw15781662409852917269:=Z
def tw5395332928288253151:=Z
def tw15782342191424416723:=Z
def tw10492210977148304969:=Z
def tw9632725902416062028:=Z
def tw1404051722636606555:=Z
def tw10905932994970994334:=Z
def tw9009073520128878906:=Z
def tw2878190993797235487:=Z
def tw5275250742780434080:=Z
def tw1114897167592986822:=Z
def tw8094235478624074864:=Z
def tw1505461638526673027:=Z
def tw8084921596894810404:=Z
def tw15506169263595810879:=Z
def tw4209199599688335841:=Z
def tw5051207317024652879:=Z
def tw6487811161014935690:=Z
def tw17064602172870977262:=Z
def tw12982047627884176292:=Z
def tw14370281928906409083:=Z
def tw14310500572851389122:=Z
def tw8904451077757300616:=Z
def tw8681142211227584157:=Z
def tw11813440245248364498:=Z
def tw3494248784165253567:=Z
def tw8472985199440392599:=Z
def tw16923306671610385566:=Z
def tw6904565339774615466:=Z
def tw3916982704493047281:=Z
def tw16271776558634242191:=Z
def tw1996969919938214094:=Z
def tw12624444948793512324:=Z
def tw16826312547751842450:=Z
def tw8196885433470584687:=Z
def tw15020182137042635193:=Z
def tw7055067193567930166:=Z
def tw18316969265691744094:=Z
def tw5318648481436956369:=Z
def tw2630347723474720764:=Z
def tw4723438868602655763:=Z
def tw9648739634336829398:=Z
def tw5556484291835954127:=Z
def tw3286450773930226845:=Z
def tw10667140263736354818:=Z
def tw12627404940076221783:=Z
def tw3986827047878868735:=Z
def tw15891615373271951938:=Z
def tw14659546424694921200:=Z
def tw9997915447827564053:=Z
def tw7566807637780871016:=Z
def tw4395815014223061221:=Z
def tw3994353241391504015:=Z
def tw7174374715026935093:=Z
def tw587878110309817232:=Z
def tw3296546019444744041:=Z
def tw16676115580789855693:=Z
def tw8125388205603247445:=Z
def tw17077280024005612594:=Z
def tw613345588128278252:=Z
def tw3947148523713578832:=Z
def tw1140174596554011692:=Z
def tw7544888581240595344:=Z
def tw18308782855016743758:=Z
def tw17482338258947292678:=Z
def tw4268661494886302409:=Z
def tw9203294962216873328:=Z
def tw17242668586071850045:=Z
def tw9966803102002016328:=Z
def tw3375640931274111998:=Z
def tw5426476135762721582:=Z
def tw4036225728096589537:=Z
def tw1932511304603745280:=Z
def tw1282145989249449631:=Z
def tw4303976991063679225:=Z
def tw11049282807663898218:=Z
def tw8128339034341249523:=Z
def tw5304548263580069821:=Z
def tw7095210704594416023:=Z
def tw721461490313594973:=Z
def tw3126152267362185821:=Z
def tw6700639444699739120:=Z
def tw6758658307283455635:=Z
def tw8060224080810037825:=Z
def tw6758310796691086000:=Z
def tw7078894651956947877:=Z
def tw13670945994472988853:=Z
def tw1161465932350167263:=Z
def tw4036418631490333882:=Z
def tw7262996986112531570:=Z
def tw2895535193194139130:=Z
def tw11390482994029960647:=Z
def tw14595080341650706096:=Z
def tw7740288222674791737:=Z
def tw18373307125957874643:=Z
def tw11096754884377749487:=Z
def tw5621911192642482478:=Z
def tw4602343979257116174:=Z
def tw3678802529705548297:=Z
def tw14901815864662956929:=Z
def tw7596004916454701797:=Z
def tw8293253768882071454:=Z
def tw16594659927220500100:=Z
def tw15439929504502818199:=Z
def tw16315740208522656428:=Z
def tw16363178694124666011:=Z
def tw13124738922208095749:=Z
def tw2195378718013814884:=Z
def tw18100226247486475767:=Z
def tw16313251375493931318:=Z
def tw13415652510863020760:=Z
def tw17572475334072981491:=Z
def tw10907004977708998587:=Z
def tw1718479613743194770:=Z
def tw109146138224582566:=Z
def tw9440140272384090376:=Z
def tw16216778649235749587:=Z
def tw13994094971354050440:=Z
def tw6591712505544756020:=Z
def tw16410804352447379979:=Z
def tw17087327003086387297:=Z
def tw1416112420356114804:=Z
def tw5168415981753369731:=Z
def tw7034997699302820870:=Z
def tw7475823968306660049:=Z
def tw15668760998404151771:=Z
def tw10898929598372909817:=Z
def tw136017573878773977:=Z
def tw9906380840965586370:=Z
def tw16606177960727480548:=Z
def tw137613147341012128:=Z
def tw6424266821214038128:=Z
def tw16306252030782251449:=Z
def tw10063525441338431069:=Z
def tw5142560806357205142:=Z
def tw13439692956978857500:=Z
def tw826907525496804819:=Z
def tw829200838185629243:=Z
def tw17188189237164156652:=Z
def tw33242275846498515:=Z
def tw2482686849845905169:=Z
def tw11402025807680436148:=Z
def tw15124163074150556775:=Z
def tw645402461299806596:=Z
def tw5630139486599377309:=Z
def tw18321347258763209898:=Z
def tw17786170027146513571:=Z
def tw3506153320688231712:=Z
def tw17134212912107227061:=Z
def tw15350892463549848080:=Z
def tw5900404944032979176:=Z
def tw18249340166215000268:=Z
def tw6514721396592283849:=Z
def tw6765597457812894826:=Z
def tw4711567003519849221:=Z
def tw3251103119583614841:=Z
def tw6204631126817066815:=Z
def tw14328258260662950754:=Z
def tw8269338040009624735:=Z
def tw14628213812590529264:=Z
def tw3832930598121441241:=Z
def tw15217628188790301444:=Z
def tw15462359107183339697:=Z
def tw5284183202202495045:=Z
def tw11212583450859499666:=Z
def tw14482434608540737262:=Z
def tw15556382275975199355:=Z
def tw15141003885784342462:=Z
def tw2266537930247471339:=Z
def tw6455145155815299731:=Z
def tw15423235330221825805:=Z
def tw1175210066928743981:=Z
def tw11307401801055813358:=Z
def tw7668111097323037936:=Z
def tw11862694711437201525:=Z
def tw14832208115227030472:=Z
def tw7908606396714822371:=Z
def tw17279616724263444615:=Z
def tw8380942385497140664:=Z
def tw6401012706958865833:=Z
def tw487016425861500368:=Z
def tw5407065672073627253:=Z
def tw15678564825554112323:=Z
def tw13075435126878184978:=Z
def tw12688666387191465204:=Z
def tw3063036598831977321:=Z
def tw14436923786731301566:=Z
def tw12239969312453468:=Z
def tw5298389051564501880:=Z
def tw13704770149532068216:=Z
def tw10640091214492096077:=Z
def tw5710206960482714729:=Z
def tw2039405053358266003:=Z
def tw15031442193760075589:=Z
def tw10522226583550164276:=Z
def tw7608678211918808333:=Z
def tw14507934352272531566:=Z
def tw16241216087848179227:=Z
def tw12529280286111205971:=Z
def tw560185138495839068:=Z
def tw13695841560339608313:=Z
def tw9717608640818741010:=Z
def tw10344425109880423880:=Z
def tw3075395852715109688:=Z
def tw16538178971299937702:=Z
def tw16310581806345670926:=Z
def tw10775994726858510064:=Z
def tw11244406321562558426:=Z
def tw14382036674646276374:=Z
def tw556788102365052725:=Z
def tw13219402646913535262:=Z
def tw601866962922470541:=Z
def tw5399435262031273647:=Z
def tw17926750599658726209:=Z
def tw11288711585420387435:=Z
def tw10871613417458882400:=Z
def tw12357182030845961776:=Z
def tw6259574844907978099:=Z
def tw9064222095009709447:=Z
def tw15941907271323640542:=Z
def tw8820981162405290453:=Z
def tw12236706455938783419:=Z
def tw9850034161050322499:=Z
def tw13298969030278295427:=Z
def tw5607432667015088604:=Z
def tw15194106061982116072:=Z
def tw12678561004411476370:=Z
def tw16239857074094606096:=Z
def tw13377725562453799683:=Z
def tw8057520049791367214:=Z
def tw15861341106780127271:=Z
def tw875895368929010621:=Z
def tw11108310781567078277:=Z
def tw14677091116947678103:=Z
def tw4638795347730658849:=Z
def tw316366265549198486:=Z
def tw5172592574125903566:=Z
def tw63993030402329166:=Z
def tw4390948125624116940:=Z
def tw81965983282015161:=Z
def tw6492300757070540059:=Z
def tw15488406440628191772:=Z
def tw2018842251349929836:=Z
def tw9123049717929076599:=Z
def tw4542767975883227650:=Z
def tw12738176574379213663:=Z
def tw1478607122352682552:=Z
def tw14261273840960906296:=Z
def tw12153767226205919981:=Z
def tw10394778516682269988:=Z
def tw12513970184111825115:=Z
def tw5982077310265865496:=Z
def tw1928562129798719186:=Z
def tw5467124008878051207:=Z
def tw10821811140856074633:=Z
def tw4538623380831692083:=Z
def tw1665622289072923271:=Z
def tw4576746760359341171:=Z
def tw10264210758355700049:=Z
def tw3005981049459347663:=Z
def tw13283307423483002234:=Z
def tw5498486180386025801:=Z
def tw8498774159752838124:=Z
def tw17127005439376090301:=Z
def tw7852798778571146518:=Z
def tw9190127733929832777:=Z
def tw3499023856949670265:=Z
def tw11580540903090644730:=Z
def tw17424877284474584787:=Z
def tw13502578318609363710:=Z
def tw4614641139549217343:=Z
def tw90704015738074869:=Z
def tw3825686166319862416:=Z
def tw13371919987354078482:=Z
def tw4841836518546130885:=Z
def tw1818411509206003228:=Z
def tw15868490997947291393:=Z
def tw17141352429378428255:=Z
def tw11890611603740903598:=Z
def tw14012102168974754889:=Z
def tw2715265925126722405:=Z
def tw2009445249023465399:=Z
def tw7039768407782448636:=Z
def tw15221305782948976944:=Z
def tw7637765133068149879:=Z
def tw15816106518909396091:=Z
def tw3346074579990586209:=Z
def tw5721950082369878742:=Z
def tw2640188695026975328:=Z
def tw11345780974515905061:=Z
def tw17345468482685194435:=Z
def tw13701836013238888448:=Z
def tw1398645367795001822:=Z
def tw16518534635435482929:=Z
def tw7834652448116548387:=Z
def tw18154037632287140104:=Z
def tw15524853339209750259:=Z
def tw16382130900367518491:=Z
def tw6616688498088978037:=Z
def tw7452295902842047640:=Z
def tw10504939870463772509:=Z
def tw8696422160076148430:=Z
def tw8014005651839817362:=Z
def tw12535580598813036220:=Z
def tw11619862322152308118:=Z
def tw6102104426803708440:=Z
def tw13362189604611979396:=Z
def tw2150319261201633470:=Z
def tw2061890723573714013:=Z
def tw15220819680831262874:=Z
def tw14141540268990150175:=Z
def tw1105055180491225067:=Z
def tw336664828943458851:=Z
def tw8446514672489030152:=Z
def tw6758843622961685129:=Z
def tw2536219160238381915:=Z
def tw5858036361599589738:=Z
def tw2285959647166671132:=Z
def tw15379186530700739108:=Z
def tw9614834515426857329:=Z
def tw98597650040187359:=Z
def tw16286275293808331798:=Z
def tw7565099461848509162:=Z
def tw4778732119578101243:=Z
def tw2972964125161382644:=Z
def tw8699831190844769608:=Z
def tw5423059817615064933:=Z
def tw14834692877434446673:=Z
def tw4909746653203533102:=Z
def tw14908663392365299135:=Z
def tw17481650651796902881:=Z
def tw9556111832517086809:=Z
def tw1833414193634800660:=Z
def tw13299487838274427389:=Z
def tw1861378299005650287:=Z
def tw669189501122271144:=Z
def tw9121815564103605455:=Z
def tw13590123907035170139:=Z
def tw1469221723014076036:=Z
def tw10241692091371342358:=Z
def tw1637669189912330092:=Z
def tw5052382715753128816:=Z
def tw13024338659902751315:=Z
def tw13711775095262536632:=Z
def tw5655804614568863722:=Z
def tw14919299144781397286:=Z
def tw1975143235460378999:=Z
def tw9771059989269460505:=Z
def tw15328153103079830699:=Z
def tw15140800166694318514:=Z
def tw13339478706800818279:=Z
def tw2510151669926465520:=Z
def tw7617157426319125628:=Z
def tw8349694615601037473:=Z
def tw359429641927615472:=Z
def tw8723736427518448964:=Z
def tw12443579443737692292:=Z
def tw12624530327217573209:=Z
def tw14041888094450116290:=Z
def tw16221467293800286457:=Z
def tw6333895474029439312:=Z
def tw12422383318767502920:=Z
def tw3635308252647768321:=Z
def tw10966790706449408134:=Z
def tw495127697429540735:=Z
def tw5857487332538847323:=Z
def tw7558613727935609983:=Z
def tw17917054043877910589:=Z
def tw12791144620224429560:=Z
def tw12760462845402726078:=Z
def tw16618577666664292402:=Z
def tw4133653018648089084:=Z
def tw13150969497154758801:=Z
def tw5762767020292744408:=Z
def tw15430978445836840134:=Z
def tw15618398420507987259:=Z
def tw11313437054755899571:=Z
def tw6551085062027709298:=Z
def tw9118864513035967077:=Z
def tw12091319332377614330:=Z
def tw1527620833036364873:=Z
def tw7610843445651009838:=Z
def tw7384373315425952500:=Z
def tw13589336788126088227:=Z
def tw14865418573111861513:=Z
def tw1386591867226913540:=Z
def tw14776181827475770212:=Z
def tw12755226814440722658:=Z
def tw8189227342684259271:=Z
def tw5818048510742330316:=Z
def tw15331912276783433170:=Z
def tw4993450545462581915:=Z
def tw12979361452765774373:=Z
def tw4045358778836936655:=Z
def tw3877141831636919622:=Z
def tw10659785969573656473:=Z
def tw4380045710773036902:=Z
def tw10620782904879601081:=Z
def tw9331798162610157745:=Z
def tw4437937712189690160:=Z
def tw11189260740954351842:=Z
def tw8111605419738433509:=Z
def tw18038452143006492651:=Z
def tw11720512609620244228:=Z
def tw10560183621917030941:=Z
def tw758779478409648121:=Z
def tw14495164306920723174:=Z
def tw18135250426047825293:=Z
def tw11652237837078665818:=Z
def tw12853548310394334452:=Z
def tw10861581022234453439:=Z
def tw5438409919514423834:=Z
def tw6792061471314552579:=Z
def tw5031165839599172694:=Z
def tw13184424271286483936:=Z
def tw5244445176551216182:=Z
def tw13172347572236097559:=Z
def tw12667930767779665833:=Z
def tw6855220271199191677:=Z
def tw10488395161854072816:=Z
def tw3558127607449582646:=Z
def tw12757902772526811826:=Z
def tw17726817892346014924:=Z
def tw15704672873795296713:=Z
def tw1455286727478586855:=Z
def tw11131956106098065303:=Z
def tw8522376007952149302:=Z
def tw5096969738971341383:=Z
def tw15896701033240034980:=Z
def tw14420442855297942992:=Z
def tw12082070084188197519:=Z
def tw15358043508720578129:=Z
def tw18031317667418688714:=Z
def tw13663501971470322497:=Z
def tw6237245361204085712:=Z
def tw9411896085872454827:=Z
def tw1194149038254953957:=Z
def tw4798597683528641680:=Z
def tw2142679586117918619:=Z
def tw5804051216708167396:=Z
def tw13246787610265223576:=Z
def tw13943007719995197813:=Z
def tw11249346528398139007:=Z
def tw13125867048276598847:=Z
def tw66762810525889417:=Z
def tw14694150242215656774:=Z
def tw17892196135364547902:=Z
def tw2927761803405470266:=Z
def tw13236605307585867841:=Z
def tw9032152750711610268:=Z
def tw1153073719905776266:=Z
def tw6772063007132357492:=Z
def tw17064948363536342094:=Z
def tw11151192243003664200:=Z
def tw15915498571802273430:=Z
def tw16453608673086940249:=Z
def tw9373047972511697185:=Z
def tw8709040592655194246:=Z
def tw73050863369720920:=Z
def tw18392477448482044446:=Z
def tw17131466149566416341:=Z
def tw4015814666013717614:=Z
def tw3882696448974516407:=Z
def tw17091497467977235380:=Z
def tw15952457620825226349:=Z
def tw8449841301893923132:=Z
def tw13972836471236876053:=Z
def tw3661887718460669824:=Z
def tw11113543168462959109:=Z
def tw14814583367846947539:=Z
def tw4130275285768891789:=Z
def tw6993643947929540163:=Z
def tw6535304437183579218:=Z
def tw13817314980539227146:=Z
def tw11453639196352182395:=Z
def tw6113570000248956481:=Z
def tw4763476272654471081:=Z
def tw16509357065074627647:=Z
def tw7987734829708380835:=Z
def tw7757405606057633113:=Z
def tw13690027149163833174:=Z
def tw16963754364692024882:=Z
def tw1590892900625981040:=Z
def tw4125471070651432528:=Z
def tw712984252512751741:=Z
def tw8238471326491258612:=Z
def tw7105594281141288969:=Z
def tw8213666729337486021:=Z
def tw16884969851248906210:=Z
def tw4207099392323811487:=Z
def tw6944100720481830377:=Z
def tw3293749627653928345:=Z
def tw8507647016496227059:=Z
def tw4028647946004525373:=Z
def tw14891842070718401059:=Z
def tw12288152947290676581:=Z
def tw10194369685987047430:=Z
def tw7098701877052248720:=Z
def tw16817161423207663167:=Z
def tw1912180892143187706:=Z
def tw17759903058085995998:=Z
def tw370016041804363731:=Z
def tw14599994473644144385:=Z
def tw7692348790613905910:=Z
def tw1969425752123973052:=Z
def tw13990313433786629007:=Z
def tw13962943344972776505:=Z
def tw13154632583936030974:=Z
def tw10220278252628493120:=Z
def tw13124765384862851749:=Z
def tw13196712574233473451:=Z
def tw18351631442416756882:=Z
def tw4587827884925364564:=Z
def tw1616906534280085794:=Z
def tw10608927646132398629:=Z
def tw15411641773708546012:=Z
def tw2591330115503899559:=Z
def tw8146264882200969050:=Z
def tw14024429971729969309:=Z
def tw14323714659155479688:=Z
def tw5397260615043350471:=Z
def tw13925941750115493374:=Z
def tw2614003786617639337:=Z
def tw12543963616185000068:=Z
def tw15736582269886653012:=Z
def tw17582601375821365781:=Z
def tw5985394954317285944:=Z
def tw16060706053753246601:=Z
def tw10166661520800310298:=Z
def tw18351004222827838368:=Z
def tw13666797867693386752:=Z
def tw16376012966527029351:=Z
def tw3270636034251131748:=Z
def tw2950138782389002039:=Z
def tw17104789635064250614:=Z
def tw16674403254729578542:=Z
def tw9045609934513090097:=Z
def tw3614855706545255705:=Z
def tw17329209390878873127:=Z
def tw3793593587651416882:=Z
def tw484445648776517740:=Z
def tw4071407452067710444:=Z
def tw11171774241242567941:=Z
def tw1852062667593550017:=Z
def tw14213944191888626377:=Z
def tw15232709920710017730:=Z
def tw18301390791125866084:=Z
def tw9333783898347031191:=Z
def tw12403263967961165434:=Z
def tw4629987629254713862:=Z
def tw11742611019394213552:=Z
def tw2038764622013408375:=Z
def tw11350726266257133660:=Z
def tw4577004104640192837:=Z
def tw14824609258518679187:=Z
def tw2091881536488983647:=Z
def tw13990769657659758286:=Z
def tw7424641705852668070:=Z
def tw11913143683122305785:=Z
def tw4826534904847275079:=Z
def tw13680873525199531192:=Z
def tw2883406867858399192:=Z
def tw17682823115061303975:=Z
def tw2950613273767307407:=Z
def tw8504360743822034629:=Z
def tw10296102302597786267:=Z
def tw14236079239059922643:=Z
def tw2159408820752394494:=Z
def tw10016035528856157115:=Z
def tw3599768491288892655:=Z
def tw5240091777285925132:=Z
def tw4658990096102238479:=Z
def tw4588127795851254192:=Z
def tw17322612419341010652:=Z
def tw2569510800632284635:=Z
def tw10929254371897808731:=Z
def tw15054504254363219855:=Z
def tw12206400437502358131:=Z
def tw676846639924670330:=Z
def tw168684198564194416:=Z
def tw12342746820075379612:=Z
def tw4204469004761020930:=Z
def tw4663427385163640304:=Z
def tw656942974624663601:=Z
def tw9930156499425468881:=Z
def tw13109823585017053498:=Z
def tw12960943991475467806:=Z
def tw11275388898934542751:=Z
def tw4039716314967832926:=Z
def tw14770031638081349380:=Z
def tw17521670190164795468:=Z
def tw15922747588884402905:=Z
def tw9072361128453627201:=Z
def tw16074896297539581439:=Z
def tw446433694433036465:=Z
def tw480572330884990224:=Z
def tw1473024106808632554:=Z
def tw11452368093564145802:=Z
def tw15981189708921521122:=Z
def tw1088334384423501070:=Z
def tw11438613197315331646:=Z
def tw84850087598867374:=Z
def tw7489901895146192452:=Z
def tw13848247873339116342:=Z
def tw11738478146114382069:=Z
def tw7579770270300712398:=Z
def tw5722702079184945473:=Z
def tw16660410863089782556:=Z
def tw3307295232083044405:=Z
def tw729396087837462218:=Z
def tw9871965093484743851:=Z
def tw1879185291607314723:=Z
def tw1209017074232888925:=Z
def tw1897689944667517689:=Z
def tw5360216920442054728:=Z
def tw5647799688195247497:=Z
def tw11865363595199717862:=Z
def tw524417317651127406:=Z
def tw3605862947597559324:=Z
def tw14874008696054875728:=Z
def tw2414096146036190266:=Z
def tw12831606256072611111:=Z
def tw763287703842562402:=Z
def tw8827302240818149508:=Z
def tw11303322382646036373:=Z
def tw14729014849690735411:=Z
def tw16606849257762511702:=Z
def tw10035187680625162014:=Z
def tw9405615079339883826:=Z
def tw12191218244947966168:=Z
def tw710602305547020257:=Z
def tw17157657796815441765:=Z
def tw6262518766783911168:=Z
def tw11647478045309502836:=Z
def tw7648460350512554700:=Z
def tw16903792243680210030:=Z
def tw1125972013828524025:=Z
def tw1582233951296817404:=Z
def tw8159224345364600451:=Z
def tw12379392740247916142:=Z
def tw6856835424341531763:=Z
def tw12642721387415264625:=Z
def tw320636318564264855:=Z
def tw14248781880490382478:=Z
def tw1855498197369311627:=Z
def tw10632904279640143331:=Z
def tw8980781721553948535:=Z
def tw6755760529333879203:=Z
def tw6614094018965394269:=Z
def tw2996019600296128675:=Z
def tw15891504366380557806:=Z
def tw4376330611534257318:=Z
def tw16296472315309459296:=Z
def tw7001286406977195605:=Z
def tw14650429846152800224:=Z
def tw7073933146999952419:=Z
def tw1913604436568850209:=Z
def tw3942251972812927238:=Z
def tw8985414775837500969:=Z
def tw2659388117967269765:=Z
def tw8121725451003796875:=Z
def tw666372860276852187:=Z
def tw1972482419860337319:=Z
def tw9472743831288790992:=Z
def tw7910242693691444225:=Z
def tw2382845370447121577:=Z
def tw3256937294589611393:=Z
def tw901796968430758188:=Z
def tw11231468465199312869:=Z
def tw14268801579003988660:=Z
def tw3008197128448284260:=Z
def tw11659821752241497199:=Z
def tw8938975621575937046:=Z
def tw1031761491733042243:=Z
def tw4977042464670244128:=Z
def tw13074733996020243900:=Z
def tw14923318138593147009:=Z
def tw16464180282465382213:=Z
def tw17125100592554874969:=Z
def tw5181053385748266768:=Z
def tw10681563500524610523:=Z
def tw3468504804488337729:=Z
def tw9290725852734126956:=Z
def tw4510977653563522648:=Z
def tw15558324976081030187:=Z
def tw8042852122918293424:=Z
def tw6392944433663714145:=Z
def tw418575322985199247:=Z
def tw11439339728048331504:=Z
def tw14752355524917963544:=Z
def tw524353944881888013:=Z
def tw3156171749564988034:=Z
def tw12483771796411406498:=Z
def tw5977373859198002162:=Z
def tw1511984580939904888:=Z
def tw12801054297744225079:=Z
def tw16205747103301264345:=Z
def tw7914888984711673890:=Z
def tw12678051650369532173:=Z
def tw3958683971189517863:=Z
def tw15232454849123557397:=Z
def tw7682933598278941360:=Z
def tw3421451986846321519:=Z
def tw15572077026552039099:=Z
def tw5992602096832744274:=Z
def tw15318110756264037730:=Z
def tw11071948284043385042:=Z
def tw9657616180385127857:=Z
def tw7364040930972830592:=Z
def tw13303811107541627413:=Z
def tw12086289845688605167:=Z
def tw11496906293170764128:=Z
def tw5240503736809478916:=Z
def tw10642532920869729919:=Z
def tw11886279022085842028:=Z
def tw18016913293130951463:=Z
def tw3048999443639878454:=Z
def tw5791288095121015940:=Z
def tw7550311029450470751:=Z
def tw10002695776015140266:=Z
def tw12326735980606489796:=Z
def tw1977483163998182235:=Z
end PySem.W.Fast
open PySem PySem.W PyProof.Rows
set_option maxRecDepth 100000 in
set_option maxHeartbeats 0 in
theorem PySem.Challenge.cw_lazycols_k30_faults_and_mends_holds : PySem.Challenge.rw_lazycols_k30_faults_and_mends.Holds := by
 w_on;o_law;k_head;(case hw=>w_witness2)
 k_fill
 refine My.walk (l:=PySem.Challenge.rw_lazycols_k30_faults_and_mends) rfl rfl rfl (fun w h Y => PySem.W.km_in_of Y) ?R ?F
 case R=>first|exact rfl|decide+kernel
 case F=>
  intro w mg h Y KX G
  refine'⟨⟨PySem.W.mg_none_of KX G ?_,PySem.W.mg_none_of KX G ?_,PySem.W.mg_none_of KX G ?_,PySem.W.mg_none_of KX G ?_,PySem.W.mg_none_of KX G ?_,PySem.W.mg_none_of KX G ?_,PySem.W.mg_none_of KX G ?_,PySem.W.mg_none_of KX G ?_,PySem.W.mg_none_of KX G ?_,PySem.W.mg_none_of KX G ?_,PySem.W.mg_none_of KX G ?_,PySem.W.mg_none_of KX G ?_,PySem.W.mg_none_of KX G ?_,⟨_,PySem.W.mg_of KX G ?_⟩,⟨_,PySem.W.mg_of KX G ?_⟩,L2.a3I KX G ?_ ?_,⟨_,PySem.W.mg_of KX G ?_⟩,⟨_,PySem.W.mg_of KX G ?_⟩,⟨_,PySem.W.mg_of KX G ?_⟩,L2.a3I KX G ?_ ?_,⟨_,PySem.W.mg_of KX G ?_⟩,L2.eM KX G ?_ ?_ ?_ ?_,L2.eM KX G ?_ ?_ ?_ ?_,L2.eM KX G ?_ ?_ ?_ ?_,L2.eM KX G ?_ ?_ ?_ ?_,L2.eM KX G ?_ ?_ ?_ ?_,L2.eM KX G ?_ ?_ ?_ ?_,L2.eM KX G ?_ ?_ ?_ ?_,L2.eM KX G ?_ ?_ ?_ ?_,L2.eM KX G ?_ ?_ ?_ ?_,L2.eM KX G ?_ ?_ ?_ ?_,L2.eM KX G ?_ ?_ ?_ ?_,L2.eM KX G ?_ ?_ ?_ ?_,L2.eM KX G ?_ ?_ ?_ ?_,L2.eM KX G ?_ ?_ ?_ ?_,L2.eM KX G ?_ ?_ ?_ ?_,L2.eM KX G ?_ ?_ ?_ ?_,L2.eM KX G ?_ ?_ ?_ ?_,L2.eM KX G ?_ ?_ ?_ ?_,L2.eM KX G ?_ ?_ ?_ ?_,L2.eM KX G ?_ ?_ ?_ ?_,L2.eM KX G ?_ ?_ ?_ ?_,L2.eM KX G ?_ ?_ ?_ ?_,L2.eM KX G ?_ ?_ ?_ ?_,L2.eM KX G ?_ ?_ ?_ ?_,L2.eM KX G ?_ ?_ ?_ ?_,?_,⟨_,⟨PySem.W.mg_of KX G ?_,⟨?_,?_,?_,?_⟩,?_,?_,?_,(L2.na ?_),(L2.na ?_),(L2.na ?_),L2.bM ?_ ?_ ?_ ?_ ?_,L2.bM ?_ ?_ ?_ ?_ ?_,L2.bM ?_ ?_ ?_ ?_ ?_,L2.bM ?_ ?_ ?_ ?_ ?_,L2.bM ?_ ?_ ?_ ?_ ?_,L2.bM ?_ ?_ ?_ ?_ ?_,L2.bM ?_ ?_ ?_ ?_ ?_,L2.bM ?_ ?_ ?_ ?_ ?_,L2.bM ?_ ?_ ?_ ?_ ?_,L2.bM ?_ ?_ ?_ ?_ ?_⟩⟩,⟨_,⟨PySem.W.mg_of KX G ?_,⟨?_,?_,?_,?_⟩,?_,?_,?_,(L2.na ?_),(L2.na ?_),(L2.na ?_),(L2.na ?_),L2.bM ?_ ?_ ?_ ?_ ?_,L2.bM ?_ ?_ ?_ ?_ ?_,L2.bM ?_ ?_ ?_ ?_ ?_,L2.bM ?_ ?_ ?_ ?_ ?_,L2.bM ?_ ?_ ?_ ?_ ?_,L2.bM ?_ ?_ ?_ ?_ ?_⟩⟩,⟨_,⟨PySem.W.mg_of KX G ?_,⟨?_,?_,?_,?_⟩,?_,?_,?_,(L2.na ?_),(L2.na ?_),(L2.na ?_),L2.bM ?_ ?_ ?_ ?_ ?_,L2.bM ?_ ?_ ?_ ?_ ?_⟩⟩,⟨_,⟨PySem.W.mg_of KX G ?_,⟨?_,?_,?_,?_⟩,?_,?_,?_,(L2.na ?_),(L2.na ?_),(L2.na ?_),(L2.na ?_),L2.bM ?_ ?_ ?_ ?_ ?_,L2.bM ?_ ?_ ?_ ?_ ?_⟩⟩,⟨_,⟨PySem.W.mg_of KX G ?_,⟨?_,?_,?_,?_⟩,?_,?_,?_,(L2.na ?_),(L2.na ?_),(L2.na ?_),(L2.na ?_),(L2.na ?_),L2.bM ?_ ?_ ?_ ?_ ?_,L2.bM ?_ ?_ ?_ ?_ ?_⟩⟩,⟨_,⟨PySem.W.mg_of KX G ?_,⟨?_,?_,?_,?_⟩,?_,?_,?_,(L2.na ?_),(L2.na ?_),(L2.na ?_),L2.bM ?_ ?_ ?_ ?_ ?_,L2.bM ?_ ?_ ?_ ?_ ?_⟩⟩,⟨_,⟨PySem.W.mg_of KX G ?_,⟨?_,?_,?_,?_⟩,?_,?_,?_,(L2.na ?_),(L2.na ?_),(L2.na ?_),L2.bM ?_ ?_ ?_ ?_ ?_,L2.bM ?_ ?_ ?_ ?_ ?_,L2.bM ?_ ?_ ?_ ?_ ?_,L2.bM ?_ ?_ ?_ ?_ ?_,L2.bM ?_ ?_ ?_ ?_ ?_,L2.bM ?_ ?_ ?_ ?_ ?_⟩⟩,⟨_,⟨PySem.W.mg_of KX G ?_,⟨?_,?_,?_,?_⟩,?_,?_,?_,(L2.na ?_),(L2.na ?_),(L2.na ?_),L2.bM ?_ ?_ ?_ ?_ ?_,L2.bM ?_ ?_ ?_ ?_ ?_,L2.bM ?_ ?_ ?_ ?_ ?_,L2.bM ?_ ?_ ?_ ?_ ?_,L2.bM ?_ ?_ ?_ ?_ ?_,L2.bM ?_ ?_ ?_ ?_ ?_,L2.bM ?_ ?_ ?_ ?_ ?_,L2.bM ?_ ?_ ?_ ?_ ?_,L2.bM ?_ ?_ ?_ ?_ ?_,L2.bM ?_ ?_ ?_ ?_ ?_,L2.bM ?_ ?_ ?_ ?_ ?_,L2.bM ?_ ?_ ?_ ?_ ?_,L2.bM ?_ ?_ ?_ ?_ ?_,L2.bM ?_ ?_ ?_ ?_ ?_,L2.bM ?_ ?_ ?_ ?_ ?_,L2.bM ?_ ?_ ?_ ?_ ?_⟩⟩,⟨_,⟨PySem.W.mg_of KX G ?_,⟨?_,?_,?_,?_⟩,?_,?_,?_,(L2.na ?_),L2.bM ?_ ?_ ?_ ?_ ?_,⟨?_,_,_,?_,?_,?_⟩,L2.bM ?_ ?_ ?_ ?_ ?_⟩⟩,⟨_,⟨PySem.W.mg_of KX G ?_,⟨?_,?_,?_,?_⟩,?_,?_,?_,(L2.na ?_),(L2.na ?_),L2.bM ?_ ?_ ?_ ?_ ?_,L2.bM ?_ ?_ ?_ ?_ ?_,L2.bM ?_ ?_ ?_ ?_ ?_,L2.bM ?_ ?_ ?_ ?_ ?_,?_,⟨?_,?_,?_⟩⟩⟩,⟨_,⟨PySem.W.mg_of KX G ?_,⟨?_,?_,?_,?_⟩,?_,?_,?_,(L2.na ?_),(L2.na ?_),L2.bM ?_ ?_ ?_ ?_ ?_,L2.bM ?_ ?_ ?_ ?_ ?_,L2.bM ?_ ?_ ?_ ?_ ?_,L2.bM ?_ ?_ ?_ ?_ ?_,?_,⟨?_,?_,?_⟩⟩⟩⟩,trivial,⟨⟨_,_,L2.a9i KX G ?_ ?_ ?_ ?_ ?_ ?_,L2.a6P KX G ?_ ?_ ?_ ?_ ?_ ?_ ?_ ?_ ?_,?_,?_⟩⟩⟩
  all_goals try k_is
  all_goals try (first|exact PySem.W.km_tabs_of Y _ (by decide)|kit_is|k_exc|kts_exm|exact rfl|kernel_rfl|decide)
  all_goals exact Value.type "type"