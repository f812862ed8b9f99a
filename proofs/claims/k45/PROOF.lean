import PyProof.Rows.All
import Wide.All
import OpenK.AllK
import Wide.FinOn
import PyProof.EqAt
import PyProof.EqKinds
import PyProof.TupleCall
import Lean
import PySem.Challenge.RW_lazycols_k45_rows_beside
set_option Elab.async false
set_option linter.all false
set_option maxRecDepth 100000
set_option maxHeartbeats 4000000
set_option genSizeOfSpec false
set_option compiler.extract_closed false
namespace L2
abbrev Fg:=PySem.W.Frag
end L2
namespace L2
open PySem PySem.Spec PyProof.Rows
theorem eZ{us:List Value}{n:Nat}(h:us.length=n+ 1):∃a r,us=a::r/\r.length=n:=by
 cases us with
 |nil=>cases h
 |cons a r=>exact⟨a,r,rfl,Nat.succ.inj h⟩
theorem eD{F:FuncData}{ps:List Str}(h:∀a0,bindArgs F ⟨[a0],[]⟩=pure (ps.zip [a0])):∀us:List Value,us.length=1->bindArgs F ⟨us,[]⟩=pure (ps.zip us):=by
 intro us h0
 obtain⟨a0,us0,rfl,h1⟩:=eZ h0
 obtain rfl:=List.length_eq_zero_iff.mp h1
 exact h a0
theorem dF{F:FuncData}{ps:List Str}(h:∀a0 a1,bindArgs F ⟨[a0,a1],[]⟩=pure (ps.zip [a0,a1])):∀us:List Value,us.length=2->bindArgs F ⟨us,[]⟩=pure (ps.zip us):=by
 intro us h0
 obtain⟨a0,us0,rfl,h1⟩:=eZ h0
 obtain⟨a1,us1,rfl,h2⟩:=eZ h1
 obtain rfl:=List.length_eq_zero_iff.mp h2
 exact h a0 a1
theorem eM{F:FuncData}{ps:List Str}(h:∀a0 a1 a2,bindArgs F ⟨[a0,a1,a2],[]⟩=pure (ps.zip [a0,a1,a2])):∀us:List Value,us.length=3->bindArgs F ⟨us,[]⟩=pure (ps.zip us):=by
 intro us h0
 obtain⟨a0,us0,rfl,h1⟩:=eZ h0
 obtain⟨a1,us1,rfl,h2⟩:=eZ h1
 obtain⟨a2,us2,rfl,h3⟩:=eZ h2
 obtain rfl:=List.length_eq_zero_iff.mp h3
 exact h a0 a1 a2
theorem mI{F:FuncData}{ps:List Str}(h:∀a0 a1 a2 a3,bindArgs F ⟨[a0,a1,a2,a3],[]⟩=pure (ps.zip [a0,a1,a2,a3])):∀us:List Value,us.length=4->bindArgs F ⟨us,[]⟩=pure (ps.zip us):=by
 intro us h0
 obtain⟨a0,us0,rfl,h1⟩:=eZ h0
 obtain⟨a1,us1,rfl,h2⟩:=eZ h1
 obtain⟨a2,us2,rfl,h3⟩:=eZ h2
 obtain⟨a3,us3,rfl,h4⟩:=eZ h3
 obtain rfl:=List.length_eq_zero_iff.mp h4
 exact h a0 a1 a2 a3
theorem wK{F:FuncData}{ps:List Str}(h:∀a0 a1 a2 a3 a4,bindArgs F ⟨[a0,a1,a2,a3,a4],[]⟩=pure (ps.zip [a0,a1,a2,a3,a4])):∀us:List Value,us.length=5->bindArgs F ⟨us,[]⟩=pure (ps.zip us):=by
 intro us h0
 obtain⟨a0,us0,rfl,h1⟩:=eZ h0
 obtain⟨a1,us1,rfl,h2⟩:=eZ h1
 obtain⟨a2,us2,rfl,h3⟩:=eZ h2
 obtain⟨a3,us3,rfl,h4⟩:=eZ h3
 obtain⟨a4,us4,rfl,h5⟩:=eZ h4
 obtain rfl:=List.length_eq_zero_iff.mp h5
 exact h a0 a1 a2 a3 a4
theorem yL{F:FuncData}{ps:List Str}(h:∀a0 a1 a2 a3 a4 a5,bindArgs F ⟨[a0,a1,a2,a3,a4,a5],[]⟩=pure (ps.zip [a0,a1,a2,a3,a4,a5])):∀us:List Value,us.length=6->bindArgs F ⟨us,[]⟩=pure (ps.zip us):=by
 intro us h0
 obtain⟨a0,us0,rfl,h1⟩:=eZ h0
 obtain⟨a1,us1,rfl,h2⟩:=eZ h1
 obtain⟨a2,us2,rfl,h3⟩:=eZ h2
 obtain⟨a3,us3,rfl,h4⟩:=eZ h3
 obtain⟨a4,us4,rfl,h5⟩:=eZ h4
 obtain⟨a5,us5,rfl,h6⟩:=eZ h5
 obtain rfl:=List.length_eq_zero_iff.mp h6
 exact h a0 a1 a2 a3 a4 a5
theorem lt3{n:Nat}(h:n<3:=by first|assumption|omega):n=0\/ n=1\/ n=2:=by omega
abbrev aB:=Sum Int Str
def oR:aB->Value->Bool
 | .inl k,v=>Value.isInt k v
 | .inr x,v=>Value.isStrOf x v
def keyH(w:World):aB->Int
 | .inl k=>hashInt k
 | .inr x=>hashStr w x
theorem lD:∀{k:aB} {v:Value},oR k v=true->(∃i t,k=Sum.inl i/\v=Value.int i t)\/ (∃x t,k=Sum.inr x/\v=Value.str x t)
 | .inl i,v,h=>by
  obtain⟨t,e⟩:=Value.isInt_shape (k:=i) (v:=v) h
  exact .inl ⟨i,t,rfl,e⟩
 | .inr x,v,h=>by
  obtain⟨t,e⟩:=Value.isStrOf_shape (x:=x) (v:=v) h
  exact .inr ⟨x,t,rfl,e⟩
theorem a44(i:Int)(t:Tok):oR (.inl i) (.int i t)=true:=by simp[oR,Value.isInt]
theorem a8F(x:Str)(t:Tok):oR (.inr x) (.str x t)=true:=by simp[oR,Value.isStrOf]
theorem a8f(a b:Int):decide ((Sum.inl a:aB)=Sum.inl b)=(a==b):=by
 by_cases e:a=b
 ·subst e;simp
 ·have h:¬(Sum.inl a:aB)=Sum.inl b:=fun q=>e (Sum.inl.inj q)
  rw[decide_eq_false h]
  exact(beq_eq_false_iff_ne.mpr e).symm
theorem a7w(a b:Str):decide ((Sum.inr a:aB)=Sum.inr b)=decide (a=b):=by
 by_cases e:a=b
 ·subst e;simp
 ·have h:¬(Sum.inr a:aB)=Sum.inr b:=fun q=>e (Sum.inr.inj q)
  rw[decide_eq_false h,decide_eq_false e]
theorem a7K(a:Int)(b:Str):decide ((Sum.inl a:aB)=Sum.inr b)=false:=decide_eq_false (fun q=>nomatch q)
theorem a5C(a:Str)(b:Int):decide ((Sum.inr a:aB)=Sum.inl b)=false:=decide_eq_false (fun q=>nomatch q)
def fS(prog:Program)(w:World):PySem.KeyKind prog w aB where
 is:=oR
 hash:=keyH w
 inj:=fun v a b ha hb=>by
  rcases lD ha with⟨i,t,rfl,rfl⟩|⟨x,t,rfl,rfl⟩
  ·rcases lD hb with⟨j,u,rfl,e⟩|⟨y,u,rfl,e⟩
   ·injection e with e1 _;rw[e1]
   ·exact nomatch e
  ·rcases lD hb with⟨j,u,rfl,e⟩|⟨y,u,rfl,e⟩
   ·exact nomatch e
   ·injection e with e1 _;rw[e1]
 byValue:=fun k v h=>by
  rcases lD h with⟨i,t,rfl,rfl⟩|⟨x,t,rfl,rfl⟩<;>rfl
 pyHash:=fun hv h=>by
  rcases lD hv with⟨i,t,rfl,rfl⟩|⟨x,t,rfl,rfl⟩
  ·exact wpAny_pyHash_int h
  ·exact wpAny_pyHash_str h
 eqBool:=fun hu hv h=>by
  rcases lD hu with⟨i,t,rfl,rfl⟩|⟨x,t,rfl,rfl⟩
  ·rcases lD hv with⟨j,u,rfl,rfl⟩|⟨y,u,rfl,rfl⟩
   ·rw[a8f]at h;exact wpAny_eqBool_int h
   ·rw[a7K]at h;exact SeqAt.EqAt.int_str i t y u _ _ _ _ h
  ·rcases lD hv with⟨j,u,rfl,rfl⟩|⟨y,u,rfl,rfl⟩
   ·rw[a5C]at h;exact SeqAt.EqAt.str_int x t j u _ _ _ _ h
   ·rw[a7w]at h;exact wpAny_eqBool_str h
 «strs» :=fun k x t v h=>by
  rcases lD h with⟨i,u,rfl,e⟩|⟨y,u,rfl,e⟩
  ·exact nomatch e
  ·injection e with e1 _
   subst e1
   cases v<;>rfl
theorem a9x(prog:Program)(w:World)(i:Int)(t:Tok):(fS prog w).is (.inl i) (.int i t)=true:=a44 i t
theorem a8C(prog:Program)(w:World)(x:Str)(t:Tok):(fS prog w).is (.inr x) (.str x t)=true:=a8F x t
inductive V where
 |non|bl(b:Bool)|int(i:Int)|str(x:Str)|byt(b:Array UInt8)|flt(b:UInt64)|ref(a:Addr)|ty(n:String)
 deriving DecidableEq
def bG:V->Value->Prop
 | .non,u=>u=Value.none
 | .bl b,u=>u=Value.bool b
 | .int i,u=>∃t,u=Value.int i t
 | .str x,u=>∃t,u=Value.str x t
 | .byt b,u=>∃t,u=Value.bytes b t
 | .flt b,u=>∃t,u=Value.float b t
 | .ref a,u=>u=Value.ref a
 | .ty n,u=>u=Value.type n
abbrev bE:List V->List Value->Prop:=Paired bG
theorem bE.length{xs:List V}{us:List Value}(r:bE xs us):xs.length=us.length:=Paired.length r
theorem bE.get:∀{xs:List V} {us:List Value} {i:Nat} {x:V},bE xs us->xs[i]?=some x->∃u,us[i]?=some u/\bG x u
 |_,_,_,_,.nil,e=>by simp at e
 |_,_,0,_,.cons r _,e=>by simp at e;subst e;exact⟨_,rfl,r⟩
 |_,_,i+ 1,x,.cons _ t,e=>by
  obtain⟨u,h1,h2⟩:=bE.get (i:=i) (x:=x) t (by simpa using e)
  exact⟨u,by simpa using h1,h2⟩
theorem bE.append:∀{xs ys:List V} {us ws:List Value},bE xs us->bE ys ws->bE (xs++ ys) (us++ ws)
 |_,_,_,_,.nil,s=>s
 |_,_,_,_,.cons r t,s=> .cons r (bE.append t s)
theorem bE.take:∀{xs:List V} {us:List Value} (n:Nat),bE xs us->bE (xs.take n) (us.take n)
 |_,_,0,_=> .nil
 |_,_,_+ 1,.nil=> .nil
 |_,_,n+ 1,.cons r t=> .cons r (bE.take n t)
theorem bE.drop:∀{xs:List V} {us:List Value} (n:Nat),bE xs us->bE (xs.drop n) (us.drop n)
 |_,_,0,r=>r
 |_,_,_+ 1,.nil=> .nil
 |_,_,n+ 1,.cons _ t=>bE.drop n t
def fV:Option V->Option Value->Prop
 |some v,some u=>bG v u
 |none,none=>True
 |_,_=>False
def KV{κ:Type}:List (κ×V)->List (κ×Value)->Prop:=Paired fun(p:κ×V) (q:κ×Value)=>p.1=q.1/\bG p.2 q.2
def kV:aB->V
 | .inl i=> .int i
 | .inr x=> .str x
inductive HO where
 |lst(xs:List V)
 |tup(xs:List V)
 |dK(kvs:List (aB×V))|dT(kvs:List (List aB×V))
 |set(S:Int->Bool)(n:Nat)
 |ins(C dx:Addr)(fs:List (Str×V))
 |own(x:Addr)
 |xd(fs:List (Str×V))
 |met(f x:Addr)
 |rng(lo hi:Int)
 |frz(o:Obj)(u:HO)
 |tbl(ps:Array Value)
 |ext(φ:Heap->Prop)
abbrev Hp:=Addr->Option HO
def upd(H:Hp)(a:Addr)(o:HO):Hp:=fun b=>if b=a then some o else H b
theorem aJ{H:Hp}{a:Addr}{o:HO}:upd H a o a=some o:=by unfold upd;rw[if_pos rfl]
theorem aG{H:Hp}{a b:Addr}{o:HO}(h:b≠a):upd H a o b=H b:=by unfold upd;rw[if_neg h]
theorem kE{H:Hp}{a b:Addr}{o u:HO}(h:H a=some o)(h':H b=some u)(d:o≠u):a≠b:=by
 intro e;subst e;rw[h]at h';exact d (Option.some.inj h')
theorem aX{H:Hp}{a b:Addr}{o:HO}(h:H a=some o)(h':H b=none):a≠b:=by
 intro e;subst e;rw[h]at h';cases h'
section
variable(P:Program)(w:World)
def cV(H:Hp)(h:Heap)(a:Addr):HO->Prop
 | .lst xs=>xs.length<=sizeLine/\∃(its:List Value) (n:Nat),bE xs its/\h.get? a=some {cls:=.type "list",data:=.seq its.toArray n}
 | .tup xs=>xs.length<=sizeLine/\∃its:List Value,bE xs its/\IsTup h a its.toArray
 | .dK kvs=>kvs.length<=sizeLine/\(a==sysModules)=false/\∃vs,KV kvs vs/\h.DictOf (fS P w) a vs
 | .dT kvs=>kvs.length<=sizeLine/\(a==sysModules)=false/\∃xs:List (List aB×Addr×Value),
  Paired (fun(p:List aB×V) (q:List aB×Addr×Value)=>p.1=q.1/\H q.2.1=some (.tup (p.1.map kV))/\bG p.2 q.2.2) kvs xs/\
  ∃o es ep,h.get? a=some o/\o.ExactDict/\o.data= .dict es ep/\es.toList=xs.map (entryOfKey (tupleKind (fS P w)))/\(xs.map (·.1)).Nodup
 | .set S n=>h.SetOf (intKind P w) a S n
 | .ins C dx fs=>H dx=some (.own a)/\fs.length<=1000/\dx≠a/\h.get? a=some (PySem.W.instObj C dx)/\
  ∃mA,h.Ns1 dx mA/\(∀f,fV (fs.lookup f) (mA f))/\PySem.Within mA (fs.map (·.1))
 | .own _=>∃o,h.get? a=some o
 | .xd fs=>∃mA,h.Ns1 a mA/\∀f,fV (fs.lookup f) (mA f)
 | .rng lo hi=>∃t u v,h.get? a=some {cls:=.type "range",data:=.fields #[.int lo t,.int hi u,.int 1 v]}
 | .frz o u=>h.get? a=some o/\cV H h a u
 | .tbl ps=>h.get? a=some {cls:=.none,data:=.fields ps}
 | .met f x=>h.get? a=some (PySem.W.methodObj (.ref f) (.ref x))
 | .ext φ=>φ h/\(∃o,h.get? a=some o)/\∀h1 h2:Heap,φ h1->(∀o,h1.get? a=some o->h2.get? a=some o)->φ h2
def bX(H:Hp)(h:Heap):Prop:=∀a o,H a=some o->cV P w H h a o
end
section
variable{P:Program}{w:World}{H H':Hp}{h h':Heap}{a:Addr}{o:HO}
theorem cV.lt(x:cV P w H h a o):a<h.objs.size:=by
 cases o with
 |lst xs=>obtain⟨_,_,_,_,e⟩:=x;exact Heap.lt_size e
 |tup xs=>obtain⟨_,_,_,p⟩:=x;exact p.lt
 |dK kvs=>obtain⟨_,_,_,_,o,_,_,e,_⟩:=x;exact Heap.lt_size e
 |dT kvs=>obtain⟨_,_,_,_,o,_,_,e,_⟩:=x;exact Heap.lt_size e
 |set S n=>obtain⟨o,_,_,_,e,_⟩:=x;exact Heap.lt_size e
 |ins C dx fs=>obtain⟨_,_,_,e,_⟩:=x;exact Heap.lt_size e
 |own y=>obtain⟨_,e⟩:=x;exact Heap.lt_size e
 |xd fs=>obtain⟨_,⟨_,_,_,e,_⟩,_⟩:=x;exact Heap.lt_size e
 |rng lo hi=>obtain⟨_,_,_,e⟩:=x;exact Heap.lt_size e
 |frz ob u=>obtain⟨e,_⟩:=x;exact Heap.lt_size e
 |tbl ps=>exact Heap.lt_size (show h.get? a=some _ from x)
 |met f y=>exact Heap.lt_size (show h.get? a=some _ from x)
 |ext φ=>obtain⟨_,⟨_,e⟩,_⟩:=x;exact Heap.lt_size e
theorem Paired.mapP{α β:Type}{F G:α->β->Prop}:∀{l₁:List α} {l₂:List β},Paired F l₁ l₂->(∀a b,F a b->G a b)->Paired G l₁ l₂
 |_,_,.nil,_=> .nil
 |_,_,.cons r t,f=> .cons (f _ _ r) (Paired.mapP t f)
theorem cV.stay(x:cV P w H h a o)(k:∀b u,(b=a\/ H b=some (.own a))->h.get? b=some u->h'.get? b=some u)
 (ho:∀b,H b=some (.own a)->H' b=some (.own a))(ht:∀b xs,H b=some (.tup xs)->H' b=some (.tup xs)):cV P w H' h' a o:=by
 induction o with
 |lst xs=>obtain⟨z,its,n,r,e⟩:=x;exact⟨z,its,n,r,k _ _ (.inl rfl) e⟩
 |tup xs=>obtain⟨z,its,r,ob,e,c⟩:=x;exact⟨z,its,r,ob,k _ _ (.inl rfl) e,c⟩
 |dK kvs=>obtain⟨z,y,vs,r,ob,es,ep,e,c⟩:=x;exact⟨z,y,vs,r,ob,es,ep,k _ _ (.inl rfl) e,c⟩
 |dT kvs=>
  obtain⟨z,y,xs,r,ob,es,ep,e,c⟩:=x
  exact⟨z,y,xs,Paired.mapP r fun p q z=>⟨z.1,ht _ _ z.2.1,z.2.2⟩,ob,es,ep,k _ _ (.inl rfl) e,c⟩
 |set S n=>obtain⟨ob,es,ep,t,e,c⟩:=x;exact⟨ob,es,ep,t,k _ _ (.inl rfl) e,c⟩
 |ins C dx fs=>
  obtain⟨d,z,ne,e,mA,⟨od,es,ep,e2,c⟩,r⟩:=x
  exact⟨ho _ d,z,ne,k _ _ (.inl rfl) e,mA,⟨od,es,ep,k _ _ (.inr d) e2,c⟩,r⟩
 |own y=>obtain⟨ob,e⟩:=x;exact⟨ob,k _ _ (.inl rfl) e⟩
 |xd fs=>obtain⟨mA,⟨od,es,ep,e,c⟩,r⟩:=x;exact⟨mA,⟨od,es,ep,k _ _ (.inl rfl) e,c⟩,r⟩
 |rng lo hi=>obtain⟨t,u,v,e⟩:=x;exact⟨t,u,v,k _ _ (.inl rfl) e⟩
 |frz ob u ih=>obtain⟨e,q⟩:=x;exact⟨k _ _ (.inl rfl) e,ih q⟩
 |tbl ps=>
  have e:h.get? a=some {cls:=.none,data:=.fields ps}:=x
  show h'.get? a=some {cls:=.none,data:=.fields ps}
  exact k a _ (.inl rfl) e
 |met f y=>
  have e:h.get? a=some (PySem.W.methodObj (.ref f) (.ref y)):=x
  show h'.get? a=some (PySem.W.methodObj (.ref f) (.ref y))
  exact k a _ (.inl rfl) e
 |ext φ=>obtain⟨p,⟨o,e⟩,st⟩:=x;exact⟨st _ _ p fun o q=>k _ _ (.inl rfl) q,⟨o,k _ _ (.inl rfl) e⟩,st⟩
theorem bX.lt(x:bX P w H h)(e:H a=some o):a<h.objs.size:=(x a o e).lt
theorem bX.fresh(x:bX P w H h)(e:h.objs.size<=a):H a=none:=by
 cases q:H a with
 |none=>rfl
 |some u=>exact absurd (Nat.lt_of_lt_of_le (x.lt q) e) (Nat.lt_irrefl _)
theorem bX.kept(x:bX P w H h)(k:∀b u,h.get? b=some u->h'.get? b=some u):bX P w H h':=fun a o e=>
 (x a o e).stay (fun b u _ q=>k b u q) (fun _ q=>q) fun _ _ q=>q
theorem bX.laid(x:bX P w H h)(k:∀b u,h.get? b=some u->h'.get? b=some u)(hp:h.objs.size<=a)(new:cV P w (upd H a o) h' a o):bX P w (upd H a o) h':=fun b u e=>by
 have hn:=x.fresh hp
 by_cases hb:b=a
 ·subst hb;rw[aJ]at e;cases e;exact new
 ·rw[aG hb]at e
  exact(x b u e).stay (fun c v _ q=>k c v q) (fun c q=>by rw[aG (aX q hn)];exact q) fun c xs q=>by rw[aG (aX q hn)];exact q
end
def Rd(H:Hp)(a:Addr)(u:HO):Prop:=H a=some u\/ ∃o,H a=some (.frz o u)
theorem Rd.ok{P:Program}{w:World}{H:Hp}{h:Heap}{a:Addr}{u:HO}(r:Rd H a u)(x:bX P w H h):cV P w H h a u:=by
 rcases r with r|⟨o,r⟩
 ·exact x a u r
 ·obtain⟨_,q⟩:=x a _ r
  exact q
def qO:Option HO->Prop
 |some (.lst _)=>True
 |some (.dK _)=>True
 |some (.dT _)=>True
 |some (.set _ _)=>True
 |some (.ins _ _ _)=>True
 |some (.ext _)=>True
 |_=>False
section
variable{P:Program}{w:World}{H:Hp}{h h':Heap}{x e:Addr}{o':HO}
theorem bX.write(ok:bX P w H h)(mu:qO (H x))(he:e=x\/ H e=some (.own x))(k:∀b u,b≠e->h.get? b=some u->h'.get? b=some u)(heo:∃u,h'.get? e=some u)
 (new:cV P w (upd H x o') h' x o'):bX P w (upd H x o') h':=fun b u q=>by
 have nown:∀c y,H c=some (.own y)->c≠x:=fun c y r z=>by subst z;rw[r]at mu;exact mu
 have ntup:∀c xs,H c=some (.tup xs)->c≠x:=fun c xs r z=>by subst z;rw[r]at mu;exact mu
 by_cases hb:b=x
 ·subst hb;rw[aJ]at q;cases q;exact new
 ·rw[aG hb]at q
  by_cases hbe:b=e
  ·have q':H b=some (.own x):=by
    rcases he with z|z
    ·exact absurd (hbe.trans z) hb
    ·rw[hbe];exact z
   rw[q]at q';cases q'
   obtain⟨v,hv⟩:=heo
   exact⟨v,by rw[hbe];exact hv⟩
  ·refine(ok b u q).stay (fun c v hc r=>k c v ?_ r) (fun c r=>by rw[aG (nown c b r)];exact r) fun c xs r=>by rw[aG (ntup c xs r)];exact r
   rcases hc with rfl|hc
   ·exact hbe
   ·rintro rfl
    rcases he with z|z
    ·exact nown c b hc z
    ·rw[hc]at z;cases z;exact hb rfl
end
structure Un(fs ex:List Addr)(H H':Hp)(h h':Heap):Prop where
 keep:∀b o,h.get? b=some o->H b=none->b∉fs->b∉ex->h'.get? b=some o
 slot:∀b o,h.get? b=some o->H b=none->b∈fs->b∉ex->∃sl,h'.get? b=some {o with slots:=sl}
 free:∀b o,h.get? b=some o->H b=none->b∉ex->H' b=none
 there:∀b o,h.get? b=some o->b∉ex->∃o',h'.get? b=some o'
 tups:∀b xs,H b=some (.tup xs)->H' b=some (.tup xs)
 frzs:∀b o u,H b=some (.frz o u)->H' b=some (.frz o u)
 tbls:∀b ps,H b=some (.tbl ps)->∃more,H' b=some (.tbl (ps++ more))
section
variable{fs fs' ex ex':List Addr}{H H1 H2:Hp}{h h1 h2 h':Heap}{a x e:Addr}{o:HO}
theorem Un.any(u:Un fs ex H H1 h h1){b:Addr}{ob:Obj}(q:h.get? b=some ob)(n:H b=none)(hx:b∉ex):∃sl,h1.get? b=some {ob with slots:=sl}:=by
 by_cases hb:b∈fs
 ·exact u.slot b ob q n hb hx
 ·exact⟨ob.slots,u.keep b ob q n hb hx⟩
theorem Un.kept(k:∀b u,h.get? b=some u->h'.get? b=some u):Un fs ex H H h h':=
 ⟨fun b ob q _ _ _=>k b ob q,fun b ob q _ _ _=>⟨ob.slots,k b ob q⟩,fun _ _ _ n _=>n,fun b ob q _=>⟨ob,k b ob q⟩,fun _ _ q=>q,fun _ _ _ q=>q,fun _ ps q=>⟨#[],by rw[q];simp⟩⟩
theorem Un.refl:Un fs ex H H h h:=Un.kept fun _ _ q=>q
theorem Un.laid(k:∀b u,h.get? b=some u->h'.get? b=some u)(hp:h.objs.size<=a)(hn:H a=none):Un fs ex H (upd H a o) h h' where
 keep:=fun b u q _ _ _=>k b u q
 slot:=fun b u q _ _ _=>⟨u.slots,k b u q⟩
 free:=fun b u q n _=>by rw[aG (Nat.ne_of_lt (Nat.lt_of_lt_of_le (Heap.lt_size q) hp))];exact n
 there:=fun b u q _=>⟨u,k b u q⟩
 tups:=fun b xs q=>by rw[aG (aX q hn)];exact q
 frzs:=fun b u xs q=>by rw[aG (aX q hn)];exact q
 tbls:=fun b ps q=>⟨#[],by rw[aG (aX q hn),q];simp⟩
theorem Un.write(mu:qO (H x))(he:e=x\/ H e=some (.own x))(k:∀b u,b≠e->h.get? b=some u->h'.get? b=some u)(heo:∃u,h'.get? e=some u):Un fs ex H (upd H x o) h h':=by
 have hx:∀b,H b=none->b≠x:=fun b n z=>by subst z;rw[n]at mu;exact mu
 have hb:∀b,H b=none->b≠e:=fun b n z=>by
  subst z
  rcases he with r|r
  ·exact hx b n r
  ·rw[n]at r;cases r
 have hm:∀b u,H b=some u->¬qO (some u)->b≠x:=fun b u q nm z=>by subst z;rw[q]at mu;exact nm mu
 refine⟨fun b u q n _ _=>k b u (hb b n) q,fun b u q n _ _=>⟨u.slots,k b u (hb b n) q⟩,fun b u q n _=>by rw[aG (hx b n)];exact n,fun b u q _=> ?_,
  fun b xs q=>by rw[aG (hm b _ q fun z=>z)];exact q,fun b u xs q=>by rw[aG (hm b _ q fun z=>z)];exact q,fun b ps q=>⟨#[],by rw[aG (hm b _ q fun z=>z),q];simp⟩⟩
 by_cases hbe:b=e
 ·subst hbe;exact heo
 ·exact⟨u,k b u hbe q⟩
end
noncomputable def tI (h:Heap) (H:Hp):List Addr:=(List.range h.objs.size).filter fun a=>(H a).isSome
noncomputable def lC (h:Heap) (H:Hp):Heap:=PySem.W.hideAll h (tI h H)
theorem a8X(h:Heap)(H:Hp):(lC h H).objs.size=h.objs.size:=PySem.W.hideAll_size _ _
theorem a46{h:Heap}{H:Hp}{b:Addr}{o:Obj}(e:h.get? b=some o)(n:H b=none):(lC h H).get? b=some o:=
 PySem.W.hideAll_get _ e fun hm=>by
  have q:(H b).isSome=true:=(List.mem_filter.mp hm).2
  rw[n]at q;simp at q
theorem a6Z{h:Heap}{H:Hp}{b:Addr}{o:Obj}(e:(lC h H).get? b=some o):h.get? b=some o/\H b=none:=by
 have e':h.get? b=some o:=PySem.W.of_hideAll (tI h H) e
 refine⟨e',?_⟩
 cases q:H b with
 |none=>rfl
 |some x=>
  have hm:b∈tI h H:=List.mem_filter.mpr ⟨List.mem_range.mpr (Heap.lt_size e'),by simp[q]⟩
  have z:(lC h H).get? b=none:=PySem.W.hideAll_none (tI h H) hm
  rw[z]at e;cases e
noncomputable def a6K (g h:Heap) (L:Addr):List (Addr×Obj):=(List.range h.objs.size).filterMap fun a=>if a=L\/ (g.get? a).isSome=true then none else(h.get? a).map fun o=>(a,o)
noncomputable def dQ (g h:Heap) (L d:Addr):List (Addr×Obj):=(a6K g h L).filter fun p=>decide (p.1≠d)
structure Mod(K:Fg)(mg:Str->Option Value)(base:Heap):Prop where
 kin:K.In base
 glob:base.Ns mainGlobals mg
 blt:∃mb,base.Ns builtinsNs mb/\∀x:Str,x≠ "__name__" ->mb x=bootBuiltins x
 nolimit:base.NoLimit
structure Cx where
 prog:Program
 w:World
 K:Fg
 mg:Str->Option Value
 base:Heap
 A:Around
 N:List Str
 s₀:Shared
 H₀:Hp
 env:Env
 outer:List Env
 stack:List Env
 ex:List Addr
 fn:Str->Bool
 calm:Bool
 pn:List (Addr×Obj)
 xe:Value->Shared->Prop
def gH(l:List Env):List Addr:=l.filterMap (·.frame)
abbrev Cx.fs(X:Cx):List Addr:=gH X.outer
def uD(sc:Scope)(x:Str):Prop:=sc.names.lookup x=some .local\/ sc.names.lookup x=some .cell\/ sc.names.lookup x=some .free
def sV(sc:Scope)(x:Str):Prop:=sc.names.lookup x=some .local\/ sc.names.lookup x=some .cell
def Look(env:Env)(h:Heap)(m:Str->Option Value)(x:Str)(u:Value):Prop:=
 (env.kindOf x=some .local/\m x=some u)\/ ((env.kindOf x=some .cell\/ env.kindOf x=some .free)/\∃c,env.cells.lookup x=some c/\h.IsCell c (some u))
structure Cx.Ok(X:Cx):Prop where
 mod:Mod X.K X.mg X.base
 kind:X.env.scope.kind= .function
 glob:X.env.globals=mainGlobals
 blt:X.env.builtins=builtinsNs
 above:X.s₀.heap.objs.size<=X.env.locals
 inj:∀x y c,X.env.cells.lookup x=some c->X.env.cells.lookup y=some c->x=y
 has:∀x,(X.env.kindOf x=some .cell\/ X.env.kindOf x=some .free)->∃c,X.env.cells.lookup x=some c
 cab:∀x c,X.fn x=true->X.env.cells.lookup x=some c->X.s₀.heap.objs.size<=c
 hd:X.calm=true->X.A.handled=none
 frames:X.A.frames=some X.stack
 stk:X.stack=X.outer\/ (X.stack=X.env::X.outer/\X.env.frame=some X.env.locals)
 exf:∀b∈X.ex,b≠X.env.locals/\∀x c,X.env.cells.lookup x=some c->c≠b
 bs:∀b o,X.base.get? b=some o->X.s₀.heap.get? b=some o/\X.H₀ b=none
 bsz:X.base.objs.size<=X.s₀.heap.objs.size
 noex:∀b o,X.base.get? b=some o->b∉X.ex
 exfs:∀b∈X.ex,b∉X.fs
 funs:X.s₀.heap.FunFrames X.base X.outer
 frf:∀b∈X.fs,X.H₀ b=none
structure Inv(X:Cx)(pins:List (Addr×Obj))(σ:List (Option V))(H:Hp)(s:Shared):Prop where
 ok:X.Ok
 os:s.os=X.s₀.os
 bare:AllBare s.gens
 base:Un X.fs X.ex X.H₀ H X.s₀.heap s.heap
 loc:∃m,s.heap.Ns X.env.locals m/\∀(i:Nat) (x:Str) (v:V),X.N[i]?=some x->σ[i]?=some (some v)->uD X.env.scope x->∃u,bG v u/\Look X.env s.heap m x u
 cell:∀x c,X.env.cells.lookup x=some c->∃v,s.heap.IsCell c v
 free:H X.env.locals=none
 freeC:∀x c,X.env.cells.lookup x=some c->H c=none
 pin:∀p∈X.pn++ pins,s.heap.get? p.1=some p.2/\H p.1=none/\p.1≠X.env.locals/\p.1∉X.fs/\∀v,p.2.data≠ .cell v
 hok:bX X.prog X.w H s.heap
 len:σ.length=X.N.length
section
variable{X:Cx}{pins:List (Addr×Obj)}{σ:List (Option V)}{H H':Hp}{s:Shared}{h':Heap}
theorem Cx.Ok.nofr(ok:X.Ok){b:Addr}{o:Obj}(e:X.base.get? b=some o):b∉X.fs:=fun hb=>by
 have:=(ok.funs.mem hb).1
 rw[e]at this;cases this
theorem Inv.bs(I:Inv X pins σ H s):∀b o,X.base.get? b=some o->s.heap.get? b=some o/\H b=none:=fun b o e=>
 ⟨I.base.keep b o (I.ok.bs b o e).1 (I.ok.bs b o e).2 (I.ok.nofr e) (I.ok.noex b o e),I.base.free b o (I.ok.bs b o e).1 (I.ok.bs b o e).2 (I.ok.noex b o e)⟩
theorem Inv.bk(I:Inv X pins σ H s):∀b o,X.base.get? b=some o->s.heap.get? b=some o:=fun b o e=>(I.bs b o e).1
theorem Inv.mod(I:Inv X pins σ H s):Mod X.K X.mg X.base:=I.ok.mod
theorem Inv.kIn(I:Inv X pins σ H s):X.K.In s.heap:=I.ok.mod.kin.keeps I.bk
theorem Inv.lt(I:Inv X pins σ H s):X.env.locals<s.heap.objs.size:=let ⟨_,hn,_⟩:=I.loc;hn.lt
theorem Inv.sz(I:Inv X pins σ H s):X.s₀.heap.objs.size<=s.heap.objs.size:=Nat.le_trans I.ok.above (Nat.le_of_lt I.lt)
theorem Inv.nofs(I:Inv X pins σ H s){a:Addr}(h:s.heap.objs.size<=a):a∉X.fs:=fun hb=>by
 obtain⟨_,o,ho,_⟩:=I.ok.funs.mem hb
 exact absurd (Nat.lt_of_lt_of_le (Heap.lt_size ho) (Nat.le_trans I.sz h)) (Nat.lt_irrefl _)
theorem Inv.cne(I:Inv X pins σ H s):∀x c,X.env.cells.lookup x=some c->c≠X.env.locals:=fun x c e z=>by
 obtain⟨v,o,ho,hd⟩:=I.cell x c e
 obtain⟨m,⟨o',es,ep,ho',hd',_⟩,_⟩:=I.loc
 rw[z,ho']at ho;cases ho;rw[hd']at hd;cases hd
theorem Inv.funs(I:Inv X pins σ H s):s.heap.FunFrames X.base X.outer:=by
 have all:∀(l:List Env),(∀b∈gH l,b∈X.fs)->X.s₀.heap.FunFrames X.base l->s.heap.FunFrames X.base l:=by
  intro l
  induction l with
  |nil=>intro _ _;trivial
  |cons env r ih=>
   intro hs hl
   obtain⟨hk,⟨L,o,hf,hn,ho,hd⟩,hr⟩:=hl
   have hL:L∈X.fs:=hs L (by unfold gH;rw[List.filterMap_cons,hf];exact List.mem_cons_self)
   obtain⟨sl,e⟩:=I.base.slot L o ho (I.ok.frf L hL) hL fun z=>I.ok.exfs L z hL
   exact⟨hk,⟨L,_,hf,hn,e,hd⟩,ih (fun b hb=>hs b (by unfold gH;rw[List.filterMap_cons,hf];exact List.mem_cons_of_mem _ hb)) hr⟩
 exact all X.outer (fun _ hb=>hb) I.ok.funs
theorem Inv.stack(I:Inv X pins σ H s):s.heap.FunFrames X.base X.stack:=by
 rcases I.ok.stk with e|⟨e,hf⟩
 ·rw[e];exact I.funs
 ·rw[e]
  obtain⟨m,hn,_⟩:=I.loc
  refine .cons (by rw[I.ok.kind];decide) hf hn ?_ I.funs
  exact Heap.get?_none_of_le (Nat.le_trans I.ok.bsz I.ok.above)
theorem Inv.stkSub(I:Inv X pins σ H s):∀b∈gH X.stack,b∈X.env.locals::X.fs:=fun b hb=>by
 rcases I.ok.stk with e|⟨e,hf⟩
 ·rw[e]at hb;exact List.mem_cons_of_mem _ hb
 ·rw[e]at hb
  unfold gH at hb
  rw[List.filterMap_cons,hf]at hb
  exact hb
theorem Inv.stkFree(I:Inv X pins σ H s):∀b∈gH X.stack,H b=none:=fun b hb=>by
 rcases List.mem_cons.mp (I.stkSub b hb)with e|hb
 ·rw[e];exact I.free
 ·obtain⟨_,o,ho,_⟩:=I.ok.funs.mem hb
  exact I.base.free b o ho (I.ok.frf b hb) fun z=>I.ok.exfs b z hb
theorem Inv.step{g':Array GenState}{t':Nat}{d':Drawn}{ch:List Addr}(I:Inv X pins σ H s)
 (hch:∀b∈ch,(b∈X.ex\/ X.s₀.heap.objs.size<=b)/\b≠X.env.locals/\(∀x c,X.env.cells.lookup x=some c->c≠b)/\∀p∈X.pn++ pins,p.1≠b)
 (keep:∀b o,b≠X.env.locals->b∉X.fs->b∉ch->s.heap.get? b=some o->H b=none->h'.get? b=some o)
 (slot:∀b o,b≠X.env.locals->b∈X.fs->b∉ch->s.heap.get? b=some o->H b=none->∃sl,h'.get? b=some {o with slots:=sl})(free:∀b o,b∉ch->s.heap.get? b=some o->H b=none->H' b=none)
 (there:∀b o,b∉ch->s.heap.get? b=some o->∃o',h'.get? b=some o')
 (tups:∀b xs,H b=some (.tup xs)->H' b=some (.tup xs))(frzs:∀b o u,H b=some (.frz o u)->H' b=some (.frz o u))(tbls:∀b ps,H b=some (.tbl ps)->∃more,H' b=some (.tbl (ps++ more)))
 (ns:∀m,s.heap.Ns X.env.locals m->h'.Ns X.env.locals m)(hok:bX X.prog X.w H' h')(hg:AllBare g'):
 Inv X pins σ H' {s with heap:=h',gens:=g',drawn:=d',toks:=t'}:=by
 have neL:∀b o,X.s₀.heap.get? b=some o->b≠X.env.locals:=fun b o e=>Nat.ne_of_lt (Nat.lt_of_lt_of_le (Heap.lt_size e) I.ok.above)
 have neC:∀b o,X.s₀.heap.get? b=some o->b∉X.ex->b∉ch:=fun b o e hx hb=>by
  rcases(hch b hb).1 with z|z
  ·exact hx z
  ·exact absurd (Nat.lt_of_lt_of_le (Heap.lt_size e) z) (Nat.lt_irrefl _)
 have aU:∀x c,X.env.cells.lookup x=some c->∀v,s.heap.IsCell c v->h'.IsCell c v:=fun x c e v ⟨o,ho,hd⟩=>by
  have nch:c∉ch:=fun z=>(hch c z).2.2.1 x c e rfl
  by_cases hc:c∈X.fs
  ·obtain⟨sl,q⟩:=slot c o (I.cne x c e) hc nch ho (I.freeC x c e)
   exact⟨_,q,hd⟩
  ·exact⟨o,keep c o (I.cne x c e) hc nch ho (I.freeC x c e),hd⟩
 refine⟨I.ok,I.os,hg,⟨fun b o e n hb hx=> ?_,fun b o e n hb hx=> ?_,fun b o e n hx=> ?_,fun b o e hx=> ?_,fun b xs e=>tups b xs (I.base.tups b xs e),fun b o xs e=>frzs b o xs (I.base.frzs b o xs e),fun b ps e=> ?_⟩,?_,fun x c e=> ?_,?_,fun x c e=> ?_,fun p hp=> ?_,hok,I.len⟩
 ·exact keep b o (neL b o e) hb (neC b o e hx) (I.base.keep b o e n hb hx) (I.base.free b o e n hx)
 ·obtain⟨sl,e1⟩:=I.base.slot b o e n hb hx
  obtain⟨sl',e2⟩:=slot b _ (neL b o e) hb (neC b o e hx) e1 (I.base.free b o e n hx)
  exact⟨sl',e2⟩
 ·obtain⟨o',e1⟩:=I.base.there b o e hx
  exact free b o' (neC b o e hx) e1 (I.base.free b o e n hx)
 ·obtain⟨o',e1⟩:=I.base.there b o e hx
  exact there b o' (neC b o e hx) e1
 ·obtain⟨m1,e1⟩:=I.base.tbls b ps e
  obtain⟨m2,e2⟩:=tbls b _ e1
  exact⟨m1++ m2,by rw[e2,Array.append_assoc]⟩
 ·obtain⟨m,hn,hl⟩:=I.loc
  refine⟨m,ns m hn,fun i x v e1 e2 e3=> ?_⟩
  obtain⟨u,r,l⟩:=hl i x v e1 e2 e3
  refine⟨u,r,?_⟩
  rcases l with l|⟨k,c,e,z⟩
  ·exact .inl l
  ·exact .inr ⟨k,c,e,aU x c e _ z⟩
 ·obtain⟨v,z⟩:=I.cell x c e
  exact⟨v,aU x c e v z⟩
 ·obtain⟨m,⟨o,_,_,ho,_⟩,_⟩:=I.loc
  exact free _ o (fun z=>(hch _ z).2.1 rfl) ho I.free
 ·obtain⟨v,o,ho,hd⟩:=I.cell x c e
  exact free c o (fun z=>(hch c z).2.2.1 x c e rfl) ho (I.freeC x c e)
 ·obtain⟨e,n,ne,nf,d⟩:=I.pin p hp
  have nch:p.1∉ch:=fun z=>(hch p.1 z).2.2.2 p hp rfl
  exact⟨keep p.1 p.2 ne nf nch e n,free p.1 p.2 nch e n,ne,nf,d⟩
theorem Inv.un{t':Nat}(I:Inv X pins σ H s)(u:Un X.fs [] H H' s.heap h')(hok:bX X.prog X.w H' h'):Inv X pins σ H' {s with heap:=h',toks:=t'}:=by
 obtain⟨m,⟨o,es,ep,ho,r⟩,_⟩:=id I.loc
 obtain⟨sl,hL⟩:=u.any ho I.free (by simp)
 exact I.step (g':=s.gens) (d':=s.drawn) (ch:=[]) (fun _ z=>nomatch z) (fun b o _ hb _ e n=>u.keep b o e n hb (by simp)) (fun b o _ hb _ e n=>u.slot b o e n hb (by simp)) (fun b o _ e n=>u.free b o e n (by simp)) (fun b o _ e=>u.there b o e (by simp)) u.tups u.frzs u.tbls (fun m' hm=>by
  obtain⟨o',es',ep',ho',r'⟩:=hm
  rw[ho]at ho';cases ho'
  exact⟨_,es',ep',hL,r'⟩) hok I.bare
theorem Inv.call{g':Array GenState}{t':Nat}{d':Drawn}{ch:List Addr}(I:Inv X pins σ H s)(u:Un (gH X.stack) ch H H' s.heap h')(hok:bX X.prog X.w H' h')(hg:AllBare g')
 (hch:∀b∈ch,(b∈X.ex\/ X.s₀.heap.objs.size<=b)/\b≠X.env.locals/\(∀x c,X.env.cells.lookup x=some c->c≠b)/\∀p∈X.pn++ pins,p.1≠b):
 Inv X pins σ H' {s with heap:=h',gens:=g',drawn:=d',toks:=t'}:=by
 obtain⟨m,⟨o,es,ep,ho,r⟩,_⟩:=id I.loc
 obtain⟨sl,hL⟩:=u.any ho I.free fun z=>(hch _ z).2.1 rfl
 exact I.step (ch:=ch) hch (fun b o hL hb hc e n=>u.keep b o e n (fun z=>(List.mem_cons.mp (I.stkSub b z)).elim hL hb) hc) (fun b o _ _ hc e n=>u.any e n hc) (fun b o hc e n=>u.free b o e n hc) (fun b o hc e=>u.there b o e hc) u.tups u.frzs u.tbls (fun m' hm=>by
  obtain⟨o',es',ep',ho',r'⟩:=hm
  rw[ho]at ho';cases ho'
  exact⟨_,es',ep',hL,r'⟩) hok hg
theorem Inv.turned{t':Nat}{it:Addr}(I:Inv X pins σ H s)(k:∀b o,b≠it->s.heap.get? b=some o->h'.get? b=some o)(hn:H it=none)(hL:it≠X.env.locals)
 (h1:it∈X.ex\/ X.s₀.heap.objs.size<=it)(h2:∀x c,X.env.cells.lookup x=some c->c≠it)(h3:∀p∈X.pn++ pins,p.1≠it):Inv X pins σ H {s with heap:=h',toks:=t'}:=by
 have nit:∀b u,H b=some u->b≠it:=fun b u e z=>by rw[z,hn]at e;cases e
 refine I.step (g':=s.gens) (d':=s.drawn) (ch:=[it]) (fun b hb=> ?_) (fun b o _ _ hc e _=>k b o (fun z=>hc (by simp[z])) e) (fun b o _ _ hc e _=>⟨o.slots,k b o (fun z=>hc (by simp[z])) e⟩) (fun _ _ _ _ n=>n)
  (fun b o hc e=>⟨o,k b o (fun z=>hc (by simp[z])) e⟩) (fun _ _ e=>e) (fun _ _ _ e=>e) (fun b ps e=>⟨#[],by rw[e];simp⟩) (fun m hm=> ?_) (fun b u e=> ?_) I.bare
 ·have e:b=it:=by simpa using hb
  subst e
  exact⟨h1,hL,h2,h3⟩
 ·obtain⟨o,es,ep,ho,r⟩:=hm
  exact⟨o,es,ep,k _ o (Ne.symm hL) ho,r⟩
 ·refine(I.hok b u e).stay (fun c v hc q=>k c v ?_ q) (fun _ q=>q) fun _ _ q=>q
  rcases hc with z|z
  ·rw[z];exact nit b u e
  ·exact nit c _ z
theorem Inv.tok(I:Inv X pins σ H s)(t:Nat):Inv X pins σ H {s with toks:=t}:=I.un (h':=s.heap) (t':=t) Un.refl I.hok
theorem Inv.kept{t':Nat}(I:Inv X pins σ H s)(k:∀b u,s.heap.get? b=some u->h'.get? b=some u):Inv X pins σ H {s with heap:=h',toks:=t'}:=I.un (Un.kept k) (I.hok.kept k)
theorem Inv.laid{a:Addr}{o:HO}{t':Nat}(I:Inv X pins σ H s)(k:∀b u,s.heap.get? b=some u->h'.get? b=some u)(hp:s.heap.objs.size<=a)(new:cV X.prog X.w (upd H a o) h' a o):
 Inv X pins σ (upd H a o) {s with heap:=h',toks:=t'}:=I.un (Un.laid k hp (I.hok.fresh hp)) (I.hok.laid k hp new)
theorem Inv.write{x e:Addr}{o:HO}{t':Nat}(I:Inv X pins σ H s)(mu:qO (H x))(he:e=x\/ H e=some (.own x))(k:∀b u,b≠e->s.heap.get? b=some u->h'.get? b=some u)(heo:∃u,h'.get? e=some u)
 (new:cV X.prog X.w (upd H x o) h' x o):Inv X pins σ (upd H x o) {s with heap:=h',toks:=t'}:=I.un (Un.write mu he k heo) (I.hok.write mu he k heo new)
theorem Inv.pins_of{pins':List (Addr×Obj)}(I:Inv X pins σ H s)(h:∀p∈pins',s.heap.get? p.1=some p.2/\H p.1=none/\p.1≠X.env.locals/\p.1∉X.fs/\∀v,p.2.data≠ .cell v):Inv X pins' σ H s:=
 ⟨I.ok,I.os,I.bare,I.base,I.loc,I.cell,I.free,I.freeC,fun p hp=>(List.mem_append.mp hp).elim (fun z=>I.pin p (List.mem_append_left _ z)) (h p),I.hok,I.len⟩
theorem zQ{N:List Str}(hN:N.Nodup){i j:Nat}{x:Str}(a:N[i]?=some x)(b:N[j]?=some x):i=j:=by
 obtain⟨h1,e1⟩:=List.getElem?_eq_some_iff.mp a
 obtain⟨h2,e2⟩:=List.getElem?_eq_some_iff.mp b
 exact(List.getElem_inj hN).mp (e1.trans e2.symm)
theorem a1l{M:Model}{A:Around}{E:Value->Shared->Prop}{i:Nat}{x:Str}{v:V}{u:Value}{Q:Unit->Shared->Prop}(I:Inv X pins σ H s)(hN:X.N.Nodup)(hi:X.N[i]?=some x)(hx:sV X.env.scope x)(r:bG v u)
 (h:∀s',Inv X pins (σ.set i (some v)) H s'->(∃a,Heap.SameBut a s.heap s'.heap/\(a=X.env.locals\/ X.env.cells.lookup x=some a))->Q () s')(hf:X.fn x=true\/ X.env.scope.names.lookup x=some .local:=by first|exact .inl rfl|exact .inr rfl|assumption):wpAny M A (storeName X.env x u) Q E s:=by
 obtain⟨m,hn,hl⟩:=id I.loc
 have hcls:(X.env.scope.kind== .class||(X.env.scope.kind== .module&&X.env.locals !=X.env.globals))=false:=by rw[I.ok.kind];rfl
 have hiσ:i<σ.length:=by rw[I.len];exact(List.getElem?_eq_some_iff.mp hi).1
 have cne:=I.cne
 have tracked:∀{a:Addr} {h':Heap},(∃o,s.heap.get? a=some o/\H a=none)->Heap.SameBut a s.heap h'->bX X.prog X.w H h':=fun{a h'} ha hs b ob e=>by
  obtain⟨_,_,hfree⟩:=ha
  refine(I.hok b ob e).stay (fun c w' hc q=>(hs.2 c ?_).trans q) (fun _ q=>q) fun _ _ q=>q
  rintro rfl
  rcases hc with rfl|hc
  ·rw[hfree]at e;cases e
  ·rw[hfree]at hc;cases hc
 rcases hx with hk|hk
 ·refine wpAny_storeName_local hk hn (fun h' hn' hs=> ?_) hcls
  obtain⟨oL,_,_,hoL,_⟩:=id hn
  refine h _ ⟨I.ok,I.os,I.bare,⟨fun b o e n hb hx=> ?_,fun b o e n hb hx=> ?_,I.base.free,fun b o e hx=> ?_,I.base.tups,I.base.frzs,I.base.tbls⟩,⟨_,hn',fun j y v' e1 e2 e3=> ?_⟩,fun y c e=> ?_,I.free,I.freeC,fun p hp=> ?_,tracked ⟨oL,hoL,I.free⟩ hs,by simpa using I.len⟩ ⟨_,hs,.inl rfl⟩
  ·exact(hs.2 b (Nat.ne_of_lt (Nat.lt_of_lt_of_le (Heap.lt_size e) I.ok.above))).trans (I.base.keep b o e n hb hx)
  ·obtain⟨sl,e1⟩:=I.base.slot b o e n hb hx
   exact⟨sl,(hs.2 b (Nat.ne_of_lt (Nat.lt_of_lt_of_le (Heap.lt_size e) I.ok.above))).trans e1⟩
  ·obtain⟨o',e1⟩:=I.base.there b o e hx
   exact⟨o',(hs.2 b (Nat.ne_of_lt (Nat.lt_of_lt_of_le (Heap.lt_size e) I.ok.above))).trans e1⟩
  ·by_cases hj:j=i
   ·subst hj
    rw[hi]at e1;cases e1
    rw[List.getElem?_set_self hiσ]at e2
    cases e2
    exact⟨u,r,.inl ⟨hk,by simp⟩⟩
   ·rw[List.getElem?_set_ne (Ne.symm hj)]at e2
    obtain⟨u',r',q⟩:=hl j y v' e1 e2 e3
    refine⟨u',r',?_⟩
    rcases q with⟨k,e⟩|⟨k,c,e,z⟩
    ·refine .inl ⟨k,?_⟩
     have:y≠x:=fun e=>hj (zQ hN e1 (e▸hi))
     simp[this,e]
    ·exact .inr ⟨k,c,e,z.sameBut hs (cne y c e)⟩
  ·obtain⟨w',z⟩:=I.cell y c e
   exact⟨w',z.sameBut hs (cne y c e)⟩
  ·obtain⟨e,n,ne,nf,d⟩:=I.pin p hp
   exact⟨(hs.2 p.1 ne).trans e,n,ne,nf,d⟩
 ·have hfn:X.fn x=true:=by
   rcases hf with z|z
   ·exact z
   ·rw[z]at hk;cases hk
  obtain⟨c,hc⟩:=I.ok.has x (.inl hk)
  obtain⟨w',z⟩:=I.cell x c hc
  refine wpAny_storeName_cell I.ok.kind hk hc z (fun h' hc' hs=> ?_)
  obtain⟨oc,hoc,hocd⟩:=id z
  refine h {s with heap:=h'} ⟨I.ok,I.os,I.bare,⟨fun b o e n hb hx=> ?_,fun b o e n hb hx=> ?_,I.base.free,fun b o e hx=> ?_,I.base.tups,I.base.frzs,I.base.tbls⟩,⟨m,hn.sameBut hs (Ne.symm (cne x c hc)),fun j y v' e1 e2 e3=> ?_⟩,fun y c' e=> ?_,I.free,I.freeC,fun p hp=> ?_,tracked ⟨oc,hoc,I.freeC x c hc⟩ hs,by simpa using I.len⟩ ⟨c,hs,.inr hc⟩
  ·exact(hs.2 b (Nat.ne_of_lt (Nat.lt_of_lt_of_le (Heap.lt_size e) (I.ok.cab x c hfn hc)))).trans (I.base.keep b o e n hb hx)
  ·obtain⟨sl,e1⟩:=I.base.slot b o e n hb hx
   exact⟨sl,(hs.2 b (Nat.ne_of_lt (Nat.lt_of_lt_of_le (Heap.lt_size e) (I.ok.cab x c hfn hc)))).trans e1⟩
  ·obtain⟨o',e1⟩:=I.base.there b o e hx
   exact⟨o',(hs.2 b (Nat.ne_of_lt (Nat.lt_of_lt_of_le (Heap.lt_size e) (I.ok.cab x c hfn hc)))).trans e1⟩
  ·by_cases hj:j=i
   ·subst hj
    rw[hi]at e1;cases e1
    rw[List.getElem?_set_self hiσ]at e2
    cases e2
    exact⟨u,r,.inr ⟨.inl hk,c,hc,hc'⟩⟩
   ·rw[List.getElem?_set_ne (Ne.symm hj)]at e2
    obtain⟨u',r',q⟩:=hl j y v' e1 e2 e3
    refine⟨u',r',?_⟩
    rcases q with q|⟨k,c',e,z'⟩
    ·exact .inl q
    ·refine .inr ⟨k,c',e,z'.sameBut hs ?_⟩
     rintro rfl
     exact hj (zQ hN e1 (I.ok.inj _ _ _ e hc▸hi))
  ·by_cases hcc:c'=c
   ·subst hcc;exact⟨_,hc'⟩
   ·obtain⟨w2,z2⟩:=I.cell y c' e
    exact⟨w2,z2.sameBut hs hcc⟩
  ·obtain⟨e,n,ne,nf,d⟩:=I.pin p hp
   refine⟨(hs.2 p.1 ?_).trans e,n,ne,nf,d⟩
   intro q
   rw[q,hoc]at e
   have q':oc=p.2:=Option.some.inj e
   exact d w' (by rw[<- q'];exact hocd)
theorem a0i{M:Model}{A:Around}{E:Value->Shared->Prop}{i:Nat}{x:Str}{v:V}{u:Value}{Q:Unit->Shared->Prop}(I:Inv X pins σ H s)(hN:X.N.Nodup)(hi:X.N[i]?=some x)(hx:sV X.env.scope x)(r:bG v u)
 (h:∀s',Inv X pins (σ.set i (some v)) H s'->Q () s')(hf:X.fn x=true\/ X.env.scope.names.lookup x=some .local:=by first|exact .inl rfl|exact .inr rfl|assumption):wpAny M A (storeName X.env x u) Q E s:=
 a1l I hN hi hx r (fun s' I' _=>h s' I') hf
theorem Inv.call'{s':Shared}{ch:List Addr}(I:Inv X pins σ H s)(ho:s'.os=s.os)(u:Un (gH X.stack) ch H H' s.heap s'.heap)(hok:bX X.prog X.w H' s'.heap)(hg:AllBare s'.gens)
 (hch:∀b∈ch,(b∈X.ex\/ X.s₀.heap.objs.size<=b)/\b≠X.env.locals/\(∀x c,X.env.cells.lookup x=some c->c≠b)/\∀p∈X.pn++ pins,p.1≠b):Inv X pins σ H' s':=by
 obtain⟨h',g',d',t',o'⟩:=s'
 have e:o'=s.os:=ho
 subst e
 exact I.call (g':=g') (t':=t') (d':=d') u hok hg hch
end
abbrev XK:=Value->Option Addr->Hp->Prop
abbrev St:=List (Option V)
abbrev VK:=V->Hp->Prop
abbrev TE:=St->Hp->VK->Prop
abbrev TT:=St->Hp->(Bool->Hp->Prop)->Prop
abbrev TA:=St->Hp->(List V->Hp->Prop)->Prop
structure kP where
 nx:St->Hp->Prop
 rt:VK
 bk:St->Hp->Prop:=fun _ _=>False
 ct:St->Hp->Prop:=fun _ _=>False
abbrev TS:=kP->St->Hp->Prop
def EP(X:Cx)(pins:List (Addr×Obj))(σ:St)(Q:VK)(u:Value)(s':Shared):Prop:=∃v H',Inv X pins σ H' s'/\bG v u/\Q v H'
def TP(X:Cx)(pins:List (Addr×Obj))(σ:St)(Q:Bool->Hp->Prop)(b:Bool)(s':Shared):Prop:=∃H',Inv X pins σ H' s'/\Q b H'
def AP(X:Cx)(pins:List (Addr×Obj))(σ:St)(Q:List V->Hp->Prop)(us:List Value)(s':Shared):Prop:=∃vs H',Inv X pins σ H' s'/\bE vs us/\Q vs H'
def SP(X:Cx)(pins:List (Addr×Obj))(D:kP)(f:Flow)(s':Shared):Prop:=
 match f with
 | .next=>∃σ' H',Inv X pins σ' H' s'/\D.nx σ' H'
 | .brk=>∃σ' H',Inv X pins σ' H' s'/\D.bk σ' H'
 | .cont=>∃σ' H',Inv X pins σ' H' s'/\D.ct σ' H'
 | .ret u=>∃v σ' H',Inv X pins σ' H' s'/\bG v u/\D.rt v H'
def PE(X:Cx)(e:Expr)(t:TE):Prop:=
 ∀(pins:List (Addr×Obj)) (s:Shared) (σ:St) (H:Hp) (Q:VK),Inv X pins σ H s->t σ H Q->wpAny (model X.prog X.w) X.A (eval e X.env) (EP X pins σ Q) X.xe s
def PT(X:Cx)(e:Expr)(t:TT):Prop:=
 ∀(pins:List (Addr×Obj)) (s:Shared) (σ:St) (H:Hp) (Q:Bool->Hp->Prop),Inv X pins σ H s->t σ H Q->wpAny (model X.prog X.w) X.A (isTrue e X.env (eval e X.env)) (TP X pins σ Q) X.xe s
def PW(X:Cx)(e:Expr)(t:TT):Prop:=
 ∀(whole:Sem Value) (pins:List (Addr×Obj)) (s:Shared) (σ:St) (H:Hp) (Q:Bool->Hp->Prop),Inv X pins σ H s->t σ H Q->wpAny (model X.prog X.w) X.A (isTrue e X.env whole) (TP X pins σ Q) X.xe s
theorem PW.pt{X:Cx}{e:Expr}{t:TT}(h:PW X e t):PT X e t:=h _
def PA(X:Cx)(es:List Expr)(t:TA):Prop:=
 ∀(pos:Pos) (pins:List (Addr×Obj)) (s:Shared) (σ:St) (H:Hp) (Q:List V->Hp->Prop),Inv X pins σ H s->t σ H Q->wpAny (model X.prog X.w) X.A (spliced (backTo pos (starEach es X.env))) (AP X pins σ Q) X.xe s
def PS(X:Cx)(st:Stmt)(t:TS):Prop:=
 ∀(pins:List (Addr×Obj)) (s:Shared) (σ:St) (H:Hp) (D:kP),Inv X pins σ H s->t D σ H->wpAny (model X.prog X.w) X.A (exec st X.env) (SP X pins D) X.xe s
def eE(X:Cx)(st:List Stmt)(t:TS):Prop:=
 ∀(pins:List (Addr×Obj)) (s:Shared) (σ:St) (H:Hp) (D:kP),Inv X pins σ H s->t D σ H->wpAny (model X.prog X.w) X.A (execs st X.env) (SP X pins D) X.xe s
theorem aS{α:Type}{t:Sem α}{Q Q':α->Shared->Prop}{M:Model}{A:Around}{E:Value->Shared->Prop}{s:Shared}(h:wpAny M A t Q E s)(hQ:∀a s,Q a s->Q' a s):wpAny M A t Q' E s:=wpAny_mono h hQ fun _ _ x=>x
section
variable{X:Cx}
theorem bin{a b:Expr}{ta tb:TE}(ha:PE X a ta)(hb:PE X b tb){pins:List (Addr×Obj)}{s:Shared}{σ:St}{H:Hp}{R:V->V->Hp->Prop}(I:Inv X pins σ H s)(h:ta σ H fun x H1=>tb σ H1 fun y H2=>R x y H2)
 {α:Type}{Q:α->Shared->Prop}{f:Value->Value->Sem α}
 (hf:∀v u s2 x y H2,Inv X pins σ H2 s2->bG x v->bG y u->R x y H2->wpAny (model X.prog X.w) X.A (f v u) Q X.xe s2):
 wpAny (model X.prog X.w) X.A (eval a X.env) (fun v s₁=>wpAny (model X.prog X.w) X.A (eval b X.env) (fun u s₂=>wpAny (model X.prog X.w) X.A (f v u) Q X.xe s₂) X.xe s₁) X.xe s:=by
 refine aS (ha pins s σ H _ I h) ?_
 rintro v s1 ⟨x,H1,I1,r1,q1⟩
 refine aS (hb pins s1 σ H1 _ I1 q1) ?_
 rintro u s2 ⟨y,H2,I2,r2,q2⟩
 exact hf v u s2 x y H2 I2 r1 r2 q2
def fN(i:Nat):TE:=fun σ H Q=>∃v,σ[i]?=some (some v)/\Q v H
def tC(v:V):TE:=fun _ H Q=>Q v H
theorem a20{i:Nat}{x:Str}{pos:Pos}(hN:X.N[i]?=some x)(hv:uD X.env.scope x)(hd:(x==("__debug__":Str))=false:=by decide)(hcd:(x==("__classdict__":Str))=false:=by decide):PE X (.Name x pos) (fN i):=by
 intro pins s σ H Q I h
 obtain⟨v,e,h⟩:=h
 obtain⟨m,hn,hl⟩:=I.loc
 obtain⟨u,r,l⟩:=hl i x v hN e hv
 have fin:EP X pins σ Q u s:=⟨v,H,I,r,h⟩
 rcases l with⟨hk,hm⟩|⟨hk,c,hc,hcell⟩
 ·exact wpAny_Name (wpAny_loadName_local I.ok.kind hk hn hm fin) hd
 ·rcases hk with hk|hk
  ·exact wpAny_Name (wpAny_loadName_cell I.ok.kind hk hc hcell fin) hd
  ·exact wpAny_Name (wpAny_loadName_free I.ok.kind hk hc hcell fin hcd) hd
theorem bJ{i j pos}:PE X (.Constant (.int i) j pos) (tC (.int i)):=fun _ _ _ H _ I h=>wpAny_Constant_int ⟨.int i,H,I.tok _,⟨_,rfl⟩,h⟩
theorem lJ{b j pos}:PE X (.Constant (.bool b) j pos) (tC (.bl b)):=fun _ _ _ H _ I h=>Constant_bool ⟨.bl b,H,I,rfl,h⟩
theorem iQ{j pos}:PE X (.Constant .none j pos) (tC .non):=fun _ _ _ H _ I h=>Constant_none ⟨.non,H,I,rfl,h⟩
theorem cF{x j pos}:PE X (.Constant (.str x) j pos) (tC (.str x)):=fun _ _ _ H _ I h=>Calls.Constant_str ⟨.str x,H,I.tok _,⟨_,rfl⟩,h⟩
def Gl(X:Cx)(x:Str):Prop:=X.env.kindOf x=some .globalImplicit
theorem uE{E:Value->Shared->Prop}{pins:List (Addr×Obj)}{s:Shared}{σ:St}{H:Hp}{x:Str}{u:Value}{pos:Pos}{Q:Value->Shared->Prop}(I:Inv X pins σ H s)(hg:Gl X x)(hm:X.mg x=some u)(h:Q u s)
 (hd:(x==("__debug__":Str))=false:=by decide):wpAny (model X.prog X.w) X.A (eval (.Name x pos) X.env) Q E s:=
 Calls.Name_function_global I.ok.kind hg (Calls.loadGlobal_global (by rw[I.ok.glob];exact I.mod.glob.keeps I.bk) hm h) hd
theorem mJ{E:Value->Shared->Prop}{pins:List (Addr×Obj)}{s:Shared}{σ:St}{H:Hp}{x:Str}{u:Value}{pos:Pos}{Q:Value->Shared->Prop}(I:Inv X pins σ H s)(hg:Gl X x)(hm:X.mg x=none)(hv:bootBuiltins x=some u)(h:Q u s)
 (hn:x≠ "__name__":=by decide)(hd:(x==("__debug__":Str))=false:=by decide):wpAny (model X.prog X.w) X.A (eval (.Name x pos) X.env) Q E s:=by
 obtain⟨mb,h1,h2⟩:=I.mod.blt
 exact Calls.Name_function_global I.ok.kind hg (Calls.loadGlobal_builtin (by rw[I.ok.glob];exact I.mod.glob.keeps I.bk) hm (by rw[I.ok.blt];exact h1.keeps I.bk) ((h2 x hn).trans hv) h) hd
theorem wQ{x:Str}{v:V}{u:Value}{pos:Pos}(hg:Gl X x)(hm:X.mg x=some u)(r:bG v u)(hd:(x==("__debug__":Str))=false:=by decide):PE X (.Name x pos) (tC v):=
 fun _ _ _ H _ I h=>uE I hg hm ⟨v,H,I,r,h⟩ hd
theorem a41{x:Str}{v:V}{u:Value}{pos:Pos}(hg:Gl X x)(hm:X.mg x=none)(hv:bootBuiltins x=some u)(r:bG v u)(hn:x≠ "__name__":=by decide)(hd:(x==("__debug__":Str))=false:=by decide):PE X (.Name x pos) (tC v):=
 fun _ _ _ H _ I h=>mJ I hg hm hv ⟨v,H,I,r,h⟩ hn hd
variable{a b:Expr}{ta tb:TE}{pos:Pos}
def PC(X:Cx)(op:CmpOp)(a b:Expr)(t:TE):Prop:=
 ∀(pins:List (Addr×Obj)) (s:Shared) (σ:St) (H:Hp) (Q:VK),Inv X pins σ H s->t σ H Q->
  wpAny (model X.prog X.w) X.A (eval a X.env) (fun v s₁=>wpAny (model X.prog X.w) X.A (eval b X.env) (fun u s₂=>wpAny (model X.prog X.w) X.A (compareOp op v u) (EP X pins σ Q) X.xe s₂) X.xe s₁) X.xe s
theorem a3B(b:Expr){op:CmpOp}(h:op≠ .In)(h2:op≠ .NotIn):behindInMarks op b=false:=by
 have e1:(op==CmpOp.In)=false:=by cases op<;>first|rfl|exact absurd rfl h
 have e2:(op==CmpOp.NotIn)=false:=by cases op<;>first|rfl|exact absurd rfl h2
 cases b<;>simp[behindInMarks,e1,e2]
def tB(t:TE):TT:=fun σ H Q=>t σ H fun x H1=>∃c,x= .bl c/\Q c H1
theorem xZ{op:CmpOp}{t:TE}(h:PC X op a b t)(h1:behindInMarks op b=false:=by first|exact a3B _ (by decide) (by decide)|rfl):PE X (.Compare a [op] [b] pos) t:=fun pins s σ H Q I hw=>wpAny_Compare1 (h pins s σ H Q I hw) h1
theorem jM{op:CmpOp}{t:TE}(h:PC X op a b t)(h1:behindInMarks op b=false:=by first|exact a3B _ (by decide) (by decide)|rfl):PT X (.Compare a [op] [b] pos) (tB t):=by
 intro pins s σ H Q I hw
 refine wpAny_isTrue_Compare1 (aS (h pins s σ H _ I hw) fun v s1 h1=>aS h1 fun u s2 h2=>aS h2 fun c s3 ⟨x,H1,I1,r1,q1⟩=> ?_) h1
 obtain⟨d,rfl,q⟩:=q1
 cases r1
 exact wpAny_truthy_bool ⟨H1,I1,q⟩
theorem cM{e:Expr}{t:TE}(h:PE X e t)(he:∀whole,isTrue e X.env whole=(do let v<- whole;standAt e.pos;holding [v] (truthy v)):=by intro _;rfl):PT X e (tB t):=by
 intro pins s σ H Q I hw
 refine isTrue_plain (aS (h pins s σ H _ I hw) ?_) (he _)
 rintro v s1 ⟨x,H1,I1,r1,q1⟩
 obtain⟨d,rfl,q⟩:=q1
 cases r1
 exact wpAny_truthy_bool ⟨H1,I1,q⟩
variable{tA tB':TT}{dQ:List Expr}
def tAnd(t u:TT):TT:=fun σ H Q=>t σ H fun c H1=>if c=true then u σ H1 Q else Q false H1
def tOr(t u:TT):TT:=fun σ H Q=>t σ H fun c H1=>if c=true then Q true H1 else u σ H1 Q
def tNot(t:TT):TT:=fun σ H Q=>t σ H fun c H1=>Q (!c) H1
theorem pW(ha:PT X a tA):PW X (.BoolOp .And [a] pos) tA:=by
 intro wh pins s σ H Q I h
 refine isTrue_and (aS (ha pins s σ H Q I h) fun c s1 e=> ?_)
 cases c with
 |true=>exact isTrue_and_nil e
 |false=>exact e
theorem gY(ha:PT X a tA):PW X (.BoolOp .Or [a] pos) tA:=by
 intro wh pins s σ H Q I h
 refine isTrue_or (aS (ha pins s σ H Q I h) fun c s1 e=> ?_)
 cases c with
 |false=>exact isTrue_or_nil e
 |true=>exact e
theorem oH(ha:PT X a tA)(hb:PW X (.BoolOp .And (b::dQ) pos) tB'):PW X (.BoolOp .And (a::b::dQ) pos) (tAnd tA tB'):=by
 intro wh pins s σ H Q I h
 refine isTrue_and (aS (ha pins s σ H _ I h) ?_)
 rintro c s1 ⟨H1,I1,q1⟩
 cases c with
 |true=>exact hb wh pins s1 σ H1 Q I1 q1
 |false=>exact⟨H1,I1,q1⟩
theorem gB(ha:PT X a tA)(hb:PW X (.BoolOp .Or (b::dQ) pos) tB'):PW X (.BoolOp .Or (a::b::dQ) pos) (tOr tA tB'):=by
 intro wh pins s σ H Q I h
 refine isTrue_or (aS (ha pins s σ H _ I h) ?_)
 rintro c s1 ⟨H1,I1,q1⟩
 cases c with
 |true=>exact⟨H1,I1,q1⟩
 |false=>exact hb wh pins s1 σ H1 Q I1 q1
theorem dI(ha:PT X a tA):PT X (.UnaryOp .Not a pos) (tNot tA):=by
 intro pins s σ H Q I h
 exact isTrue_not (ha pins s σ H (fun c H1=>Q (!c) H1) I h)
def a5V(ta tb:TE):TE:=fun σ H Q=>ta σ H fun x H1=>∃c,x= .bl c/\if c=true then tb σ H1 Q else Q (.bl false) H1
def tOrV(ta tb:TE):TE:=fun σ H Q=>ta σ H fun x H1=>∃c,x= .bl c/\if c=true then Q (.bl true) H1 else tb σ H1 Q
def a6t(ta:TE):TE:=fun σ H Q=>ta σ H fun x H1=>∃c,x= .bl c/\Q (.bl (!c)) H1
theorem pR{op}{t:TE}(h:PE X a t):PE X (.BoolOp op [a] pos) t:=fun pins s σ H Q I hw=>BoolOp_one (h pins s σ H Q I hw)
theorem pF(ha:PE X a ta)(hb:PE X (.BoolOp .And (b::dQ) pos) tb):PE X (.BoolOp .And (a::b::dQ) pos) (a5V ta tb):=by
 intro pins s σ H Q I h
 refine BoolOp_and (aS (ha pins s σ H _ I h) ?_)
 rintro v s1 ⟨x,H1,I1,r1,q1⟩
 obtain⟨c,rfl,q1⟩:=q1
 cases r1
 refine wpAny_truthy_bool ?_
 cases c with
 |true=>exact hb pins s1 σ H1 Q I1 q1
 |false=>exact⟨.bl false,H1,I1,rfl,q1⟩
theorem a5m(ha:PE X a ta)(hb:PE X (.BoolOp .Or (b::dQ) pos) tb):PE X (.BoolOp .Or (a::b::dQ) pos) (tOrV ta tb):=by
 intro pins s σ H Q I h
 refine BoolOp_or (aS (ha pins s σ H _ I h) ?_)
 rintro v s1 ⟨x,H1,I1,r1,q1⟩
 obtain⟨c,rfl,q1⟩:=q1
 cases r1
 refine wpAny_truthy_bool ?_
 cases c with
 |false=>exact hb pins s1 σ H1 Q I1 q1
 |true=>exact⟨.bl true,H1,I1,rfl,q1⟩
theorem a4m(ha:PE X a ta):PE X (.UnaryOp .Not a pos) (a6t ta):=by
 intro pins s σ H Q I h
 refine UnaryOp_ (aS (ha pins s σ H _ I h) ?_)
 rintro v s1 ⟨x,H1,I1,r1,q1⟩
 obtain⟨c,rfl,q1⟩:=q1
 cases r1
 exact not_of (wpAny_truthy_bool ⟨.bl (!c),H1,I1,rfl,q1⟩)
end
def aO(K:Fg)(H:Hp)(a:Addr)(xs:List V):Prop:=
 Rd H a (.lst xs)\/
  ∃(o:Obj) (its:Array Value) (n:Nat),K.lookup a=some o/\o.cls= .type "list" /\o.dict=none/\o.data= .seq its n/\its.size<=sizeLine/\bE xs its.toList
def bW(K:Fg)(H:Hp)(a:Addr)(xs:List V):Prop:=
 Rd H a (.tup xs)\/
  ∃(o:Obj) (its:Array Value) (n:Nat),K.lookup a=some o/\o.cls= .type "tuple" /\o.data= .seq its n/\its.size<=sizeLine/\bE xs its.toList
noncomputable def absV:Value->Option V
 | .none=>some .non
 | .bool b=>some (.bl b)
 | .int i _=>some (.int i)
 | .str x _=>some (.str x)
 | .bytes b _=>some (.byt b)
 | .float b _=>some (.flt b)
 | .ref a=>some (.ref a)
 | .type n=>some (.ty n)
 |_=>none
theorem bG.abs{x:V}{u:Value}(r:bG x u):absV u=some x:=by
 cases x with
 |non=>cases r;rfl
 |bl _=>cases r;rfl
 |int _=>obtain⟨t,rfl⟩:=r;rfl
 |str _=>obtain⟨t,rfl⟩:=r;rfl
 |byt _=>obtain⟨t,rfl⟩:=r;rfl
 |flt _=>obtain⟨t,rfl⟩:=r;rfl
 |ref _=>cases r;rfl
 |ty _=>cases r;rfl
theorem bG.inj{x y:V}{u:Value}(r:bG x u)(q:bG y u):x=y:=Option.some.inj (r.abs.symm.trans q.abs)
theorem bE.inj:∀{xs ys:List V} {us:List Value},bE xs us->bE ys us->xs=ys
 |_,_,_,.nil,.nil=>rfl
 |_,_,_,.cons r t,.cons r' t'=>by rw[r.inj r',bE.inj t t']
section
variable{X:Cx}{pins:List (Addr×Obj)}{σ:St}{H:Hp}{s:Shared}{a:Addr}{xs ys:List V}
theorem aO.of{K:Fg}(h:H a=some (.lst xs)):aO K H a xs:=.inl (.inl h)
theorem bW.of{K:Fg}(h:H a=some (.tup xs)):bW K H a xs:=.inl (.inl h)
theorem Inv.list(I:Inv X pins σ H s)(h:aO X.K H a xs):∃its:List Value,bE xs its/\PlainL s.heap a its.toArray/\xs.length<=sizeLine:=by
 rcases h with h|⟨o,its,n,hk,hc,hd,hs,hz,r⟩
 ·obtain⟨z,its,n,r,e⟩:=h.ok I.hok
  exact⟨its,r,⟨_,n,e,rfl,rfl,rfl⟩,z⟩
 ·refine⟨its.toList,r,⟨o,n,I.kIn a o hk,hc,hd,by simpa using hs⟩,?_⟩
  have e:=r.length
  simp only[Array.length_toList]at e
  omega
theorem Inv.tuple(I:Inv X pins σ H s)(h:bW X.K H a xs):∃its:List Value,bE xs its/\IsTup s.heap a its.toArray/\xs.length<=sizeLine:=by
 rcases h with h|⟨o,its,n,hk,hc,hs,hz,r⟩
 ·obtain⟨z,its,r,p⟩:=h.ok I.hok
  exact⟨its,r,p,z⟩
 ·refine⟨its.toList,r,⟨o,I.kIn a o hk,hc,n,by simpa using hs⟩,?_⟩
  have e:=r.length
  simp only[Array.length_toList]at e
  omega
theorem Inv.list_inj(I:Inv X pins σ H s)(h:aO X.K H a xs)(h':aO X.K H a ys):xs=ys:=by
 obtain⟨its,r,⟨o,n,e,_,_,d⟩,_⟩:=I.list h
 obtain⟨its',r',⟨o',n',e',_,_,d'⟩,_⟩:=I.list h'
 rw[e]at e';cases e'
 rw[d]at d'
 injection d' with d1 _
 have:its=its':=by simpa using congrArg Array.toList d1
 subst this
 exact r.inj r'
end
abbrev Cx.wish(X:Cx)(E:Value->Shared->Prop):Cx:={X with xe:=E}
abbrev Cx.nox(X:Cx):Cx:=X.wish fun _ _=>False
theorem Cx.Ok.wish{X:Cx}(ok:X.Ok)(E:Value->Shared->Prop):(X.wish E).Ok:=
 ⟨ok.mod,ok.kind,ok.glob,ok.blt,ok.above,ok.inj,ok.has,ok.cab,ok.hd,ok.frames,ok.stk,ok.exf,ok.bs,ok.bsz,ok.noex,ok.exfs,ok.funs,ok.frf⟩
theorem Cx.Ok.unwish{X:Cx}{E:Value->Shared->Prop}(ok:(X.wish E).Ok):X.Ok:=
 ⟨ok.mod,ok.kind,ok.glob,ok.blt,ok.above,ok.inj,ok.has,ok.cab,ok.hd,ok.frames,ok.stk,ok.exf,ok.bs,ok.bsz,ok.noex,ok.exfs,ok.funs,ok.frf⟩
section
variable{X:Cx}{pins:List (Addr×Obj)}{σ:St}{H:Hp}{s:Shared}{E:Value->Shared->Prop}
theorem Inv.wish(I:Inv X pins σ H s)(E:Value->Shared->Prop):Inv (X.wish E) pins σ H s:=⟨I.ok.wish E,I.os,I.bare,I.base,I.loc,I.cell,I.free,I.freeC,I.pin,I.hok,I.len⟩
theorem Inv.unwish(I:Inv (X.wish E) pins σ H s):Inv X pins σ H s:=⟨I.ok.unwish,I.os,I.bare,I.base,I.loc,I.cell,I.free,I.freeC,I.pin,I.hok,I.len⟩
theorem SP.unwish{D:kP}{f:Flow}{s':Shared}(h:SP (X.wish E) pins D f s'):SP X pins D f s':=by
 cases f with
 |next=>obtain⟨σ',H',I,q⟩:=h;exact⟨σ',H',I.unwish,q⟩
 |brk=>obtain⟨σ',H',I,q⟩:=h;exact⟨σ',H',I.unwish,q⟩
 |cont=>obtain⟨σ',H',I,q⟩:=h;exact⟨σ',H',I.unwish,q⟩
 |ret u=>obtain⟨v,σ',H',I,r,q⟩:=h;exact⟨v,σ',H',I.unwish,r,q⟩
theorem eE.nox{st:List Stmt}{t:TS}(h:eE X.nox st t):eE X st t:=fun pins s σ H D I hw=>
 wpAny_mono (h pins s σ H D (I.wish _) hw) (fun _ _ q=>q.unwish) fun _ _ z=>False.elim z
end
section
variable{X:Cx}{st:Stmt}{dQ:List Stmt}{t u:TS}{e:Expr}{te:TE}{pos:Pos}
def a7q:TS:=fun D σ H=>D.nx σ H
def tSeq(t u:TS):TS:=fun D σ H=>t {D with nx:=u D} σ H
theorem bP:eE X [] a7q:=fun _ _ σ H _ I h=>wpAny_execs_nil ⟨σ,H,I,h⟩
theorem aH(h1:PS X st t)(h2:eE X dQ u):eE X (st::dQ) (tSeq t u):=by
 intro pins s σ H D I h
 refine wpAny_execs_cons (aS (h1 pins s σ H {D with nx:=u D} I h) fun f s1 q=> ?_)
 cases f with
 |next=>
  obtain⟨σ',H',I',q⟩:=q
  exact h2 pins s1 σ' H' D I' q
 |ret v=>exact q
 |brk=>exact q
 |cont=>exact q
theorem aI(h1:PS X st t):eE X [st] t:=by
 intro pins s σ H D I h
 refine wpAny_execs_cons (aS (h1 pins s σ H D I h) fun f s1 q=> ?_)
 cases f with
 |next=>exact wpAny_execs_nil q
 |ret v=>exact q
 |brk=>exact q
 |cont=>exact q
theorem Inv.quiet{pins:List (Addr×Obj)}{σ:St}{H:Hp}{s:Shared}(I:Inv X pins σ H s):interactive X.env=false:=by simp[interactive,I.ok.kind]
def a5Y(te:TE):TS:=fun D σ H=>te σ H fun _ H1=>D.nx σ H1
theorem cC(he:PE X e te)(hs:swapsWith e none pos.line X.env=pure false:=by rfl):PS X (.Expr e pos) (a5Y te):=by
 intro pins s σ H D I h
 exact wpAny_Expr_any (aS (he pins s σ H _ I h) fun v s1 ⟨x,H1,I1,r1,q1⟩=>⟨σ,H1,I1,q1⟩) I.quiet hs
def tRet(te:TE):TS:=fun D σ H=>te σ H D.rt
theorem bA(he:PE X e te):PS X (.Return (some e) pos) (tRet te):=by
 intro pins s σ H D I h
 exact wpAny_Return_some (aS (he pins s σ H _ I h) fun v s1 ⟨x,H1,I1,r1,q1⟩=>⟨x,σ,H1,I1,r1,q1⟩)
def tIfS(c:TT)(t u:TS):TS:=fun D σ H=>c σ H fun b H1=>if b=true then t D σ H1 else u D σ H1
theorem bM{c:Expr}{a b:List Stmt}{tc:TT}(hc:PT X c tc)(ha:eE X a t)(hb:eE X b u):PS X (.If c a b pos) (tIfS tc t u):=by
 intro pins s σ H D I h
 refine wpAny_If (aS (hc pins s σ H _ I h) ?_)
 rintro d s1 ⟨H1,I1,q1⟩
 cases d with
 |true=>exact ha pins s1 σ H1 D I1 q1
 |false=>exact hb pins s1 σ H1 D I1 q1
end
abbrev TG:=V->St->Hp->(St->Hp->Prop)->Prop
abbrev nF:=List V->St->Hp->(St->Hp->Prop)->Prop
def PG(X:Cx)(target:Expr)(t:TG):Prop:=
 ∀(pins:List (Addr×Obj)) (s:Shared) (σ:St) (H:Hp) (v:V) (u:Value) (Q:St->Hp->Prop),Inv X pins σ H s->bG v u->t v σ H Q->
  wpAny (model X.prog X.w) X.A (assign target X.env u) (fun _ s'=>∃σ' H',Inv X pins σ' H' s'/\Q σ' H') X.xe s
def qS(X:Cx)(ts:List Expr)(t:nF):Prop:=
 ∀(pins:List (Addr×Obj)) (s:Shared) (σ:St) (H:Hp) (vs:List V) (us:List Value) (Q:St->Hp->Prop),Inv X pins σ H s->bE vs us->t vs σ H Q->
  wpAny (model X.prog X.w) X.A (assignInOrder ((assignEach ts X.env).map (·.2)) us) (fun _ s'=>∃σ' H',Inv X pins σ' H' s'/\Q σ' H') X.xe s
section
variable{X:Cx}{pos:Pos}
noncomputable def iT(i:Nat):TG:=fun v σ H Q=>Q (σ.set i (some v)) H
theorem fH{i:Nat}{x:Str}(hN:X.N.Nodup)(hi:X.N[i]?=some x)(hx:sV X.env.scope x)(hf:X.fn x=true\/ X.env.scope.names.lookup x=some .local:=by first|exact .inl rfl|exact .inr rfl|assumption):PG X (.Name x pos) (iT i):=by
 intro pins s σ H v u Q I r h
 exact wpAny_assign_Name (a0i I hN hi hx r (fun s' I'=>⟨_,H,I',h⟩) hf)
noncomputable def uC:nF:=fun vs σ H Q=>vs= [] /\Q σ H
noncomputable def oB (t:TG) (u:nF):nF:=fun vs σ H Q=>∃v r,vs=v::r/\t v σ H fun σ' H'=>u r σ' H' Q
theorem sM:qS X [] uC:=by
 intro pins s σ H vs us Q I r h
 obtain⟨e,h⟩:=h
 subst e
 cases r
 exact assignInOrder_nil ⟨σ,H,I,h⟩
theorem lK{e:Expr}{es:List Expr}{t:TG}{u:nF}(h1:PG X e t)(h2:qS X es u)
 (hs:(assignEach (e::es) X.env).map (·.2)=assign e X.env::(assignEach es X.env).map (·.2):=by rfl):qS X (e::es) (oB t u):=by
 intro pins s σ H vs us Q I r h
 obtain⟨v,vr,e1,h⟩:=h
 subst e1
 cases r with
 |cons r rr=>
  rw[hs]
  refine assignInOrder_cons (aS (h1 pins s σ H _ _ _ I r h) ?_)
  rintro _ s1 ⟨σ1,H1,I1,q1⟩
  exact h2 pins s1 σ1 H1 _ _ Q I1 rr q1
noncomputable def xC (K:Fg) (n:Nat) (t:nF):TG:=fun v σ H Q=>∃a xs,v= .ref a/\bW K H a xs/\xs.length=n/\t xs σ H Q
theorem uK{es:List Expr}{k:Nat}{t:nF}{n:Nat}(hc:X.calm=true)(h:qS X es t)
 (hn:(assignEach es X.env).length=n:=by rfl)(hst:(assignEach es X.env).findIdx? (·.1)=none:=by rfl):PG X (.Tuple es k pos) (xC X.K n t):=by
 intro pins s σ H v u Q I r hw
 obtain⟨a,xs,e1,hq,hl,hw⟩:=hw
 subst e1
 cases r
 obtain⟨its,rv,ht,hz⟩:=I.tuple hq
 refine assign_Tuple_tuple (I.ok.hd hc) ht (by simp[hn,<- hl,rv.length]) hst fun h' hx=> ?_
 have I1:Inv X pins σ H {s with heap:=h'}:=I.kept (t':=s.toks) fun b o e=>hx b o (Nat.ne_of_lt (Heap.lt_size e)) e
 exact h pins _ σ H xs _ Q I1 (by simpa using rv) hw
def tAsg(te:TE)(g:TG):TS:=fun D σ H=>te σ H fun x H1=>g x σ H1 D.nx
theorem bR{i:Nat}{x:Str}{e:Expr}{te:TE}{pos':Pos}(hN:X.N.Nodup)(hi:X.N[i]?=some x)(hx:sV X.env.scope x)(he:PE X e te)(hs:swapsWith e (some (.Name x pos')) pos.line X.env=pure false:=by rfl)(hf:X.fn x=true\/ X.env.scope.names.lookup x=some .local:=by first|exact .inl rfl|exact .inr rfl|assumption):
 PS X (.Assign [.Name x pos'] e pos) (tAsg te (iT i)):=by
 intro pins s σ H D I h
 refine wpAny_Assign_Name (aS (he pins s σ H _ I h) ?_) hs
 rintro v s1 ⟨y,H1,I1,r1,q1⟩
 exact a0i I1 hN hi hx r1 (fun s2 I2=>⟨_,H1,I2,q1⟩) hf
def a48(c:TT)(tb:TS):TS:=fun D σ H=>∃W:Nat->St->Hp->Prop,(∃m,W m σ H)/\∀m σ H,W m σ H->
 c σ H fun b H1=>if b=true then∃N:St->Hp->Prop,(∀σ' H',N σ' H'->∃m',m'<m/\W m' σ' H')/\tb {D with nx:=N,ct:=N,bk:=D.nx} σ H1 else D.nx σ H1
theorem wY{c:Expr}{body:List Stmt}{tc:TT}{tb:TS}(hp:PassesOwn (model X.prog X.w) X.A X.env X.xe)(hc:PT X c tc)(hb:eE X body tb):PS X (.While c body [] pos) (a48 tc tb):=by
 intro pins s σ H D I h
 obtain⟨W,⟨m0,w0⟩,turn⟩:=h
 refine wpAny_While (codeAny_whileLoop (fun n s'=>∃σ' H',Inv X pins σ' H' s'/\W n σ' H') ?_ m0 ⟨σ,H,I,w0⟩)
 rintro n s1 ⟨σ1,H1,I1,w1⟩
 refine wpAny_passesOwn hp (aS (hc pins s1 σ1 H1 _ I1 (turn n σ1 H1 w1)) ?_)
 rintro b s2 ⟨H2,I2,q2⟩
 cases b with
 |true=>
  obtain⟨N,hN,q2⟩:=q2
  rw[if_pos rfl]
  refine wpAny_passesOwn hp (aS (hb pins s2 σ1 H2 _ I2 q2) fun f s3 q3=> ?_)
  cases f with
  |next=>
   obtain⟨σ3,H3,I3,n3⟩:=q3
   obtain⟨m',hm,w3⟩:=hN σ3 H3 n3
   exact⟨m',hm,σ3,H3,I3,w3⟩
  |cont=>
   obtain⟨σ3,H3,I3,n3⟩:=q3
   obtain⟨m',hm,w3⟩:=hN σ3 H3 n3
   exact⟨m',hm,σ3,H3,I3,w3⟩
  |brk=>exact q3
  |ret v=>exact q3
 |false=>
  rw[if_neg Bool.false_ne_true]
  exact wpAny_execs_nil ⟨σ1,H2,I2,q2⟩
end
structure It where
 go:Nat->Hp->Prop
 yld:Nat->Hp->V->Hp->Prop
 stop:Nat->Hp->Prop
def fF(X:Cx)(pins:List (Addr×Obj))(H:Hp)(b:Addr):Prop:=
 H b=none/\b≠X.env.locals/\b∉X.fs/\(b∈X.ex\/ X.s₀.heap.objs.size<=b)/\(∀x c,X.env.cells.lookup x=some c->c≠b)/\∀p∈X.pn++ pins,p.1≠b
theorem Inv.fpOk{X:Cx}{pins:List (Addr×Obj)}{σ:St}{H H':Hp}{s:Shared}{b:Addr}(I:Inv X pins σ H s)(hb:s.heap.objs.size<=b)(hn:H' b=none):fF X pins H' b:=by
 refine⟨hn,Nat.ne_of_gt (Nat.lt_of_lt_of_le I.lt hb),I.nofs hb,.inr (Nat.le_trans I.sz hb),fun x c e z=> ?_,fun p hp z=> ?_⟩
 ·obtain⟨v,q⟩:=I.cell x c e
  exact absurd (Nat.lt_of_lt_of_le q.lt (by rw[z];exact hb)) (Nat.lt_irrefl _)
 ·exact absurd (Nat.lt_of_lt_of_le (Heap.lt_size (I.pin p hp).1) (by rw[z];exact hb)) (Nat.lt_irrefl _)
structure mK(P:Program)(w:World)(K:Fg)(tg:Expr)(J:It)(fp:List Addr)(it:Addr)(tn:Nat->Heap->Prop):Prop where
 mem:it∈fp
 obj:∀i h,tn i h->∀b∈fp,∃o,h.get? b=some o/\∀v,o.data≠ .cell v
 keep:∀i h h',tn i h->(∀b∈fp,∀o,h.get? b=some o->h'.get? b=some o)->tn i h'
 item:∀(X:Cx),X.prog=P->X.w=w->X.K=K->X.calm=true->∀(i:Nat) (pins:List (Addr×Obj)) (s:Shared) (σ:St) (H:Hp) (E:Value->Shared->Prop),Inv X pins σ H s->(∀b∈fp,fF X pins H b)->tn i s.heap->J.go i H->
  wpAny (model P w) X.A (pyNext (.ref it)) (fun r s1=>∃u,r=some u/\
   wpAny (model P w) X.A (letOwnedTupleGo tg (.ref it) u) (fun _ s2=>∃x H',Inv X pins σ H' s2/\bG x u/\J.yld i H x H'/\tn (i+ 1) s2.heap/\∀b∈fp,H' b=none) E s1) E s
 done:∀(X:Cx),X.prog=P->X.w=w->X.K=K->X.calm=true->∀(i:Nat) (pins:List (Addr×Obj)) (s:Shared) (σ:St) (H:Hp) (E:Value->Shared->Prop),Inv X pins σ H s->(∀b∈fp,fF X pins H b)->tn i s.heap->J.stop i H->
  wpAny (model P w) X.A (pyNext (.ref it)) (fun r s1=>r=none/\Inv X pins σ H s1) E s
 self:∀(A:Around) (i:Nat) (s:Shared) (Q:Value->Shared->Prop) (E:Value->Shared->Prop),tn i s.heap->Q (.ref it) s->wpAny (model P w) A (pyIter (.ref it)) Q E s
abbrev TI:=St->Hp->(It->Hp->Prop)->Prop
def xD(X:Cx)(pins:List (Addr×Obj))(σ:St)(tg:Expr)(R:It->Hp->Prop)(itv:Value)(s2:Shared):Prop:=
 ∃(it:Addr) (fp:List Addr) (tn:Nat->Heap->Prop) (J:It) (H':Hp),itv= .ref it/\Inv X pins σ H' s2/\mK X.prog X.w X.K tg J fp it tn/\tn 0 s2.heap/\(∀b∈fp,fF X pins H' b)/\R J H'
def PI(X:Cx)(tg iter:Expr)(wi:TI):Prop:=
 ∀(pins:List (Addr×Obj)) (s:Shared) (σ:St) (H:Hp) (R:It->Hp->Prop),Inv X pins σ H s->wi σ H R->
  wpAny (model X.prog X.w) X.A (eval iter X.env) (fun v s1=>wpAny (model X.prog X.w) X.A (pyIter v) (xD X pins σ tg R) X.xe s1) X.xe s
theorem uP{M:Model}{A:Around}{E:Value->Shared->Prop}{s:Shared}{tg:Expr}{it:Addr}{u:Value}{o:Obj}{n:String}{vs:Array Value}{Q:Unit->Shared->Prop}(ho:s.heap.get? it=some o)(hc:o.cls= .type n)(hd:o.data= .fields vs)
 (hn:["enumerate","zip","dict_itemiterator","dict_reverseitemiterator","odict_iterator","itertools.zip_longest","itertools.pairwise"].contains n=false)(hQ:Q () s):wpAny M A (letOwnedTupleGo tg (.ref it) u) Q E s:=by
 unfold letOwnedTupleGo
 cases tg<;>first
  |exact wpAny_pure hQ
  |(cases u<;>first
   |exact wpAny_pure hQ
   | (refine wpAny_bind (wpAny_load ho ?_)
      rw[hc,hd]
      show wpAny M A (if(["enumerate","zip","dict_itemiterator","dict_reverseitemiterator","odict_iterator","itertools.zip_longest","itertools.pairwise"].contains n&&vs[0]?==some (rawInt _))=true then _ else _) Q E s
      rw[if_neg (by intro h;rw[hn,Bool.false_and]at h;cases h)]
      exact wpAny_pure hQ))
noncomputable def pD (K:Fg) (a:Addr):It:=
 ⟨fun i H=>∃xs x,aO K H a xs/\xs[i]?=some x,fun i H x H'=>H'=H/\∀xs,aO K H a xs->xs[i]?=some x,fun i H=>∃xs,aO K H a xs/\xs.length<=i⟩
noncomputable def lQ (lo:Int) (n:Nat):It:=⟨fun i _=>i<n,fun i H x H'=>H'=H/\x= .int (lo+ i),fun i _=>n<=i⟩
theorem a68{P:Program}{w:World}{K:Fg}{tg:Expr}(a it:Addr):mK P w K tg (pD K a) [it] it (fun i h=>h.IsListIter it a i) where
 mem:=by simp
 obj:=fun i h st b hb=>by
  have e:b=it:=by simpa using hb
  subst e
  obtain⟨o,e,c,d⟩:=st
  exact⟨o,e,fun v z=>by rw[d]at z;cases z⟩
 keep:=fun i h h' st k=>st.at fun o e=>k it (by simp) o e
 item:=by
  intro X hP hw hK hc i pins s σ H E I hf st hg
  subst hP hw hK
  obtain⟨xs,x,hq,hx⟩:=hg
  obtain⟨its,rv,p,hz⟩:=I.list hq
  obtain⟨u,hu,ru⟩:=rv.get hx
  obtain⟨f0,f1,f2,f3,f4,f5⟩:=hf it (by simp)
  refine wpAny_pyNext_list_item st p.isList (x:=u) (by simpa using hu) fun h' st' sb=> ?_
  have I1:Inv X pins σ H {s with heap:=h'}:=I.turned (t':=s.toks) (fun b o hb e=>(sb.2 b hb).trans e) f0 f1 f3 f4 f5
  obtain⟨o,e,c,d⟩:=id st'
  exact⟨u,rfl,uP (s:={s with heap:=h'}) e c d (by decide) ⟨x,H,I1,ru,⟨rfl,fun ys hy=>by rw[I.list_inj hy hq];exact hx⟩,st',fun b hb=>(hf b hb).1⟩⟩
 done:=by
  intro X hP hw hK hc i pins s σ H E I hf st hg
  subst hP hw hK
  obtain⟨xs,hq,hx⟩:=hg
  obtain⟨its,rv,p,hz⟩:=I.list hq
  obtain⟨f0,f1,f2,f3,f4,f5⟩:=hf it (by simp)
  have hl:=rv.length
  exact wpAny_pyNext_list_end (I.ok.hd hc) st p.isList (by simp;omega) fun h' eb=>⟨rfl,I.turned (t':=s.toks) (fun b o hb e=>eb b o hb e) f0 f1 f3 f4 f5⟩
 self:=fun _ _ _ _ _ st h=>wpAny_pyIter_listiter st h
theorem a7t{P:Program}{w:World}{K:Fg}{tg:Expr}(it:Addr)(lo:Int)(n:Nat):mK P w K tg (lQ lo n) [it] it (fun i h=>IsRangeIter h it (lo+ (i:Nat)* 1) ((n:Int)- (i:Nat)) 1) where
 mem:=by simp
 obj:=fun i h st b hb=>by
  have e:b=it:=by simpa using hb
  subst e
  exact⟨_,st,fun v z=>by
   have z':Data.fields _=Data.cell v:=z
   cases z'⟩
 keep:=fun i h h' st k=>k it (by simp) _ st
 item:=by
  intro X hP hw hK hc i pins s σ H E I hf st hg
  subst hP hw hK
  obtain⟨f0,f1,f2,f3,f4,f5⟩:=hf it (by simp)
  have W:=Walks.range (prog:=X.prog) (w:=X.w) (I.ok.hd hc) it lo 1 n
  refine W.item i s _ _ hg st fun v h' tk hv st' kk=> ?_
  obtain⟨t,rfl⟩:=hv
  have I1:Inv X pins σ H {s with heap:=h',toks:=tk}:=I.turned (fun b o hb e=>kk b o (by simpa using hb) e) f0 f1 f3 f4 f5
  refine⟨_,rfl,uP (s:={s with heap:=h',toks:=tk}) (n:= "range_iterator") st' rfl rfl (by decide) ⟨.int (lo+ i),H,I1,⟨t,?_⟩,⟨rfl,rfl⟩,st',fun b hb=>(hf b hb).1⟩⟩
  rw[Int.mul_one]
 done:=by
  intro X hP hw hK hc i pins s σ H E I hf st hg
  subst hP hw hK
  obtain⟨f0,f1,f2,f3,f4,f5⟩:=hf it (by simp)
  exact wpAny_pyNext_range_end (I.ok.hd hc) st (by have:n<=i:=hg;omega) fun h' eb=>⟨rfl,I.turned (t':=s.toks) (fun b o hb e=>eb b o hb e) f0 f1 f3 f4 f5⟩
 self:=fun _ _ _ _ _ st h=>wpAny_pyIter_rangeiter st h
section
variable{X:Cx}{tg:Expr}
def a7X(K:Fg)(tl:TE):TI:=fun σ H R=>tl σ H fun x H1=>∃a,x= .ref a/\(∃xs,aO K H1 a xs)/\R (pD K a) H1
theorem fX{l:Expr}{tl:TE}(hl:PE X l tl):PI X tg l (a7X X.K tl):=by
 intro pins s σ H R I h
 refine aS (hl pins s σ H _ I h) ?_
 rintro v s1 ⟨x,H1,I1,r1,q1⟩
 obtain⟨a,e,⟨xs,hq⟩,q⟩:=q1
 subst e
 cases r1
 obtain⟨its,rv,p,hz⟩:=I1.list hq
 refine wpAny_pyIter_list p.isList ?_
 refine⟨s1.heap.objs.size,[s1.heap.objs.size],_,_,H1,rfl,I1.kept (t':=s1.toks) fun b o e=>Heap.get?_push_of_some _ e,a68 a _,⟨_,Heap.get?_push_size _ rfl,rfl,rfl⟩,fun b hb=> ?_,q⟩
 have e:b=s1.heap.objs.size:=by simpa using hb
 subst e
 exact I1.fpOk (Nat.le_refl _) (I1.hok.fresh (Nat.le_refl _))
theorem a1B{pins:List (Addr×Obj)}{σ:St}{H:Hp}{s:Shared}{R:It->Hp->Prop}{E:Value->Shared->Prop}{lo hi:Int}{t u v:Tok}{tk:Nat}(I:Inv X pins σ H s)(h1: -(2^ 62)<=lo)(h2:lo<2^ 62)(h3: -(2^ 62)<=hi)(h4:hi<2^ 62)
 (q:R (lQ lo (hi- lo).toNat) H):wpAny (model X.prog X.w) X.A (pyIter (.ref s.heap.objs.size)) (xD X pins σ tg R) E {s with heap:=s.heap.push {cls:=.type "range",data:=.fields #[.int lo t,.int hi u,.int 1 v]},toks:=tk}:=by
 refine wpAny_pyIter_range (IsRange.new ..) (small_one h1 h2 h3 h4) ?_
 have I1:Inv X pins σ H {s with heap:=s.heap.push {cls:=.type "range",data:=.fields #[.int lo t,.int hi u,.int 1 v]},toks:=tk}:=I.kept fun b o e=>Heap.get?_push_of_some _ e
 refine⟨(s.heap.push {cls:=.type "range",data:=.fields #[.int lo t,.int hi u,.int 1 v]}).objs.size,[(s.heap.push {cls:=.type "range",data:=.fields #[.int lo t,.int hi u,.int 1 v]}).objs.size],_,_,H,rfl,
  I1.kept (t':=tk) fun b o e=>Heap.get?_push_of_some _ e,a7t _ lo (hi- lo).toNat,?_,fun b hb=> ?_,q⟩
 ·have e1:lo+ ((0:Nat):Int)* 1=lo:=by simp
  have e2:(((hi- lo).toNat:Nat):Int)- ((0:Nat):Int)=Builtin.Range.rangeSize lo hi 1:=by rw[rangeSize_one];split<;>omega
  show IsRangeIter _ _ (lo+ ((0:Nat):Int)* 1) ((((hi- lo).toNat:Nat):Int)- ((0:Nat):Int)) 1
  rw[e1,e2]
  exact Heap.get?_push_size _ rfl
 ·have e:b=(s.heap.push {cls:=.type "range",data:=.fields #[.int lo t,.int hi u,.int 1 v]}).objs.size:=by simpa using hb
  subst e
  exact I1.fpOk (Nat.le_refl _) (I1.hok.fresh (Nat.le_refl _))
def a5M(ta:TA):TI:=fun σ H R=>ta σ H fun vs H1=>∃j:Int,vs= [.int j] /\ -(2^ 62)<=j/\j<2^ 62/\R (lQ 0 j.toNat) H1
def a8d(ta:TA):TI:=fun σ H R=>ta σ H fun vs H1=>∃i j:Int,vs= [.int i,.int j] /\(-(2^ 62)<=i/\i<2^ 62/\ -(2^ 62)<=j/\j<2^ 62)/\R (lQ i (j- i).toNat) H1
theorem tO{a:Expr}{ta:TA}{p pos:Pos}(hg:Gl X "range")(hm:X.mg "range"=none)(ha:PA X [a] ta)(hs:starEach [a] X.env= [(false,eval a X.env)]:=by rfl):PI X tg (.Call (.Name "range" p) [a] [] pos) (a5M ta):=by
 intro pins s σ H R I h
 refine Call_ (mJ I hg hm boot_range (PyProof.Rows.callWith_type1 (aS (ha pos pins s σ H _ I h) ?_) hs rfl))
 rintro us s1 ⟨vs,H1,I1,r1,q1⟩
 obtain⟨j,e,q1,q2,q⟩:=q1
 subst e
 cases r1 with
 |cons r rr=>
  cases rr
  obtain⟨t,rfl⟩:=r
  exact call_range_1 (a1B I1 (by omega) (by omega) q1 q2 (by simpa using q))
theorem a4t{a b:Expr}{ta:TA}{p pos:Pos}(hg:Gl X "range")(hm:X.mg "range"=none)(ha:PA X [a,b] ta)(hs:starEach [a,b] X.env= [(false,eval a X.env),(false,eval b X.env)]:=by rfl)(hs2:starEach [b] X.env= [(false,eval b X.env)]:=by rfl):
 PI X tg (.Call (.Name "range" p) [a,b] [] pos) (a8d ta):=by
 intro pins s σ H R I h
 refine Call_ (mJ I hg hm boot_range (PyProof.Rows.callWith_type1 (aS (ha pos pins s σ H _ I h) fun us s1 ⟨vs,H1,I1,r1,q1⟩=> ?_) (by rw[hs,hs2]) (by rw[hs2];rfl)))
 obtain⟨i,j,e,⟨q1,q2,q3,q4⟩,q⟩:=q1
 subst e
 cases r1 with
 |cons r rr=>
  cases rr with
  |cons r' rr=>
   cases rr
   obtain⟨t,rfl⟩:=r
   obtain⟨t',rfl⟩:=r'
   exact call_range_2 (a1B I1 q1 q2 q3 q4 q)
def zW(wi:TI)(g:TG)(tb:TS):TS:=fun D σ H=>wi σ H fun J H1=>∃W:Nat->Nat->St->Hp->Prop,(∃m,W 0 m σ H1)/\∀i m σ H,W i m σ H->
 (J.stop i H/\D.nx σ H)\/ (J.go i H/\∃N:St->Hp->Prop,(∀σ' H',N σ' H'->∃m',m'<m/\W (i+ 1) m' σ' H')/\∀x H',J.yld i H x H'->g x σ H' fun σ2 H2=>tb {D with nx:=N,ct:=N,bk:=D.nx} σ2 H2)
noncomputable def pS (fp:List Addr) (h:Heap):List (Addr×Obj):=fp.filterMap fun b=>(h.get? b).map fun o=>(b,o)
theorem pU{fp:List Addr}{h:Heap}{b:Addr}{o:Obj}(hb:b∈fp)(e:h.get? b=some o):(b,o)∈pS fp h:=List.mem_filterMap.mpr ⟨b,hb,by rw[e];rfl⟩
theorem a81{fp:List Addr}{h:Heap}{p:Addr×Obj}(hp:p∈pS fp h):p.1∈fp/\h.get? p.1=some p.2:=by
 obtain⟨b,hb,e⟩:=List.mem_filterMap.mp hp
 cases q:h.get? b with
 |none=>rw[q]at e;cases e
 |some o=>
  rw[q]at e
  have e':(b,o)=p:=Option.some.inj e
  subst e'
  exact⟨hb,q⟩
theorem Inv.pinned{pins:List (Addr×Obj)}{σ:St}{H:Hp}{s:Shared}{fp:List Addr}(I:Inv X pins σ H s)(hf:∀b∈fp,fF X pins H b)(ho:∀b∈fp,∃o,s.heap.get? b=some o/\∀v,o.data≠ .cell v):Inv X (pins++ pS fp s.heap) σ H s:=
 I.pins_of fun p hp=>(List.mem_append.mp hp).elim (fun z=>I.pin p (List.mem_append_right _ z)) fun z=>by
  obtain⟨hb,e⟩:=a81 z
  obtain⟨f0,f1,f2,_⟩:=hf p.1 hb
  obtain⟨o,e',d⟩:=ho p.1 hb
  rw[e]at e';cases e'
  exact⟨e,f0,f1,f2,d⟩
theorem Inv.unpinned{pins pl:List (Addr×Obj)}{σ:St}{H:Hp}{s:Shared}(I:Inv X (pins++ pl) σ H s):Inv X pins σ H s:=I.pins_of fun p hp=>I.pin p (List.mem_append_right _ (List.mem_append_left _ hp))
theorem jO{iter:Expr}{body:List Stmt}{wi:TI}{g:TG}{tb:TS}{pos:Pos}(hp:PassesOwn (model X.prog X.w) X.A X.env X.xe)(hc:X.calm=true)(hi:PI X tg iter wi)(hg:PG X tg g)(hb:eE X body tb)
 (hs:∀x,foldedSetIterable iter X.env x=pure x:=by intro _;rfl):PS X (.For tg iter body [] pos) (zW wi g tb):=by
 intro pins s σ H D I h
 refine wpAny_For (aS (hi pins s σ H _ I h) fun v s1 h1=>aS h1 fun itv s2 h2=> ?_) hs
 obtain⟨it,fp,tn,J,H2,e,I2,T,st2,f2,W,⟨m0,w0⟩,turn⟩:=h2
 subst e
 have stat:∀{H':Hp},(∀b∈fp,H' b=none)->∀b∈fp,fF X pins H' b:=fun hn b hb=>⟨hn b hb,(f2 b hb).2⟩
 refine codeAny_forLoop_any (fun n s'=>∃i σ' H',Inv X pins σ' H' s'/\tn i s'.heap/\(∀b∈fp,H' b=none)/\W i n σ' H') ?_ m0 ⟨0,σ,H2,I2,st2,fun b hb=>(f2 b hb).1,w0⟩
 rintro n s3 ⟨i,σ3,H3,I3,st3,fr3,w3⟩
 rcases turn i n σ3 H3 w3 with⟨stop,qn⟩|⟨go,N,hN,step⟩
 ·refine wpAny_passesOwn hp (aS (T.done X rfl rfl rfl hc i pins s3 σ3 H3 X.xe I3 (stat fr3) st3 stop) fun r s4 ⟨hr,I4⟩=> ?_)
  subst hr
  exact wpAny_execs_nil ⟨σ3,H3,I4,qn⟩
 ·refine wpAny_passesOwn hp (aS (T.item X rfl rfl rfl hc i pins s3 σ3 H3 X.xe I3 (stat fr3) st3 go) fun r s4 ⟨u,hr,h4⟩=> ?_)
  subst hr
  refine wpAny_passesOwn hp (aS h4 ?_)
  rintro _ s5 ⟨x,H5,I5,r5,y5,st5,fr5⟩
  have I5':=I5.pinned (stat fr5) (T.obj _ _ st5)
  refine wpAny_passesOwn hp (aS (hg _ s5 σ3 H5 x u _ I5' r5 (step x H5 y5)) ?_)
  rintro _ s6 ⟨σ6,H6,I6,q6⟩
  refine wpAny_passesOwn hp (aS (hb _ s6 σ6 H6 _ I6 q6) fun f s7 q7=> ?_)
  have again:∀{σ7:St} {H7:Hp},Inv X (pins++ pS fp s5.heap) σ7 H7 s7->N σ7 H7->∃m,m<n/\∃i σ' H',Inv X pins σ' H' s7/\tn i s7.heap/\(∀b∈fp,H' b=none)/\W i m σ' H':=fun{σ7 H7} I7 n7=>by
   obtain⟨m',hm,w7⟩:=hN σ7 H7 n7
   refine⟨m',hm,i+ 1,σ7,H7,I7.unpinned,T.keep _ _ _ st5 fun b hb o e=>(I7.pin (b,o) (List.mem_append_right _ (List.mem_append_right _ (pU hb e)))).1,fun b hb=> ?_,w7⟩
   obtain⟨o,e,d⟩:=T.obj _ _ st5 b hb
   exact(I7.pin (b,o) (List.mem_append_right _ (List.mem_append_right _ (pU hb e)))).2.1
  cases f with
  |next=>obtain⟨σ7,H7,I7,n7⟩:=q7;exact again I7 n7
  |cont=>obtain⟨σ7,H7,I7,n7⟩:=q7;exact again I7 n7
  |brk=>obtain⟨σ7,H7,I7,q7⟩:=q7;exact⟨σ7,H7,I7.unpinned,q7⟩
  |ret v=>obtain⟨x7,σ7,H7,I7,r7,q7⟩:=q7;exact⟨x7,σ7,H7,I7.unpinned,r7,q7⟩
end
theorem mH{K:Fg}{a:Addr}{xs:List V}{g:TG}{tb:TS}{D:kP}{σ:St}{H:Hp}(Pv:Nat->St->Hp->Prop)(h0:Pv 0 σ H)(hl:∀i σ H,i<=xs.length->Pv i σ H->aO K H a xs)
 (hs:∀i x σ H,xs[i]?=some x->Pv i σ H->g x σ H fun σ2 H2=>tb {D with nx:=Pv (i+ 1),ct:=Pv (i+ 1),bk:=D.nx} σ2 H2)(hd:∀σ H,Pv xs.length σ H->D.nx σ H):
 ∃W:Nat->Nat->St->Hp->Prop,(∃m,W 0 m σ H)/\∀i m σ H,W i m σ H->
  ((pD K a).stop i H/\D.nx σ H)\/ ((pD K a).go i H/\∃N:St->Hp->Prop,(∀σ' H',N σ' H'->∃m',m'<m/\W (i+ 1) m' σ' H')/\∀x H',(pD K a).yld i H x H'->g x σ H' fun σ2 H2=>tb {D with nx:=N,ct:=N,bk:=D.nx} σ2 H2):=by
 refine⟨fun i m σ H=>m=xs.length- i/\i<=xs.length/\Pv i σ H,⟨xs.length,by simp,Nat.zero_le _,h0⟩,?_⟩
 rintro i m σ H ⟨rfl,hi,p⟩
 have q:=hl i σ H hi p
 by_cases hlt:i<xs.length
 ·refine .inr ⟨⟨xs,xs[i],q,by simp[hlt]⟩,Pv (i+ 1),fun σ' H' p'=>⟨xs.length- (i+ 1),by omega,rfl,hlt,p'⟩,fun x H' y=> ?_⟩
  obtain⟨e,y⟩:=y
  subst e
  exact hs i x σ _ (y xs q) p
 ·have e:i=xs.length:=by omega
  subst e
  exact .inl ⟨⟨xs,q,Nat.le_refl _⟩,hd σ H p⟩
theorem wZ{lo:Int}{n:Nat}{g:TG}{tb:TS}{D:kP}{σ:St}{H:Hp}(Pv:Nat->St->Hp->Prop)(h0:Pv 0 σ H)
 (hs:∀i σ H,i<n->Pv i σ H->g (.int (lo+ i)) σ H fun σ2 H2=>tb {D with nx:=Pv (i+ 1),ct:=Pv (i+ 1),bk:=D.nx} σ2 H2)(hd:∀σ H,Pv n σ H->D.nx σ H):
 ∃W:Nat->Nat->St->Hp->Prop,(∃m,W 0 m σ H)/\∀i m σ H,W i m σ H->
  ((lQ lo n).stop i H/\D.nx σ H)\/ ((lQ lo n).go i H/\∃N:St->Hp->Prop,(∀σ' H',N σ' H'->∃m',m'<m/\W (i+ 1) m' σ' H')/\∀x H',(lQ lo n).yld i H x H'->g x σ H' fun σ2 H2=>tb {D with nx:=N,ct:=N,bk:=D.nx} σ2 H2):=by
 refine⟨fun i m σ H=>m=n- i/\i<=n/\Pv i σ H,⟨n,by simp,Nat.zero_le _,h0⟩,?_⟩
 rintro i m σ H ⟨rfl,hi,p⟩
 by_cases hlt:i<n
 ·refine .inr ⟨hlt,Pv (i+ 1),fun σ' H' p'=>⟨n- (i+ 1),by omega,rfl,hlt,p'⟩,fun x H' y=> ?_⟩
  obtain⟨e,y⟩:=y
  subst e y
  exact hs i σ _ hlt p
 ·have e:i=n:=by omega
  subst e
  exact .inl ⟨Nat.le_refl _,hd σ H p⟩
abbrev R2:=V->V->Hp->VK->Prop
def cX(X:Cx)(f:Value->Value->Sem Value)(r:R2):Prop:=
 ∀(pins:List (Addr×Obj)) (s:Shared) (σ:St) (H:Hp) (x y:V) (v u:Value) (Q:VK),Inv X pins σ H s->bG x v->bG y u->r x y H Q->
  wpAny (model X.prog X.w) X.A (f v u) (EP X pins σ Q) X.xe s
def xL(X:Cx)(f:Value->Sem Value)(r:V->Hp->VK->Prop):Prop:=
 ∀(pins:List (Addr×Obj)) (s:Shared) (σ:St) (H:Hp) (x:V) (v:Value) (Q:VK),Inv X pins σ H s->bG x v->r x H Q->
  wpAny (model X.prog X.w) X.A (f v) (EP X pins σ Q) X.xe s
def iE(X:Cx)(f:Value)(r:List V->Hp->VK->Prop):Prop:=
 ∀(pins:List (Addr×Obj)) (s:Shared) (σ:St) (H:Hp) (xs:List V) (us:List Value) (Q:VK),Inv X pins σ H s->bE xs us->r xs H Q->
  wpAny (model X.prog X.w) X.A (call f us) (EP X pins σ Q) X.xe s
def TruR(X:Cx)(r:V->Hp->(Bool->Hp->Prop)->Prop):Prop:=
 ∀(pins:List (Addr×Obj)) (s:Shared) (σ:St) (H:Hp) (x:V) (v:Value) (Q:Bool->Hp->Prop),Inv X pins σ H s->bG x v->r x H Q->
  wpAny (model X.prog X.w) X.A (truthy v) (TP X pins σ Q) X.xe s
def lY(r:R2)(ta tb:TE):TE:=fun σ H Q=>ta σ H fun x H1=>tb σ H1 fun y H2=>r x y H2 Q
def tUn(r:V->Hp->VK->Prop)(ta:TE):TE:=fun σ H Q=>ta σ H fun x H1=>r x H1 Q
noncomputable def rI (C:Int->Int->Prop) (g:Int->Int->V):R2:=fun x y H Q=>∃i j,x= .int i/\y= .int j/\C i j/\Q (g i j) H
noncomputable def mQ (g:Int->Int->V):R2:=fun x y H Q=>∃i j,x= .int i/\y= .int j/\Q (g i j) H
def rU(g:Int->V):V->Hp->VK->Prop:=fun x H Q=>∃i,x= .int i/\Q (g i) H
section
variable{X:Cx}{a b c:Expr}{ta tb tc:TE}{pos:Pos}
theorem yY(ha:PE X a ta)(hb:PE X b tb){pins:List (Addr×Obj)}{s:Shared}{σ:St}{H:Hp}{R:V->V->Hp->Prop}(I:Inv X pins σ H s)
 (h:ta σ H fun x H1=>tb σ H1 fun y H2=>R x y H2){Q:Value->Shared->Prop}{f:Value->Value->Sem Value}
 (hf:∀v u s2 x y H2,Inv X pins σ H2 s2->bG x v->bG y u->R x y H2->wpAny (model X.prog X.w) X.A (f v u) Q X.xe s2):
 wpAny (model X.prog X.w) X.A (eval a X.env) (fun v s₁=>wpAny (model X.prog X.w) X.A (eval b X.env) (fun u s₂=>wpAny (model X.prog X.w) X.A (f v u) Q X.xe s₂) X.xe s₁) X.xe s:=by
 refine aS (ha pins s σ H _ I h) ?_
 rintro v s1 ⟨x,H1,I1,r1,q1⟩
 refine aS (hb pins s1 σ H1 _ I1 q1) ?_
 rintro u s2 ⟨y,H2,I2,r2,q2⟩
 exact hf v u s2 x y H2 I2 r1 r2 q2
theorem bY{op:Operator}{r:R2}(ho:cX X (binaryOp op) r)(ha:PE X a ta)(hb:PE X b tb):PE X (.BinOp a op b pos) (lY r ta tb):=by
 intro pins s σ H Q I h
 exact wpAny_BinOp (yY ha hb I h fun v u s2 x y H2 I2 rx ry q=>ho pins s2 σ H2 x y v u Q I2 rx ry q)
theorem vL{op:UnaryOp}{r:V->Hp->VK->Prop}(ho:xL X (unaryOp op) r)(ha:PE X a ta):PE X (.UnaryOp op a pos) (tUn r ta):=by
 intro pins s σ H Q I h
 exact UnaryOp_ (aS (ha pins s σ H _ I h) fun v s1 ⟨x,H1,I1,r1,q1⟩=>ho pins s1 σ H1 x v Q I1 r1 q1)
theorem uU{f:Value->Value->Sem Value}{C:Int->Int->Prop}{g:Int->Int->Int}
 (rule:∀(i j:Int) (t u:Tok) (s:Shared) (Q:Value->Shared->Prop) (E:Value->Shared->Prop),C i j->Q (.int (g i j) s.toks) {s with toks:=s.toks+ 1} ->wpAny (model X.prog X.w) X.A (f (.int i t) (.int j u)) Q E s):
 cX X f (rI C fun i j=> .int (g i j)):=by
 intro pins s σ H x y v u Q I rx ry h
 obtain⟨i,j,rfl,rfl,hc,q⟩:=h
 obtain⟨t,rfl⟩:=rx
 obtain⟨t',rfl⟩:=ry
 exact rule i j t t' s _ _ hc ⟨.int (g i j),H,I.tok _,⟨_,rfl⟩,q⟩
theorem opI0{f:Value->Value->Sem Value}{g:Int->Int->Int}
 (rule:∀(i j:Int) (t u:Tok) (s:Shared) (Q:Value->Shared->Prop) (E:Value->Shared->Prop),Q (.int (g i j) s.toks) {s with toks:=s.toks+ 1} ->wpAny (model X.prog X.w) X.A (f (.int i t) (.int j u)) Q E s):
 cX X f (mQ fun i j=> .int (g i j)):=by
 intro pins s σ H x y v u Q I rx ry h
 obtain⟨i,j,rfl,rfl,q⟩:=h
 obtain⟨t,rfl⟩:=rx
 obtain⟨t',rfl⟩:=ry
 exact rule i j t t' s _ _ ⟨.int (g i j),H,I.tok _,⟨_,rfl⟩,q⟩
theorem tG{f:Value->Value->Sem Value}{g:Int->Int->Bool}
 (rule:∀(i j:Int) (t u:Tok) (s:Shared) (Q:Value->Shared->Prop) (E:Value->Shared->Prop),Q (.bool (g i j)) s->wpAny (model X.prog X.w) X.A (f (.int i t) (.int j u)) Q E s):
 cX X f (mQ fun i j=> .bl (g i j)):=by
 intro pins s σ H x y v u Q I rx ry h
 obtain⟨i,j,rfl,rfl,q⟩:=h
 obtain⟨t,rfl⟩:=rx
 obtain⟨t',rfl⟩:=ry
 exact rule i j t t' s _ _ ⟨.bl (g i j),H,I,rfl,q⟩
def CDiv(i j:Int):Prop:=0<j/\j<1073741824
def CPow(i j:Int):Prop:=0<=j/\j<=1000000/\i.natAbs<2^ 64
def vH(i j:Int):Prop:=(-(2^ 64)<i/\i<2^ 64)\/ (-(2^ 64)<j/\j<2^ 64)
theorem vH.ok{i j:Int}(h:vH i j):IntMulOk i j:=by
 rcases h with⟨h1,h2⟩|⟨h1,h2⟩
 ·exact .of_left (intBits_le_64 h1 h2)
 ·exact .of_right (intBits_le_64 h1 h2)
theorem tM:cX X (binaryOp .Add) (mQ fun i j=> .int (i+ j)):=opI0 fun _ _ _ _ _ _ _ q=>add_int q
theorem yS:cX X (binaryOp .Sub) (mQ fun i j=> .int (i- j)):=opI0 fun _ _ _ _ _ _ _ q=>sub_int q
theorem rX:cX X (binaryOp .Mult) (rI vH fun i j=> .int (i* j)):=uU fun _ _ _ _ _ _ _ hc q=>mul_int q hc.ok
theorem oU:cX X (binaryOp .FloorDiv) (rI CDiv fun i j=> .int (i/ j)):=uU fun i j _ _ _ _ _ hc q=>by
 have h1:(0:Int)<j:=hc.1
 have h2:j<1073741824:=hc.2
 exact floordiv_int (by omega) (by rw[Int.fdiv_eq_ediv_of_nonneg i (by omega)];exact q) (.inl (PyProof.noPylong_small (by omega)))
theorem jK:cX X (binaryOp .Mod) (rI (fun _ j=>0<j) fun i j=> .int (i% j)):=uU fun i j _ _ _ _ _ hc q=>by
 have h1:(0:Int)<j:=hc
 exact mod_int' (by omega) (by rw[Int.fmod_eq_emod_of_nonneg i (by omega)];exact q)
theorem zJ:cX X (binaryOp .Pow) (rI CPow fun i j=> .int (i^ j.toNat)):=uU fun _ _ _ _ _ _ _ hc q=>pow_int_small hc.1 hc.2.1 hc.2.2 q
theorem unI{f:Value->Sem Value}{g:Int->Int}
 (rule:∀(i:Int) (t:Tok) (s:Shared) (Q:Value->Shared->Prop) (E:Value->Shared->Prop),Q (.int (g i) s.toks) {s with toks:=s.toks+ 1} ->wpAny (model X.prog X.w) X.A (f (.int i t)) Q E s):
 xL X f (rU fun i=> .int (g i)):=by
 intro pins s σ H x v Q I rx h
 obtain⟨i,rfl,q⟩:=h
 obtain⟨t,rfl⟩:=rx
 exact rule i t s _ _ ⟨.int (g i),H,I.tok _,⟨_,rfl⟩,q⟩
theorem zF:xL X (unaryOp .USub) (rU fun i=> .int (-i)):=unI fun _ _ _ _ _ q=>neg_int q
end
noncomputable def scal:V->V->Bool
 | .non,.non=>true| .non,.int _=>true| .int _,.non=>true| .non,.bl _=>true| .bl _,.non=>true| .non,.str _=>true| .str _,.non=>true
 | .int _,.int _=>true| .bl _,.bl _=>true| .str _,.str _=>true| .byt _,.byt _=>true
 | .int _,.str _=>true| .str _,.int _=>true| .bl _,.str _=>true| .str _,.bl _=>true
 |_,_=>false
noncomputable def rEq:R2:=fun x y H Q=>scal x y=true/\Q (.bl (decide (x=y))) H
noncomputable def rNe:R2:=fun x y H Q=>scal x y=true/\Q (.bl (!decide (x=y))) H
theorem a3j{i j:Int}:decide (V.int i=V.int j)=(i==j):=by
 rw[Bool.eq_iff_iff]
 simp
theorem a0q{i j:Bool}:decide (V.bl i=V.bl j)=(i==j):=by
 rw[Bool.eq_iff_iff]
 simp
theorem a1b{i j:Str}:decide (V.str i=V.str j)=(i==j):=by
 rw[Bool.eq_iff_iff]
 simp
theorem a3z{i j:Array UInt8}:decide (V.byt i=V.byt j)=(i.toList==j.toList):=by
 rw[Bool.eq_iff_iff]
 cases i
 cases j
 simp
section
variable{X:Cx}{a b c:Expr}{ta tb tc:TE}{pos:Pos}
theorem cZ{pins:List (Addr×Obj)}{σ:St}{H:Hp}{s:Shared}{Q:VK}{k k':Bool}(I:Inv X pins σ H s)(q:Q (.bl k) H)(e:k=k'):EP X pins σ Q (.bool k') s:=by
 subst e
 exact⟨.bl k,H,I,rfl,q⟩
theorem oN:cX X (compareOp .Eq) rEq:=by
 intro pins s σ H x y v u Q I rx ry h
 obtain⟨hs,q⟩:=h
 cases x with
 |non=>
  cases rx
  cases y with
  |non=>cases ry;exact PySem.EqNone.eq_none_none (cZ I q (by simp))
  |bl j=>cases ry;exact PySem.EqNone.eq_none_bool (cZ I q (by simp))
  |int j=>obtain⟨t',rfl⟩:=ry;exact PySem.EqNone.eq_none_int (cZ I q (by simp))
  |str j=>obtain⟨t',rfl⟩:=ry;exact PySem.EqNone.eq_none_str (cZ I q (by simp))
  |_=>exact absurd (show false=true from hs) Bool.false_ne_true
 |bl i=>
  cases rx
  cases y with
  |non=>cases ry;exact PySem.EqNone.eq_bool_none (cZ I q (by simp))
  |bl j=>cases ry;exact eq_bool (cZ I q a0q)
  |str j=>obtain⟨t',rfl⟩:=ry;exact PySem.EqMixed.eq_bool_str (cZ I q (by simp))
  |_=>exact absurd (show false=true from hs) Bool.false_ne_true
 |int i=>
  obtain⟨t,rfl⟩:=rx
  cases y with
  |non=>cases ry;exact PySem.EqNone.eq_int_none (cZ I q (by simp))
  |int j=>obtain⟨t',rfl⟩:=ry;exact eq_int (cZ I q a3j)
  |str j=>obtain⟨t',rfl⟩:=ry;exact PySem.EqMixed.eq_int_str (cZ I q (by simp))
  |_=>exact absurd (show false=true from hs) Bool.false_ne_true
 |str i=>
  obtain⟨t,rfl⟩:=rx
  cases y with
  |non=>cases ry;exact PySem.EqNone.eq_str_none (cZ I q (by simp))
  |bl j=>cases ry;exact PySem.EqMixed.eq_str_bool (cZ I q (by simp))
  |int j=>obtain⟨t',rfl⟩:=ry;exact PySem.EqMixed.eq_str_int (cZ I q (by simp))
  |str j=>obtain⟨t',rfl⟩:=ry;exact eq_str (cZ I q a1b)
  |_=>exact absurd (show false=true from hs) Bool.false_ne_true
 |byt i=>
  obtain⟨t,rfl⟩:=rx
  cases y with
  |byt j=>obtain⟨t',rfl⟩:=ry;exact PySem.W.eq_bytes (cZ I q a3z)
  |_=>exact absurd (show false=true from hs) Bool.false_ne_true
 |_=>cases y<;>exact absurd (show false=true from hs) Bool.false_ne_true
theorem uZ:cX X (compareOp .NotEq) rNe:=by
 intro pins s σ H x y v u Q I rx ry h
 obtain⟨hs,q⟩:=h
 cases x with
 |non=>
  cases rx
  cases y with
  |non=>cases ry;exact PySem.EqNone.ne_none_none (cZ I q (by simp))
  |bl j=>cases ry;exact PySem.EqNone.ne_none_bool (cZ I q (by simp))
  |int j=>obtain⟨t',rfl⟩:=ry;exact PySem.EqNone.ne_none_int (cZ I q (by simp))
  |str j=>obtain⟨t',rfl⟩:=ry;exact PySem.EqNone.ne_none_str (cZ I q (by simp))
  |_=>exact absurd (show false=true from hs) Bool.false_ne_true
 |bl i=>
  cases rx
  cases y with
  |non=>cases ry;exact PySem.EqNone.ne_bool_none (cZ I q (by simp))
  |bl j=>cases ry;exact ne_bool (cZ I q (congrArg not a0q))
  |str j=>obtain⟨t',rfl⟩:=ry;exact PySem.EqMixed.ne_bool_str (cZ I q (by simp))
  |_=>exact absurd (show false=true from hs) Bool.false_ne_true
 |int i=>
  obtain⟨t,rfl⟩:=rx
  cases y with
  |non=>cases ry;exact PySem.EqNone.ne_int_none (cZ I q (by simp))
  |int j=>obtain⟨t',rfl⟩:=ry;exact ne_int (cZ I q (congrArg not a3j))
  |str j=>obtain⟨t',rfl⟩:=ry;exact PySem.EqMixed.ne_int_str (cZ I q (by simp))
  |_=>exact absurd (show false=true from hs) Bool.false_ne_true
 |str i=>
  obtain⟨t,rfl⟩:=rx
  cases y with
  |non=>cases ry;exact PySem.EqNone.ne_str_none (cZ I q (by simp))
  |bl j=>cases ry;exact PySem.EqMixed.ne_str_bool (cZ I q (by simp))
  |int j=>obtain⟨t',rfl⟩:=ry;exact PySem.EqMixed.ne_str_int (cZ I q (by simp))
  |str j=>obtain⟨t',rfl⟩:=ry;exact ne_str (cZ I q (congrArg not a1b))
  |_=>exact absurd (show false=true from hs) Bool.false_ne_true
 |byt i=>
  obtain⟨t,rfl⟩:=rx
  cases y with
  |byt j=>obtain⟨t',rfl⟩:=ry;exact PySem.W.ne_bytes (cZ I q (congrArg not a3z))
  |_=>exact absurd (show false=true from hs) Bool.false_ne_true
 |_=>cases y<;>exact absurd (show false=true from hs) Bool.false_ne_true
theorem vP:cX X (compareOp .Lt) (mQ fun i j=> .bl (decide (i<j))):=tG fun _ _ _ _ _ _ _ q=>lt_int q
theorem mG:cX X (compareOp .LtE) (mQ fun i j=> .bl (decide (i<=j))):=tG fun _ _ _ _ _ _ _ q=>le_int q
theorem a0R:cX X (compareOp .Gt) (mQ fun i j=> .bl (decide (j<i))):=tG fun _ _ _ _ _ _ _ q=>gt_int q
theorem wU:cX X (compareOp .GtE) (mQ fun i j=> .bl (decide (j<=i))):=tG fun _ _ _ _ _ _ _ q=>ge_int q
theorem a37:cX X (compareOp .In) (fun x y H Q=>∃i j,x= .str i/\y= .str j/\Q (.bl (!(Builtin.Str.occurrences j i 0 j.length 1).isEmpty)) H):=by
 intro pins s σ H x y v u Q I rx ry h
 obtain⟨i,j,rfl,rfl,q⟩:=h
 obtain⟨t,rfl⟩:=rx
 obtain⟨t',rfl⟩:=ry
 exact in_str (cZ I q rfl)
theorem oZ:cX X (compareOp .Is) (fun x y H Q=>y= .non/\Q (.bl (decide (x= .non))) H):=by
 intro pins s σ H x y v u Q I rx ry h
 obtain⟨rfl,q⟩:=h
 cases ry
 refine is_none_gen (cZ I q ?_)
 cases x<;>first
  |(cases rx;rfl)
  |(obtain⟨t,rfl⟩:=rx;rfl)
theorem a8T:cX X (compareOp .IsNot) (fun x y H Q=>y= .non/\Q (.bl (!decide (x= .non))) H):=by
 intro pins s σ H x y v u Q I rx ry h
 obtain⟨rfl,q⟩:=h
 cases ry
 refine isnot_none_gen (cZ I q ?_)
 cases x<;>first
  |(cases rx;rfl)
  |(obtain⟨t,rfl⟩:=rx;rfl)
theorem cH(b:Expr){op:CmpOp}(h:op≠ .In:=by decide)(h2:op≠ .NotIn:=by decide):behindInMarks op b=false:=by
 have e1:(op==CmpOp.In)=false:=by cases op<;>first|rfl|exact absurd rfl h
 have e2:(op==CmpOp.NotIn)=false:=by cases op<;>first|rfl|exact absurd rfl h2
 cases b<;>simp[behindInMarks,e1,e2]
theorem nE{op:CmpOp}{r:R2}(ho:cX X (compareOp op) r)(ha:PE X a ta)(hb:PE X b tb)(hm:behindInMarks op b=false):PE X (.Compare a [op] [b] pos) (lY r ta tb):=by
 intro pins s σ H Q I h
 exact wpAny_Compare1 (yY ha hb I h fun v u s2 x y H2 I2 rx ry q=>ho pins s2 σ H2 x y v u Q I2 rx ry q) hm
def qH(t:TE):TT:=fun σ H Q=>t σ H fun x H'=>∃k,x= .bl k/\Q k H'
theorem cE{op:CmpOp}{r:R2}(ho:cX X (compareOp op) r)(ha:PE X a ta)(hb:PE X b tb)(hm:behindInMarks op b=false):PT X (.Compare a [op] [b] pos) (qH (lY r ta tb)):=by
 intro pins s σ H Q I h
 refine wpAny_isTrue_Compare1 (aS (ha pins s σ H _ I h) fun v s1 ⟨x,H1,I1,r1,q1⟩=>aS (hb pins s1 σ H1 _ I1 q1) fun u s2 ⟨y,H2,I2,r2,q2⟩=>
  aS (ho pins s2 σ H2 x y v u _ I2 r1 r2 q2) fun c s3 ⟨z,H3,I3,r3,k,e,q3⟩=> ?_) hm
 subst e
 cases r3
 exact wpAny_truthy_bool ⟨H3,I3,q3⟩
def a4e(r r':R2)(ta tb tc:TE):TE:=fun σ H Q=>ta σ H fun x H1=>tb σ H1 fun y H2=>r x y H2 fun z H3=>∃k,z= .bl k/\
 (if k=true then tc σ H3 fun w' H4=>r' y w' H4 Q else Q (.bl false) H3)
theorem vV{op op':CmpOp}{r r':R2}(ho:cX X (compareOp op) r)(ho':cX X (compareOp op') r')(ha:PE X a ta)(hb:PE X b tb)(hc:PE X c tc)
 (hm:lastMarks [op,op'] [b,c]=false:=by with_unfolding_all rfl):PT X (.Compare a [op,op'] [b,c] pos) (qH (a4e r r' ta tb tc)):=by
 intro pins s σ H Q I h
 refine isTrue_chain (aS (ha pins s σ H _ I h) fun v s1 ⟨x,H1,I1,r1,q1⟩=>test_link (aS (hb pins s1 σ H1 _ I1 q1) fun u s2 ⟨y,H2,I2,r2,q2⟩=>
  aS (ho pins s2 σ H2 x y v u _ I2 r1 r2 q2) fun d s3 ⟨z,H3,I3,r3,k,e,q3⟩=> ?_)) hm
 subst e
 cases r3
 refine wpAny_truthy_bool ?_
 cases k with
 |false=>
  obtain⟨k',e',q'⟩:=q3
  cases e'
  exact ite_ff ⟨H3,I3,q'⟩
 |true=>
  refine ite_tt (test_last (aS (hc pins s3 σ H3 _ I3 q3) fun w' s4 ⟨z',H4,I4,r4,q4⟩=>aS (ho' pins s4 σ H4 y z' u w' _ I4 r2 r4 q4) fun d' s5 ⟨z2,H5,I5,r5,k2,e2,q5⟩=> ?_))
  subst e2
  cases r5
  exact wpAny_truthy_bool ⟨H5,I5,q5⟩
def TruV(K:Fg)(x:V)(H:Hp)(k:Bool):Prop:=
 match x with
 | .non=>k=false
 | .bl b=>k=b
 | .int i=>k=(i !=0)
 | .str y=>y.length<=sizeLine/\k=((y.length:Int) !=0)
 | .byt y=>y.size<=sizeLine/\k=((y.size:Int) !=0)
 | .ref p=>(∃xs,aO K H p xs/\k= !xs.isEmpty)\/ (∃xs,bW K H p xs/\k= !xs.isEmpty)\/ ∃kvs,H p=some (.dK kvs)/\k= !kvs.isEmpty
 |_=>False
theorem a56{κ:Type}{kvs:List (κ×V)}{vs:List (κ×Value)}(r:KV kvs vs):(!vs.isEmpty)= !kvs.isEmpty:=by
 cases r<;>rfl
theorem a21{xs:List V}{its:List Value}(r:bE xs its):(!its.toArray.isEmpty)= !xs.isEmpty:=by
 cases r<;>simp
theorem uT:(sizeLine:Nat)<2^ 63:=by rw[sizeLine_eq];decide
theorem a8n:TruR X (fun x H Q=>∃k,TruV X.K x H k/\Q k H):=by
 intro pins s σ H x v Q I rx h
 obtain⟨k,e,q⟩:=h
 have hl:=uT
 have hs:sizeLine=16777216:=sizeLine_eq
 cases x with
 |non=>
  cases rx
  have e':k=false:=e
  subst e'
  exact truthy_none ⟨H,I,q⟩
 |bl b=>
  cases rx
  have e':k=b:=e
  subst e'
  exact wpAny_truthy_bool ⟨H,I,q⟩
 |int i=>
  obtain⟨t,rfl⟩:=rx
  have e':k=(i !=0):=e
  subst e'
  exact PySem.P.truthy_int ⟨H,I,q⟩
 |str y=>
  obtain⟨t,rfl⟩:=rx
  obtain⟨hy,e'⟩:y.length<=sizeLine/\k=((y.length:Int) !=0):=e
  subst e'
  exact PySem.P.truthy_str (by omega) ⟨H,I.tok _,q⟩
 |byt y=>
  obtain⟨t,rfl⟩:=rx
  obtain⟨hy,e'⟩:y.size<=sizeLine/\k=((y.size:Int) !=0):=e
  subst e'
  exact PySem.W.truthy_bytes (by omega) ⟨H,I.tok _,q⟩
 |ref p=>
  cases rx
  have e':(∃xs,aO X.K H p xs/\k= !xs.isEmpty)\/ (∃xs,bW X.K H p xs/\k= !xs.isEmpty)\/ ∃kvs,H p=some (.dK kvs)/\k= !kvs.isEmpty:=e
  rcases e' with⟨xs,hx,e'⟩|⟨xs,hx,e'⟩|⟨kvs,hx,e'⟩
  ·subst e'
   obtain⟨its,r,pl,hz⟩:=I.list hx
   have hlen:=r.length
   exact wpAny_truthy_list pl.isList (by simp only[List.size_toArray];omega) ⟨H,I.tok _,by rw[a21 r];exact q⟩
  ·subst e'
   obtain⟨its,r,pl,hz⟩:=I.tuple hx
   have hlen:=r.length
   exact truthy_tuple pl (by simp only[List.size_toArray];omega) ⟨H,I.tok _,by rw[a21 r];exact q⟩
  ·subst e'
   obtain⟨hz,hS,vs,r,m⟩:kvs.length<=sizeLine/\(p==sysModules)=false/\∃vs,KV kvs vs/\s.heap.DictOf (fS X.prog X.w) p vs:=I.hok p _ hx
   have hlen:kvs.length=vs.length:=Paired.length r
   exact wpAny_truthy_dict hS m (by omega) ⟨H,I.tok _,by rw[a56 r];exact q⟩
 |_=>exact(show False from e).elim
theorem yM(ha:PE X a ta)(he:∀whole,isTrue a X.env whole=(do let v<- whole;standAt a.pos;holding [v] (truthy v))):
 PT X a (fun σ H Q=>ta σ H fun x H'=>∃k,TruV X.K x H' k/\Q k H'):=by
 intro pins s σ H Q I h
 exact isTrue_plain (aS (ha pins s σ H _ I h) fun v s1 ⟨x,H1,I1,r1,q1⟩=>a8n pins s1 σ H1 x v Q I1 r1 q1) (he _)
theorem kK:cX X (binaryOp .Add) (fun x y H Q=>∃i j,x= .str i/\y= .str j/\i.length+ j.length<=sizeLine/\Q (.str (i++ j)) H):=by
 intro pins s σ H x y v u Q I rx ry h
 obtain⟨i,j,rfl,rfl,hz,q⟩:=h
 obtain⟨t,rfl⟩:=rx
 obtain⟨t',rfl⟩:=ry
 exact add_str (fun t' tk=>⟨.str (i++ j),H,I.tok _,⟨_,rfl⟩,q⟩) hz
theorem mN{x:V}{us:List Value}(r:bE [x] us):∃u,us= [u] /\bG x u:=by
 cases r with
 |cons r1 r2=>cases r2;exact⟨_,rfl,r1⟩
theorem a32{x y:V}{us:List Value}(r:bE [x,y] us):∃u w',us= [u,w'] /\bG x u/\bG y w':=by
 cases r with
 |cons r1 r2=>
  cases r2 with
  |cons r3 r4=>cases r4;exact⟨_,_,rfl,r1,r3⟩
theorem a3Z:iE X (.builtin "abs") (fun xs H Q=>∃i,xs= [.int i] /\Q (.int (if i<0 then-i else i)) H):=by
 intro pins s σ H xs us Q I r h
 obtain⟨i,rfl,q⟩:=h
 obtain⟨u,rfl,t,rfl⟩:=mN r
 exact call_abs_int fun u tk=>⟨.int (if i<0 then-i else i),H,I.tok _,⟨_,rfl⟩,q⟩
theorem a6z(hc:X.calm=true):iE X (.builtin "max") (fun xs H Q=>∃i j,xs= [.int i,.int j] /\Q (.int (if j>i then j else i)) H):=by
 intro pins s σ H xs us Q I r h
 obtain⟨i,j,rfl,q⟩:=h
 obtain⟨u,w',rfl,⟨t,rfl⟩,⟨t',rfl⟩⟩:=a32 r
 refine max_two_ints (I.ok.hd hc) fun h' tk k=>⟨_,H,I.kept k,?_,q⟩
 by_cases hj:j>i
 ·rw[if_pos hj,if_pos hj];exact⟨_,rfl⟩
 ·rw[if_neg hj,if_neg hj];exact⟨_,rfl⟩
def LenV(K:Fg)(x:V)(H:Hp)(n:Nat):Prop:=
 match x with
 | .str y=>y.length<=sizeLine/\n=y.length
 | .byt y=>y.size<=sizeLine/\n=y.size
 | .ref p=>(∃xs,aO K H p xs/\n=xs.length)\/ ∃xs,bW K H p xs/\n=xs.length
 |_=>False
theorem iL:iE X (.builtin "len") (fun xs H Q=>∃x n,xs= [x] /\LenV X.K x H n/\Q (.int n) H):=by
 intro pins s σ H xs us Q I r h
 obtain⟨x,n,rfl,e,q⟩:=h
 obtain⟨u,rfl,rx⟩:=mN r
 have hl:=uT
 have hs:sizeLine=16777216:=sizeLine_eq
 cases x with
 |str y=>
  obtain⟨t,rfl⟩:=rx
  obtain⟨hy,e'⟩:y.length<=sizeLine/\n=y.length:=e
  subst e'
  exact len_str (by omega) ⟨.int _,H,I.tok _,⟨_,rfl⟩,q⟩
 |byt y=>
  obtain⟨t,rfl⟩:=rx
  obtain⟨hy,e'⟩:y.size<=sizeLine/\n=y.size:=e
  subst e'
  exact PySem.W.len_bytes (by omega) ⟨.int _,H,I.tok _,⟨_,rfl⟩,q⟩
 |ref p=>
  cases rx
  have e':(∃xs,aO X.K H p xs/\n=xs.length)\/ ∃xs,bW X.K H p xs/\n=xs.length:=e
  rcases e' with⟨xs,hx,e'⟩|⟨xs,hx,e'⟩
  ·subst e'
   obtain⟨its,r',pl,hz⟩:=I.list hx
   have hlen:=r'.length
   exact Calls.call_len_list pl.isList (by simp only[List.size_toArray];omega) ⟨.int xs.length,H,I.tok _,⟨_,by simp only[List.size_toArray];rw[hlen]⟩,q⟩
  ·subst e'
   obtain⟨its,r',pl,hz⟩:=I.tuple hx
   have hlen:=r'.length
   exact len_tuple pl (by simp only[List.size_toArray];omega) ⟨.int xs.length,H,I.tok _,⟨_,by simp only[List.size_toArray];rw[hlen]⟩,q⟩
 |_=>exact(show False from e).elim
end
structure nJ(h:Heap)(x dx C:Addr)(mA:Str->Option Value):Prop where
 obj:h.get? x=some (PySem.W.instObj C dx)
 ns:h.Ns1 dx mA
 ne:dx≠x
theorem a83{h:Heap}{dx:Addr}{mA:Str->Option Value}(n:h.Ns1 dx mA):∃od,h.get? dx=some od/\∀name,PySem.W.lookIn name od=some (mA name):=by
 obtain⟨o,es,ep,ho,hd,hk,_,hm⟩:=n
 refine⟨o,ho,fun name=> ?_⟩
 have e:=hm name
 unfold nsFind findBy at e
 rw[<- Array.find?_toList]at e
 unfold PySem.W.lookIn
 rw[hd]
 dsimp only
 split
 ·rename_i y q
  rw[q]at e
  exact congrArg some e
 ·rename_i q
  rw[q]at e
  have a:es.toList.any (·.refKey)=false:=by
   rw[List.any_eq_false]
   intro y hy
   obtain⟨z,t,hkey⟩:=hk y (Array.mem_toList_iff.mp hy)
   simp[DictEntry.refKey,hkey]
  have a':¬es.toList.any (·.refKey)=true:=by rw[a];exact Bool.false_ne_true
  rw[if_neg a']
  exact congrArg some e
theorem nJ.look{h:Heap}{x dx C:Addr}{mA:Str->Option Value}(I:nJ h x dx C mA):∃od,PySem.W.InstAt h x (PySem.W.instObj C dx) C (some od)/\∀name,PySem.W.lookIn name od=some (mA name):=
 let ⟨od,ho,hl⟩:=a83 I.ns
 ⟨od,⟨I.obj,rfl,rfl,ho⟩,hl⟩
section
variable{prog:Program}{w:World}{A:Around}{E:Value->Shared->Prop}{s:Shared}{K:Fg}{x dx C f:Addr}{mA:Str->Option Value}{name:Str}{v:Value}
theorem a4d{expr:Bool}{Q:Value->Shared->Prop}(X:K.In s.heap)(I:nJ s.heap x dx C mA)(hg:PySem.W.plainGet K C name=true)(hh:PySem.W.hasDictIn K C=true)
 (ha:PySem.W.findIn K (.ref C) name=some none)(hv:mA name=some v)(hv':PySem.W.handedIn v=true)(h:Q v {s with toks:=s.toks+ 1}):
 wpAny (model prog w) A (getAttr (.ref x) name expr) Q E s:=by
 obtain⟨od,J,hl⟩:=I.look
 exact PySem.W.get_value X J (PySem.W.plainGet_of hg).1 (PySem.W.findObj_own hh ha rfl (by rw[hl,hv])) hv' h
theorem a5A{pl:Sem Bool}{Q:Value×List Value->Shared->Prop}(X:K.In s.heap)(I:nJ s.heap x dx C mA)(hg:PySem.W.plainGet K C name=true)
 (hf:PySem.W.findIn K (.ref C) name=some (some (.ref f)))(ht:PySem.W.isFn K (.ref f)=true)(hv:mA name=none)(h:Q (.ref f,[.ref x]) s):
 wpAny (model prog w) A (getMethod (.ref x) name pl) Q E s:=by
 obtain⟨od,J,hl⟩:=I.look
 exact PySem.W.method_fn X J (PySem.W.plainGet_of hg).1 (PySem.W.plainGet_of hg).2 hf (beq_iff_eq.mp ht) (by show(PySem.W.lookIn name od).map (·.isSome)=some false;rw[hl,hv];rfl) h
theorem a5l{ns:List Str}{Q:Unit->Shared->Prop}(X:K.In s.heap)(I:nJ s.heap x dx C mA)
 (hs:PySem.W.findIn K (.ref C) "__setattr__"=some (some (.builtin "object.__setattr__")))(hp:PySem.W.plainOver K C=true)(ht:PySem.W.takerIn K C name=some none)(hh:PySem.W.hasDictIn K C=true)
 (hw:PySem.Within mA ns)(hsz:ns.length<=sizeLine)
 (h:∀h',nJ h' x dx C (fun y=>if y=name then some v else mA y)->Heap.SameBut dx s.heap h'->Q () {s with heap:=h',toks:=s.toks+ 2}):
 wpAny (model prog w) A (setAttr (.ref x) name v) Q E s:=by
 obtain⟨od,J,hl⟩:=I.look
 refine PySem.W.set_plain X J hs (PySem.W.osa_open (s:={s with toks:=s.toks+ 1}) (r:=none) X J hp ht fun b=> ?_)
 obtain⟨cd,hc,hd'⟩:=PySem.W.any_some hh
 have hx:s.heap.get? x=some ⟨.ref C,some dx,.plain,#[]⟩:=I.obj
 refine wpAny_bind (wpAny_pure (wpAny_bind (wpAny_bind (wpAny_loadPart hx (wpAny_bind (PySem.W.Looks.here (s:={s with toks:=s.toks+ 1}) (PySem.W.looks_clsIn X hc) ?_))))))
 rw[hd']
 refine wpAny_pure (a:=some dx) (wpAny_bind (wpAny_pure (wpAny_bind ?_)))
 refine wpAny_nsSet1 (s:={s with toks:=s.toks+ 1}) I.ns fun h' hn2 hs2=> ?_
 obtain⟨oD,esD,epD,hoD,hdD,hcD⟩:=hn2.count (PySem.Within.cons name v hw)
 refine wpAny_bind (wpAny_lookBehind hoD (by rw[hdD];exact pastItsLine_dict (Nat.le_trans hcD (by rw[List.length_cons];omega))) ?_)
 exact wpAny_pure (h _ ⟨(hs2.2 _ (Ne.symm I.ne)).trans I.obj,hn2,I.ne⟩ hs2)
theorem a8L{R:Result->Shared->Prop}{vs:List Value}{kw:List (Str×Value)}(X:K.In s.heap)(hm:PySem.W.makesIn K C=true)
 (hi:PySem.W.findIn K (.ref C) "__init__"=some (some (.ref f)))(hf:PySem.W.typeIn K (.ref f)=some (.type "function"))
 (h:codeAny (model prog w) (A.under (.builtin "type.__call__" ⟨.ref C::vs,kw⟩)) (.call (.ref f) ⟨.ref (s.heap.objs.size+ 1)::vs,kw⟩) (PySem.W.InitBack (s.heap.objs.size+ 1) R)
  {s with heap:=(s.heap.push PySem.W.emptyDict).push (PySem.W.instObj C s.heap.objs.size)}):
 codeAny (model prog w) A (.call (.ref C) ⟨vs,kw⟩) R s:=by
 obtain⟨hh,g,d,t,os⟩:=s
 exact PySem.W.make_core (PySem.W.makes_of X hm) (PySem.W.looks_findIn X hi) (fun self=>PySem.W.bind_fn X self hf) (.inl rfl) h
end
noncomputable def aK (f:Str) (v:V):List (Str×V)->List (Str×V)
 | []=> [(f,v)]
 |(g,x)::r=>if g=f then(g,v)::r else(g,x)::aK f v r
theorem a1T(f g:Str)(v:V):∀fs:List (Str×V),(aK f v fs).lookup g=if g=f then some v else fs.lookup g
 | []=>by
  show List.lookup g [(f,v)]=_
  by_cases h:g=f
  ·have hb:(g==f)=true:=beq_iff_eq.mpr h
   simp only[List.lookup,hb,if_pos h]
  ·have hb:(g==f)=false:=beq_eq_false_iff_ne.mpr h
   simp only[List.lookup,hb,if_neg h]
 |(k,x)::r=>by
  have ih:=a1T f g v r
  rw[show aK f v ((k,x)::r)=(if k=f then(k,v)::r else(k,x)::aK f v r) from rfl]
  by_cases hk:k=f
  ·rw[if_pos hk]
   by_cases h:g=k
   ·have hb:(g==k)=true:=beq_iff_eq.mpr h
    simp only[List.lookup,hb,if_pos (h.trans hk)]
   ·have hb:(g==k)=false:=beq_eq_false_iff_ne.mpr h
    simp only[List.lookup,hb,if_neg (fun e:g=f=>h (e.trans hk.symm))]
  ·rw[if_neg hk]
   by_cases h:g=k
   ·have hb:(g==k)=true:=beq_iff_eq.mpr h
    simp only[List.lookup,hb,if_neg (fun e:g=f=>hk (h.symm.trans e))]
   ·have hb:(g==k)=false:=beq_eq_false_iff_ne.mpr h
    simp only[List.lookup,hb]
    exact ih
theorem yV(f:Str)(v:V):∀fs:List (Str×V),f∈(aK f v fs).map (·.1)/\∀g,g∈fs.map (·.1)->g∈(aK f v fs).map (·.1)
 | []=>⟨by simp[aK],fun g h=>by simp at h⟩
 |(k,x)::r=>by
  obtain⟨i1,i2⟩:=yV f v r
  rw[show aK f v ((k,x)::r)=(if k=f then(k,v)::r else(k,x)::aK f v r) from rfl]
  by_cases hk:k=f
  ·rw[if_pos hk]
   subst hk
   exact⟨by simp,fun g h=>by simpa using h⟩
  ·rw[if_neg hk]
   refine⟨?_,fun g h=> ?_⟩
   ·rw[List.map_cons]
    exact List.mem_cons_of_mem _ i1
   ·rw[List.map_cons]at h|-
    rcases List.mem_cons.mp h with e|e
    ·exact List.mem_cons.mpr (.inl e)
    ·exact List.mem_cons_of_mem _ (i2 g e)
theorem zT(f:Str)(v:V):∀fs:List (Str×V),(aK f v fs).length<=fs.length+ 1
 | []=>by simp[aK]
 |(k,x)::r=>by
  have ih:=zT f v r
  rw[show aK f v ((k,x)::r)=(if k=f then(k,v)::r else(k,x)::aK f v r) from rfl]
  by_cases hk:k=f
  ·rw[if_pos hk,List.length_cons,List.length_cons];omega
  ·rw[if_neg hk,List.length_cons,List.length_cons];omega
theorem fV.some_of{v:V}{o:Option Value}(r:fV (some v) o):∃u,o=some u/\bG v u:=by
 cases o with
 |none=>exact(show False from r).elim
 |some u=>exact⟨u,rfl,r⟩
theorem fV.none_of{o:Option Value}(r:fV none o):o=none:=by
 cases o with
 |none=>rfl
 |some u=>exact(show False from r).elim
theorem a5g{v:V}{u:Value}(r:bG v u):PySem.W.handedIn u=true:=by
 cases v with
 |non=>cases (show u=Value.none from r);rfl
 |bl b=>cases (show u=Value.bool b from r);rfl
 |int i=>obtain⟨t,e⟩:=(show∃t,u=Value.int i t from r);cases e;rfl
 |str x=>obtain⟨t,e⟩:=(show∃t,u=Value.str x t from r);cases e;rfl
 |byt b=>obtain⟨t,e⟩:=(show∃t,u=Value.bytes b t from r);cases e;rfl
 |flt b=>obtain⟨t,e⟩:=(show∃t,u=Value.float b t from r);cases e;rfl
 |ref a=>cases (show u=Value.ref a from r);rfl
 |ty n=>cases (show u=Value.type n from r);rfl
section
variable{P:Program}{w:World}{H H':Hp}{h h':Heap}{a C dx:Addr}{fs fs':List (Str×V)}
theorem rE(hok:bX P w H h)(e:H a=some (.ins C dx fs)):∃mA,nJ h a dx C mA/\(∀f,fV (fs.lookup f) (mA f))/\PySem.Within mA (fs.map (·.1))/\fs.length<=1000/\H dx=some (.own a):=by
 obtain⟨d,z,ne,ob,mA,n,r,q⟩:=(show cV P w H h a (.ins C dx fs) from hok a _ e)
 exact⟨mA,⟨ob,n,ne⟩,r,q,z,d⟩
end
structure cW(K:Fg)(C:Addr):Prop where
 pg:PySem.W.plainGet K C Str.empty=true
 hd:PySem.W.hasDictIn K C=true
 po:PySem.W.plainOver K C=true
 sa:PySem.W.findIn K (.ref C) "__setattr__"=some (some (.builtin "object.__setattr__"))
theorem cW.get{K:Fg}{C:Addr}(c:cW K C)(f:Str):PySem.W.plainGet K C f=true:=c.pg
def bV(K:Fg)(C:Addr)(f:Str):Prop:=PySem.W.findIn K (.ref C) f=some none
theorem bV.taker{K:Fg}{C:Addr}{f:Str}(n:bV K C f):PySem.W.takerIn K C f=some none:=by
 unfold PySem.W.takerIn
 rw[show PySem.W.findIn K (.ref C) f=some none from n]
 rfl
structure Con(K:Fg)(C:Addr)(f:Str)(v:V)(u:Value):Prop where
 at_:PySem.W.findIn K (.ref C) f=some (some u)
 rel:bG v u
 get:PySem.W.specialIn K u "__get__"=some none
 cp:PySem.W.copiedNames.contains f=false
structure rD(K:Fg)(C:Addr)(m:Str)(f:Addr):Prop where
 at_:PySem.W.findIn K (.ref C) m=some (some (.ref f))
 fn:PySem.W.isFn K (.ref f)=true
 kp:PySem.W.keepIn K (.ref f)=true
section
variable{X:Cx}{pins:List (Addr×Obj)}{σ:St}{H:Hp}{s:Shared}{a C dx:Addr}{fs:List (Str×V)}{f:Str}{v:V}{A:Around}{E:Value->Shared->Prop}
theorem a0J{b:Bool}{Q:Value->Shared->Prop}(I:Inv X pins σ H s)(e:H a=some (.ins C dx fs))(c:cW X.K C)(n:bV X.K C f)(l:fs.lookup f=some v)
 (h:∀u s',Inv X pins σ H s'->bG v u->Q u s'):wpAny (model X.prog X.w) A (getAttr (.ref a) f b) Q E s:=by
 obtain⟨mA,O,r,_,_,_⟩:=rE I.hok e
 obtain⟨u,hu,ru⟩:=fV.some_of (v:=v) (o:=mA f) (by rw[<- l];exact r f)
 exact a4d I.kIn O (c.get f) c.hd n hu (a5g ru) (h u _ (I.tok _) ru)
theorem uX{m:Str}{g:Addr}{pl:Sem Bool}{Q:Value×List Value->Shared->Prop}(I:Inv X pins σ H s)(e:H a=some (.ins C dx fs))(c:cW X.K C)(k:rD X.K C m g)(l:fs.lookup m=none)
 (h:Q (.ref g,[.ref a]) s):wpAny (model X.prog X.w) A (getMethod (.ref a) m pl) Q E s:=by
 obtain⟨mA,O,r,_,_,_⟩:=rE I.hok e
 have hn:mA m=none:=fV.none_of (by rw[<- l];exact r m)
 exact a5A I.kIn O (c.get m) k.at_ k.fn hn h
theorem a8q{y:V}{u:Value}{Q:Unit->Shared->Prop}(I:Inv X pins σ H s)(e:H a=some (.ins C dx fs))(c:cW X.K C)(n:bV X.K C f)(hl:fs.length<1000)(ry:bG y u)
 (h:∀s',Inv X pins σ (upd H a (.ins C dx (aK f y fs))) s'->Q () s'):wpAny (model X.prog X.w) A (setAttr (.ref a) f u) Q E s:=by
 obtain⟨mA,O,r,wi,_,ho⟩:=rE I.hok e
 have hz:(fs.map (·.1)).length<=sizeLine:=by rw[List.length_map,sizeLine_eq];omega
 refine a5l I.kIn O c.sa c.po n.taker c.hd wi hz fun h' O' sb=>h _ ?_
 have hd:∃o,h'.get? dx=some o:=let ⟨o,_,_,e',_⟩:=O'.ns;⟨o,e'⟩
 refine I.write (x:=a) (e:=dx) (by rw[e];exact True.intro) (.inr ho) (fun b q hb z=>(sb.2 b hb).trans z) hd ?_
 refine⟨by rw[aG O.ne];exact ho,?_,O.ne,O'.obj,_,O'.ns,fun g=> ?_,fun g hg=> ?_⟩
 ·have:=zT f y fs;omega
 ·show fV ((aK f y fs).lookup g) (if g=f then some u else mA g)
  rw[a1T]
  by_cases q:g=f
  ·rw[if_pos q,if_pos q];exact ry
  ·rw[if_neg q,if_neg q];exact r g
 ·by_cases q:g=f
  ·rw[q];exact(yV f y fs).1
  ·refine(yV f y fs).2 g (wi g fun z=>hg ?_)
   show(if g=f then some u else mA g)=none
   rw[if_neg q];exact z
theorem Inv.made(I:Inv X pins σ H s):Inv X pins σ (upd (upd H s.heap.objs.size (.own (s.heap.objs.size+ 1))) (s.heap.objs.size+ 1) (.ins C s.heap.objs.size []))
 {s with heap:=(s.heap.push PySem.W.emptyDict).push (PySem.W.instObj C s.heap.objs.size)}:=by
 have e1:(s.heap.push PySem.W.emptyDict).get? s.heap.objs.size=some PySem.W.emptyDict:=Heap.get?_push_size s.heap rfl
 have e2:((s.heap.push PySem.W.emptyDict).push (PySem.W.instObj C s.heap.objs.size)).get? (s.heap.objs.size+ 1)=some (PySem.W.instObj C s.heap.objs.size):=by
  have:=Heap.get?_push_size (s.heap.push PySem.W.emptyDict) (o:=PySem.W.instObj C s.heap.objs.size) rfl
  rwa [Heap.size_push]at this
 have e3:(s.heap.push PySem.W.emptyDict).Ns s.heap.objs.size (fun _=>none):=⟨PySem.W.emptyDict,#[],_,e1,rfl,(fun e he=>absurd he (by simp)),fun _=>rfl⟩
 have I1:=I.laid (a:=s.heap.objs.size) (o:=.own (s.heap.objs.size+ 1)) (h':=s.heap.push PySem.W.emptyDict) (t':=s.toks) (fun b u q=>Heap.get?_push_of_some _ q) (Nat.le_refl _) ⟨_,e1⟩
 refine I1.laid (a:=s.heap.objs.size+ 1) (o:=.ins C s.heap.objs.size []) (t':=s.toks) (fun b u q=>Heap.get?_push_of_some _ q) (Nat.le_of_eq (Heap.size_push _ _)) ?_
 have ne:s.heap.objs.size≠s.heap.objs.size+ 1:=Nat.ne_of_lt (Nat.lt_succ_self _)
 refine⟨by rw[aG ne,aJ],Nat.zero_le _,ne,e2,fun _=>none,(Heap.Ns1.of_empty e3).at fun o q=>Heap.get?_push_of_some _ q,fun _=>True.intro,fun y hy=>absurd rfl hy⟩
theorem a5T{prog:Program}{w:World}{env:Env}{e:Expr}{f:Str}{pos:Pos}{s:Shared}{Q:Value->Shared->Prop}(hb:attributeBase e f env (eval e env)=eval e env)
 (h:wpAny (model prog w) A (eval e env) (fun o s₁=>wpAny (model prog w) A (getAttr o f true) Q E s₁) E s):wpAny (model prog w) A (eval (.Attribute e f pos) env) Q E s:=
 Attribute_any_ h (by rw[arm_eval_Attribute,hb])
end
def pX(K:Fg)(ta:TE)(f:Str):TE:=fun σ H Q=>ta σ H fun x H1=>∃a C dx fs v,x= .ref a/\H1 a=some (.ins C dx fs)/\cW K C/\bV K C f/\fs.lookup f=some v/\Q v H1
def sFld(K:Fg)(ta tv:TE)(f:Str):TS:=fun D σ H=>tv σ H fun y H1=>ta σ H1 fun x H2=>∃a C dx fs,x= .ref a/\H2 a=some (.ins C dx fs)/\cW K C/\bV K C f/\fs.length<1000/\
 D.nx σ (upd H2 a (.ins C dx (aK f y fs)))
section
variable{X:Cx}{o e value:Expr}{f:Str}{pos pos' tpos:Pos}{ta tv:TE}
theorem aT(he:PE X e ta)(hb:attributeBase e f X.env (eval e X.env)=eval e X.env):PE X (.Attribute e f pos) (pX X.K ta f):=by
 intro pins s σ H Q I h
 refine a5T hb (aS (he pins s σ H _ I h) ?_)
 rintro u s1 ⟨x,H1,I1,rx,a,C,dx,fs,v,ex,ea,c,n,l,q⟩
 subst ex
 obtain rfl:u=Value.ref a:=rx
 exact a0J I1 ea c n l fun u' s2 I2 ru=>⟨v,H1,I2,ru,q⟩
theorem cG(ha:PE X o ta)(hv:PE X value tv)(hs:swapsWith value (some (.Attribute o f pos')) pos.line X.env=pure false):PS X (.Assign [.Attribute o f pos'] value pos) (sFld X.K ta tv f):=by
 intro pins s σ H D I h
 refine plainObj_wpAny_Assign_Attribute (aS (hv pins s σ H _ I h) fun u s1 ⟨y,H1,I1,ry,q⟩=>aS (ha pins s1 σ H1 _ I1 q) fun ov s2 ⟨x,H2,I2,rx,a,C,dx,fs,ex,ea,c,n,l,q2⟩=> ?_) hs
 subst ex
 obtain rfl:ov=Value.ref a:=rx
 exact a8q I2 ea c n l ry fun s3 I3=>⟨σ,_,I3,q2⟩
theorem methcall_of{pl:Sem Bool}{m:Str}{apos:Pos}{args:List Expr}{pins:List (Addr×Obj)}{s:Shared}{σ:St}{H:Hp}{Q:Value->Shared->Prop}{te:TE}(he:PE X e te)(I:Inv X pins σ H s)
 (h:te σ H fun x H1=>∃a C dx fs g,x= .ref a/\H1 a=some (.ins C dx fs)/\cW X.K C/\rD X.K C m g/\fs.lookup m=none/\
  ∀s1,Inv X pins σ H1 s1->wpAny (model X.prog X.w) X.A (callWith pos (.ref g) [.ref a] (backTo pos (starEach args X.env)) (backToKw pos (keywordEach [] X.env))) Q X.xe s1)
 (ht:eval (.Call (.Attribute e m apos) args [] pos) X.env=(do
  let ov<- eval e X.env
  standAt apos.atName
  let (f,first)<- holding [ov] (getMethod ov m pl)
  callWith pos f first (backTo pos (starEach args X.env)) (backToKw pos (keywordEach [] X.env)))):
 wpAny (model X.prog X.w) X.A (eval (.Call (.Attribute e m apos) args [] pos) X.env) Q X.xe s:=by
 refine PySem.W.methodCall_KW (pl:=pl) (aS (he pins s σ H _ I h) ?_) ht
 rintro u s1 ⟨x,H1,I1,rx,a,C,dx,fs,g,ex,ea,c,k,l,q⟩
 subst ex
 obtain rfl:u=Value.ref a:=rx
 exact uX I1 ea c k l (q s1 I1)
end
section
variable{X:Cx}{pins:List (Addr×Obj)}{σ:St}{H:Hp}{s:Shared}{A:Around}{E:Value->Shared->Prop}{Q:Value->Shared->Prop}{c:Value}{b:Bool}
inductive gX(K:Fg)(H:Hp):V->Value->Prop where
 |non:gX K H .non (.type "NoneType")
 |bl (x:Bool):gX K H (.bl x) (.type "bool")
 |int (i:Int):gX K H (.int i) (.type "int")
 |str (x:Str):gX K H (.str x) (.type "str")
 |flt (x:UInt64):gX K H (.flt x) (.type "float")
 |lst {a:Addr} {xs:List V} (e:H a=some (.lst xs)):gX K H (.ref a) (.type "list")
 |frz {a:Addr} {o:Obj} {xs:List V} (e:H a=some (.frz o (.lst xs))):gX K H (.ref a) (.type "list")
 |tup {a:Addr} {xs:List V} (e:H a=some (.tup xs)):gX K H (.ref a) (.type "tuple")
 |dK {a:Addr} {kvs:List (aB×V)} (e:H a=some (.dK kvs)):gX K H (.ref a) (.type "dict")
 |dT {a:Addr} {kvs:List (List aB×V)} (e:H a=some (.dT kvs)):gX K H (.ref a) (.type "dict")
 |ins {a C dx:Addr} {fs:List (Str×V)} (e:H a=some (.ins C dx fs)) (cl:cW K C) (ha:PySem.W.findIn K (.ref C) "__class__"=some (some (.builtin "object.__class__")))
  (hn:PySem.W.specialIn K (.builtin "object.__class__") "__get__"=some (some (.builtin "getset_descriptor.__get__"))) (htk:PySem.W.takesIn K (.builtin "object.__class__")=some true)
  (hm:PySem.W.mroIn K C (.type "object")=some true):gX K H (.ref a) (.ref C)
theorem a7U{x:V}{u t:Value}(I:Inv X pins σ H s)(rx:bG x u)(ty:gX X.K H x t)(e:PySem.W.kitOne X.K t c=some b)(h:∀tk,Q (.bool b) {s with toks:=tk}):
 wpAny (model X.prog X.w) A (call (.builtin "isinstance") [u,c]) Q E s:=by
 cases ty with
 |non=>cases (show u=Value.none from rx);exact PySem.W.kia_one PySem.W.kitx_none I.kIn True.intro e (fun z=>nomatch z) h
 |bl y=>cases (show u=Value.bool y from rx);exact PySem.W.kia_one PySem.W.kitx_bool I.kIn True.intro e (fun z=>nomatch z) h
 |int i=>obtain⟨t,q⟩:=(show∃t,u=Value.int i t from rx);cases q;exact PySem.W.kia_one PySem.W.kitx_int I.kIn True.intro e (fun z=>nomatch z) h
 |str y=>obtain⟨t,q⟩:=(show∃t,u=Value.str y t from rx);cases q;exact PySem.W.kia_one PySem.W.kitx_str I.kIn True.intro e (fun z=>nomatch z) h
 |flt y=>obtain⟨t,q⟩:=(show∃t,u=Value.float y t from rx);cases q;exact PySem.W.kia_one PySem.W.kitx_float I.kIn True.intro e (fun z=>nomatch z) h
 | @lst a xs ea=>
  cases (show u=Value.ref a from rx)
  obtain⟨_,_,n,_,h1⟩:=(show cV X.prog X.w H s.heap a (.lst xs) from I.hok a _ ea)
  exact PySem.W.kia_one PySem.W.kitx_list I.kIn ⟨_,h1,rfl⟩ e (fun z=>nomatch z) h
 | @frz a ob xs ea=>
  cases (show u=Value.ref a from rx)
  obtain⟨_,_,_,n,_,h1⟩:=(show cV X.prog X.w H s.heap a (.frz ob (.lst xs)) from I.hok a _ ea)
  exact PySem.W.kia_one PySem.W.kitx_list I.kIn ⟨_,h1,rfl⟩ e (fun z=>nomatch z) h
 | @tup a xs ea=>
  cases (show u=Value.ref a from rx)
  obtain⟨_,_,_,p⟩:=(show cV X.prog X.w H s.heap a (.tup xs) from I.hok a _ ea)
  obtain⟨o,h1,h2,_⟩:=p
  exact PySem.W.kia_one PySem.W.kitx_tuple I.kIn ⟨o,h1,h2⟩ e (fun z=>nomatch z) h
 | @dK a kvs ea=>
  cases (show u=Value.ref a from rx)
  obtain⟨_,_,vs,_,p⟩:=(show cV X.prog X.w H s.heap a (.dK kvs) from I.hok a _ ea)
  obtain⟨o,es,ep,h1,h2,_⟩:=p
  exact PySem.W.kia_one PySem.W.kitx_dict I.kIn ⟨o,h1,h2.1⟩ e (fun z=>nomatch z) h
 | @dT a kvs ea=>
  cases (show u=Value.ref a from rx)
  obtain⟨_,_,xs,_,o,es,ep,h1,h2,_⟩:=(show cV X.prog X.w H s.heap a (.dT kvs) from I.hok a _ ea)
  exact PySem.W.kia_one PySem.W.kitx_dict I.kIn ⟨o,h1,h2.1⟩ e (fun z=>nomatch z) h
 | @ins a C dx fs ea cl ha hn htk hm=>
  cases (show u=Value.ref a from rx)
  obtain⟨mA,O,_⟩:=rE I.hok ea
  obtain⟨od,J,_⟩:=O.look
  exact PySem.W.kia_one (PySem.W.kitx_own (cl.get _) cl.hd ha hn htk hm) I.kIn J e (fun z=>nomatch z) h
end
structure bT(k:Nat)(A:Around):Prop where
 hd:A.handled=none
 dp:A.depth+ 3* k+ 5<recursionLimit
 un:A.units+ 16* k+ 200<cLine
theorem bT.mono{j k:Nat}{A:Around}(r:bT k A)(h:j<=k):bT j A:=⟨r.hd,by have:=r.dp;omega,by have:=r.un;omega⟩
theorem bT.deeper{k:Nat}{A:Around}(r:bT (k+ 1) A)(env:Env):bT k (A.deeper env):=
 ⟨r.hd,by have:=r.dp;show A.depth+ 1+ 3* k+ 5<_;omega,by have:=r.un;show A.units+ 3+ 16* k+ 200<_;omega⟩
theorem a7Y{A:Around}{C:Addr}{us:List Value}{kw:List (Str×Value)}:(A.under (.builtin "type.__call__" ⟨.ref C::us,kw⟩)).depth=A.depth+ 1:=by
 first|rfl|simp[Around.under,Code.weight,Code.isCreation,Code.isGuard,Code.isCaller,Code.frames,Code.isFrame,guardIds]
theorem a7y{A:Around}{C:Addr}{us:List Value}{kw:List (Str×Value)}:(A.under (.builtin "type.__call__" ⟨.ref C::us,kw⟩)).units=A.units+ 1:=by
 first|rfl|simp[Around.under,Code.cUnits,Code.frames,Code.isFrame]
theorem bT.make{k:Nat}{A:Around}(r:bT (k+ 1) A)(C:Addr)(us:List Value)(kw:List (Str×Value)):bT k (A.under (.builtin "type.__call__" ⟨.ref C::us,kw⟩)):=
 ⟨r.hd,by have:=r.dp;rw[a7Y];omega,by have:=r.un;rw[a7y];omega⟩
theorem bT.depth{k:Nat}{A:Around}(r:bT k A):A.depth<recursionLimit:=by have:=r.dp;omega
theorem bT.units{k:Nat}{A:Around}(r:bT k A):A.units+ 64<cLine:=by have:=r.un;omega
def kT:TA:=fun _ H Q=>Q [] H
def jA(ta:TE)(tr:TA):TA:=fun σ H Q=>ta σ H fun x H1=>tr σ H1 fun xs H2=>Q (x::xs) H2
section
variable{X:Cx}{e:Expr}{es:List Expr}{te:TE}{t:TA}{pos:Pos}
theorem aE:PA X [] kT:=fun _ _ _ _ H Q I h=>Calls.spliced_nil ⟨[],H,I,.nil,h⟩
theorem aA(ha:PE X e te)(hr:PA X es t)(hs:starEach (e::es) X.env=(false,eval e X.env)::starEach es X.env:=by rfl):PA X (e::es) (jA te t):=by
 intro pos pins s σ H Q I h
 rw[hs]
 show wpAny _ _ (spliced ((false,eval e X.env)::backTo pos (starEach es X.env))) _ _ s
 refine Calls.spliced_cons (aS (ha pins s σ H _ I h) ?_)
 rintro u s1 ⟨x,H1,I1,r1,q1⟩
 exact aS (hr pos pins s1 σ H1 _ I1 q1) fun us s2 ⟨xs,H2,I2,r2,q2⟩=>⟨x::xs,H2,I2,.cons r1 r2,q2⟩
def xU(t:TA):TE:=fun σ H Q=>t σ H fun xs H1=>xs.length<=sizeLine/\∀p,H1 p=none->Q (.ref p) (upd H1 p (.tup xs))
def tLst(t:TA):TE:=fun σ H Q=>t σ H fun xs H1=>xs.length<=sizeLine/\∀p,H1 p=none->Q (.ref p) (upd H1 p (.lst xs))
theorem fA{x1}(h:PA X es t):PE X (.Tuple es x1 pos) (xU t):=by
 intro pins s σ H Q I hq
 refine wpAny_Tuple_spliced (aS (h pos pins s σ H _ I hq) fun us s1 ⟨xs,H1,I1,r,z,q⟩=>⟨by rw[<- r.length];exact z,?_⟩)
 have hf:H1 s1.heap.objs.size=none:=I1.hok.fresh (Nat.le_refl _)
 refine⟨.ref s1.heap.objs.size,upd H1 s1.heap.objs.size (.tup xs),I1.laid (t':=s1.toks) (fun b u e=>Heap.get?_push_of_some _ e) (Nat.le_refl _) ?_,rfl,q _ hf⟩
 exact⟨z,us,r,⟨_,Heap.get?_push_size _ rfl,rfl,_,rfl⟩⟩
theorem fW(h:PA X es t):PE X (.List es pos) (tLst t):=by
 intro pins s σ H Q I hq
 refine wpAny_List_spliced (aS (h pos pins s σ H _ I hq) fun us s1 ⟨xs,H1,I1,r,z,q⟩=>⟨by rw[<- r.length];exact z,?_⟩)
 have hf:H1 s1.heap.objs.size=none:=I1.hok.fresh (Nat.le_refl _)
 refine⟨.ref s1.heap.objs.size,upd H1 s1.heap.objs.size (.lst xs),I1.laid (t':=s1.toks) (fun b u e=>Heap.get?_push_of_some _ e) (Nat.le_refl _) ?_,rfl,q _ hf⟩
 exact⟨z,us,0,r,Heap.get?_push_size _ rfl⟩
end
abbrev Sp:=List V->Hp->VK->XK->Prop
abbrev fI:=List Env->Hp->Shared->XK->Value->Shared->Prop
structure kZ(P:Program)(w:World)(K:Fg)(mg:Str->Option Value)(base:Heap)(A:Around)(outer:List Env)(s:Shared)(H:Hp):Prop where
 frames:A.frames=some outer
 mod:Mod K mg base
 bs:∀b o,base.get? b=some o->s.heap.get? b=some o/\H b=none
 bsz:base.objs.size<=s.heap.objs.size
 funs:s.heap.FunFrames base outer
 frf:∀b∈gH outer,H b=none
 hok:bX P w H s.heap
 bare:AllBare s.gens
def CE(outer:List Env)(P:Program)(w:World)(H:Hp)(s:Shared)(Q:VK)(u:Value)(s':Shared):Prop:=
 ∃v H',s'.os=s.os/\AllBare s'.gens/\Un (gH outer) [] H H' s.heap s'.heap/\bX P w H' s'.heap/\bG v u/\Q v H'
def CR(CX:fI)(outer:List Env)(P:Program)(w:World)(H:Hp)(s:Shared)(Q:VK)(E:XK)(r:Result)(s':Shared):Prop:=
 match r with
 | .ok (.ret u)=>CE outer P w H s Q u s'
 | .ok _=>False
 | .error e=>CX outer H s E e s'
structure eX(P:Program)(w:World)(K:Fg)(mg:Str->Option Value)(base:Heap)(CX:fI)(k:Nat)(f:Addr)(fd:FuncData)(ps:List Str)(sp:Sp):Prop where
 len:∀vs H Q E,sp vs H Q E->vs.length=ps.length
 run:∀(A:Around) (outer:List Env) (s:Shared) (H:Hp) (args:Args) (us:List Value) (vs:List V) (Q:VK) (E:XK),bT k A->kZ P w K mg base A outer s H->BindsTo s fd args (ps.zip us)->bE vs us->sp vs H Q E->
  codeAny (model P w) A (.call (.ref f) args) (CR CX outer P w H s Q E) s
theorem eX.mono{P:Program}{w:World}{K:Fg}{mg:Str->Option Value}{base:Heap}{CX:fI}{j k:Nat}{f:Addr}{fd:FuncData}{ps:List Str}{sp:Sp}(F:eX P w K mg base CX j f fd ps sp)(h:j<=k):
 eX P w K mg base CX k f fd ps sp:=⟨F.len,fun A outer s H args us vs Q E hr=>F.run A outer s H args us vs Q E (hr.mono h)⟩
theorem kZ.make{P:Program}{w:World}{K:Fg}{mg:Str->Option Value}{base:Heap}{A:Around}{outer:List Env}{s:Shared}{H:Hp}(e:kZ P w K mg base A outer s H)(C:Addr)(us:List Value)(kw:List (Str×Value)):
 kZ P w K mg base (A.under (.builtin "type.__call__" ⟨.ref C::us,kw⟩)) outer s H:=⟨by first|exact e.frames|(simpa [Around.under,Code.envs,Code.isFrame,pushEnvs] using e.frames),e.mod,e.bs,e.bsz,e.funs,e.frf,e.hok,e.bare⟩
section
variable{X:Cx}{pins:List (Addr×Obj)}{σ:St}{H:Hp}{s s':Shared}
theorem Inv.env0(I:Inv X pins σ H s):kZ X.prog X.w X.K X.mg X.base X.A X.stack s H:=
 ⟨I.ok.frames,I.ok.mod,I.bs,Nat.le_trans I.ok.bsz I.sz,I.stack,I.stkFree,I.hok,I.bare⟩
theorem Inv.after{Q:VK}{u:Value}(I:Inv X pins σ H s)(h:CE X.stack X.prog X.w H s Q u s'):EP X pins σ Q u s':=by
 obtain⟨v,H',os,bare,un,hok,r,q⟩:=h
 obtain⟨hh,g,d,t,os'⟩:=s'
 obtain rfl:os'=s.os:=os
 exact⟨v,H',I.call (h':=hh) (g':=g) (d':=d) (t':=t) (ch:=[]) un hok bare (fun b z=>absurd z (by simp)),r,q⟩
end
def vC(sp:Sp)(dvs:List V)(E:XK)(t:TA):TE:=fun σ H Q=>t σ H fun vs H1=>sp (vs++ dvs) H1 Q E
def pZ(C:Addr)(m:Str)(sp:Sp)(dvs:List V)(E:XK)(ta:TE)(t:TA):TE:=fun σ H Q=>ta σ H fun x H1=>∃a dx fs,x= .ref a/\H1 a=some (.ins C dx fs)/\fs.lookup m=none/\
 t σ H1 fun vs H2=>sp (x::(vs++ dvs)) H2 Q E
def qK(C:Addr)(sp:Sp)(dvs:List V)(E:XK)(t:TA):TE:=fun σ H Q=>t σ H fun vs H1=>∀x dx,H1 x=none->H1 dx=none->dx≠x->
 sp (.ref x::(vs++ dvs)) (upd (upd H1 dx (.own x)) x (.ins C dx [])) (fun v H2=>v= .non/\Q (.ref x) H2) E
def iJ(K:Fg)(fd:FuncData)(ps:List Str)(ds:List Value):Prop:=
 ∀(s:Shared) (us:List Value),K.In s.heap->(us++ ds).length=ps.length->BindsTo s fd ⟨us,[]⟩ (ps.zip (us++ ds))
theorem iJ.all{K:Fg}{fd:FuncData}{ps:List Str}(h:∀us:List Value,us.length=ps.length->bindArgs fd ⟨us,[]⟩=pure (ps.zip us)):iJ K fd ps []:=fun s us _ hl=>by
 rw[List.append_nil]at hl|-
 exact .of_eq (h us hl)
def iF(CX:fI)(X:Cx)(E:XK):Prop:=∀(pins:List (Addr×Obj)) (σ:St) (H:Hp) (s:Shared) (e:Value) (s':Shared),Inv X pins σ H s->CX X.stack H s E e s'->X.xe e s'
section
variable{X:Cx}{CX:fI}{k:Nat}{f C:Addr}{fd:FuncData}{ps:List Str}{sp:Sp}{dvs:List V}{ds:List Value}{E:XK}{x m:Str}{p pos apos:Pos}{e o:Expr}{es:List Expr}{ta:TE}{t:TA}
theorem sN{pins:List (Addr×Obj)}{σ:St}{H:Hp}{s:Shared}{Q:VK}{us:List Value}{vs:List V}(F:eX X.prog X.w X.K X.mg X.base CX k f fd ps sp)(hr:bT k X.A)(hb:iJ X.K fd ps ds)(hd:bE dvs ds)(hx:iF CX X E)
 (I:Inv X pins σ H s)(r:bE vs us)(h:sp (vs++ dvs) H Q E):wpAny (model X.prog X.w) X.A (call (.ref f) us) (EP X pins σ Q) X.xe s:=by
 have r2:bE (vs++ dvs) (us++ ds):=r.append hd
 have hl:(us++ ds).length=ps.length:=by rw[<- r2.length];exact F.len _ _ _ _ h
 refine wpAny_call (codeAny_mono (F.run X.A X.stack s H ⟨us,[]⟩ (us++ ds) (vs++ dvs) Q E hr I.env0 (hb s us I.kIn hl) r2 h) fun r s' hq=> ?_)
 cases r with
 |error e=>exact hx pins σ H s e s' I hq
 |ok fl=>
  cases fl with
  |ret u=>exact I.after hq
  |next=>exact False.elim hq
  |brk=>exact False.elim hq
  |cont=>exact False.elim hq
theorem a6s(F:eX X.prog X.w X.K X.mg X.base CX k f fd ps sp)(hr:bT k X.A)(hg:Gl X x)(hm:X.mg x=some (.ref f))(hk:PySem.W.keepIn X.K (.ref f)=true)(hb:iJ X.K fd ps ds)(hd:bE dvs ds)(hx:iF CX X E)
 (ha:PA X (e::es) t)(hdb:(x==("__debug__":Str))=false:=by decide)(he:starEach (e::es) X.env=(false,eval e X.env)::starEach es X.env:=by rfl)(hpl:(backTo pos (starEach es X.env)).any (·.1)=false:=by rfl):
 PE X (.Call (.Name x p) (e::es) [] pos) (vC sp dvs E t):=by
 intro pins s σ H Q I h
 refine wpAny_Call_Name_kw (uE I hg hm ?_ hdb)
 refine PySem.W.callWith_K (h₀:=X.base) I.ok.mod.kin hk (aS (ha pos pins s σ H _ I h) fun us s1 ⟨vs,H1,I1,r,q⟩=>⟨I1.kIn,?_⟩) he hpl
 exact sN F hr hb hd hx I1 r q
theorem a5t{pl:Sem Bool}(he:PE X o ta)(c:cW X.K C)(hm:rD X.K C m f)(F:eX X.prog X.w X.K X.mg X.base CX k f fd ps sp)(hr:bT k X.A)(hb:iJ X.K fd ps ds)(hd:bE dvs ds)(hx:iF CX X E)(ha:PA X (e::es) t)
 (hst:starEach (e::es) X.env=(false,eval e X.env)::starEach es X.env:=by rfl)(hpl:(backTo pos (starEach es X.env)).any (·.1)=false:=by rfl)
 (ht:eval (.Call (.Attribute o m apos) (e::es) [] pos) X.env=(do
  let ov<- eval o X.env
  standAt apos.atName
  let (f,first)<- holding [ov] (getMethod ov m pl)
  callWith pos f first (backTo pos (starEach (e::es) X.env)) (backToKw pos (keywordEach [] X.env))):=by rfl):
 PE X (.Call (.Attribute o m apos) (e::es) [] pos) (pZ C m sp dvs E ta t):=by
 intro pins s σ H Q I h
 refine PySem.W.methodCall_KW (pl:=pl) (aS (he pins s σ H _ I h) ?_) ht
 rintro u s1 ⟨x,H1,I1,rx,a,dx,fs,ex,ea,l,q⟩
 subst ex
 obtain rfl:u=Value.ref a:=rx
 refine uX I1 ea c hm l ?_
 refine PySem.W.callWith_K (first:=[.ref a]) (h₀:=X.base) I.ok.mod.kin hm.kp (aS (ha pos pins s1 σ H1 _ I1 q) fun us s2 ⟨vs,H2,I2,r,q2⟩=>⟨I2.kIn,?_⟩) hst hpl
 exact sN (us:=.ref a::us) (vs:=.ref a::vs) F hr hb hd hx I2 (.cons rfl r) q2
theorem a69{pl:Sem Bool}(he:PE X o ta)(c:cW X.K C)(hm:rD X.K C m f)(F:eX X.prog X.w X.K X.mg X.base CX k f fd ps sp)(hr:bT k X.A)(hb:iJ X.K fd ps ds)(hd:bE dvs ds)(hx:iF CX X E)
 (ht:eval (.Call (.Attribute o m apos) [] [] pos) X.env=(do
  let ov<- eval o X.env
  standAt apos.atName
  let (f,first)<- holding [ov] (getMethod ov m pl)
  callWith pos f first (backTo pos (starEach [] X.env)) (backToKw pos (keywordEach [] X.env))):=by rfl):
 PE X (.Call (.Attribute o m apos) [] [] pos) (pZ C m sp dvs E ta kT):=by
 intro pins s σ H Q I h
 refine PySem.W.methodCall_KW (pl:=pl) (aS (he pins s σ H _ I h) ?_) ht
 rintro u s1 ⟨x,H1,I1,rx,a,dx,fs,ex,ea,l,q⟩
 subst ex
 obtain rfl:u=Value.ref a:=rx
 refine uX I1 ea c hm l ?_
 exact PySem.W.callWith_K0 (first:=[.ref a]) I1.kIn hm.kp (sN (us:=[.ref a]) (vs:=[.ref a]) F hr hb hd hx I1 (.cons rfl .nil) q)
structure Mk(K:Fg)(C f:Addr):Prop where
 makes:PySem.W.makesIn K C=true
 init:PySem.W.findIn K (.ref C) "__init__"=some (some (.ref f))
 fn:PySem.W.isFn K (.ref f)=true
 kp:PySem.W.keepIn K (.ref C)=true
theorem a0v{pins:List (Addr×Obj)}{σ:St}{H:Hp}{s:Shared}{Q:VK}{us:List Value}{vs:List V}(M:Mk X.K C f)(F:eX X.prog X.w X.K X.mg X.base CX k f fd ps sp)(hr:bT (k+ 1) X.A)(hb:iJ X.K fd ps ds)(hd:bE dvs ds)
 (hx:iF CX X E)(I:Inv X pins σ H s)(r:bE vs us)
 (h:∀x dx,H x=none->H dx=none->dx≠x->sp (.ref x::(vs++ dvs)) (upd (upd H dx (.own x)) x (.ins C dx [])) (fun v H2=>v= .non/\Q (.ref x) H2) E):
 wpAny (model X.prog X.w) X.A (call (.ref C) us) (EP X pins σ Q) X.xe s:=by
 have hq:=h (s.heap.objs.size+ 1) s.heap.objs.size (I.hok.fresh (Nat.le_succ _)) (I.hok.fresh (Nat.le_refl _)) (Nat.ne_of_lt (Nat.lt_succ_self _))
 have I2:=Inv.made (C:=C) I
 have r2:bE (V.ref (s.heap.objs.size+ 1)::(vs++ dvs)) (Value.ref (s.heap.objs.size+ 1)::(us++ ds)):=.cons rfl (r.append hd)
 have hl:(Value.ref (s.heap.objs.size+ 1)::us++ ds).length=ps.length:=by
  have e:=r2.length
  rw[F.len _ _ _ _ hq]at e
  exact e.symm
 refine wpAny_call (a8L (f:=f) I.kIn M.makes M.init (beq_iff_eq.mp M.fn) (codeAny_mono (F.run _ X.stack _ _ ⟨Value.ref (s.heap.objs.size+ 1)::us,[]⟩ (Value.ref (s.heap.objs.size+ 1)::(us++ ds)) _ _ E (hr.make C us [])
  (I2.env0.make C us []) (hb _ (Value.ref (s.heap.objs.size+ 1)::us) I2.kIn hl) r2 hq) fun r s' hq'=> ?_))
 cases r with
 |error e=>exact hx pins σ _ _ e s' I2 hq'
 |ok fl=>
  cases fl with
  |ret u=>
   obtain⟨v,H',I3,rv,ev,q3⟩:=I2.after hq'
   subst ev
   exact⟨rv,⟨V.ref (s.heap.objs.size+ 1),H',I3,rfl,q3⟩⟩
  |next=>exact False.elim hq'
  |brk=>exact False.elim hq'
  |cont=>exact False.elim hq'
theorem a4S(M:Mk X.K C f)(F:eX X.prog X.w X.K X.mg X.base CX k f fd ps sp)(hr:bT (k+ 1) X.A)(hg:Gl X x)(hm:X.mg x=some (.ref C))(hb:iJ X.K fd ps ds)(hd:bE dvs ds)(hx:iF CX X E)
 (ha:PA X (e::es) t)(hdb:(x==("__debug__":Str))=false:=by decide)(he:starEach (e::es) X.env=(false,eval e X.env)::starEach es X.env:=by rfl)(hpl:(backTo pos (starEach es X.env)).any (·.1)=false:=by rfl):
 PE X (.Call (.Name x p) (e::es) [] pos) (qK C sp dvs E t):=by
 intro pins s σ H Q I h
 refine wpAny_Call_Name_kw (uE I hg hm ?_ hdb)
 refine PySem.W.callWith_K (h₀:=X.base) I.ok.mod.kin M.kp (aS (ha pos pins s σ H _ I h) fun us s1 ⟨vs,H1,I1,r,q⟩=>⟨I1.kIn,?_⟩) he hpl
 exact a0v M F hr hb hd hx I1 r q
theorem a4I(M:Mk X.K C f)(F:eX X.prog X.w X.K X.mg X.base CX k f fd ps sp)(hr:bT (k+ 1) X.A)(hg:Gl X x)(hm:X.mg x=some (.ref C))(hb:iJ X.K fd ps ds)(hd:bE dvs ds)(hx:iF CX X E)
 (hdb:(x==("__debug__":Str))=false:=by decide):PE X (.Call (.Name x p) [] [] pos) (qK C sp dvs E kT):=by
 intro pins s σ H Q I h
 refine wpAny_Call_Name_kw (uE I hg hm ?_ hdb)
 exact PySem.W.callWith_K0 I.kIn M.kp (a0v (us:=[]) M F hr hb hd hx I .nil h)
end
section
variable{X:Cx}{CX:fI}{k:Nat}{f C:Addr}{fd:FuncData}{ps ks:List Str}{sp:Sp}{E:XK}{x m:Str}{p pos apos kpos:Pos}{e o:Expr}{es:List Expr}{kws:List Keyword}{te ta:TE}{t tk:TA}{nm:Option Str}
structure KBinds(K:Fg)(fd:FuncData)(ps ks:List Str)(g:List Value->List Value->List Value)(gV:List V->List V->List V):Prop where
 to:∀(s:Shared) (us ws:List Value),K.In s.heap->(g us ws).length=ps.length->BindsTo s fd ⟨us,ks.zip ws⟩ (ps.zip (g us ws))
 rel:∀{vs:List V} {us:List Value} {zs:List V} {ws:List Value},bE vs us->bE zs ws->bE (gV vs zs) (g us ws)
variable{g:List Value->List Value->List Value}{gV:List V->List V->List V}
end
structure aV(N P:List Str)(sc:Scope):Prop where
 kind:sc.kind= .function
 co:sc.isCoroutine=false
 gen:sc.isGenerator=false
 nd:N.Nodup
 pre:N.take P.length=P
 par:∀x∈P,sc.names.lookup x=some .local\/ sc.names.lookup x=some .cell
 nofree:∀y∈sc.names,y.2≠ .free
theorem a3x{kindOf:Str->Option NameKind}{x:Str}:∀{binds:List (Str×Value)} {m:Str->Option Value},(∀v,(x,v)∉binds)->bindL kindOf binds m x=m x
 | [],_,_=>rfl
 |(n,v)::r,m,h=>by
  unfold bindL
  rw[a3x fun w hw=>h w (List.mem_cons_of_mem _ hw)]
  split
  ·have:x≠n:=by rintro rfl;exact h v List.mem_cons_self
   simp[this]
  ·rfl
theorem a26{kindOf:Str->Option NameKind}{x:Str}:∀{binds:List (Str×Value)} {m:Str->Option Value},(∀v,(x,v)∉binds)->bindC kindOf binds m x=m x
 | [],_,_=>rfl
 |(n,v)::r,m,h=>by
  unfold bindC
  rw[a26 fun w hw=>h w (List.mem_cons_of_mem _ hw)]
  split
  ·rfl
  ·have:x≠n:=by rintro rfl;exact h v List.mem_cons_self
   simp[this]
theorem a2y{kindOf:Str->Option NameKind}{x:Str}{v:Value}:∀{P:List Str} {vs:List Value} {i:Nat} {m:Str->Option Value},P.Nodup->P[i]?=some x->vs[i]?=some v->kindOf x=some .local->
 bindL kindOf (P.zip vs) m x=some v
 | [],_,_,_,_,h,_,_=>by simp at h
 |_::_,[],_,_,_,_,h,_=>by simp at h
 |p::P,w::vs,0,m,nd,h1,h2,hk=>by
  simp at h1 h2;subst h1;subst h2
  show bindL kindOf ((p,w)::P.zip vs) m p=_
  unfold bindL
  rw[a3x fun v hv=>(List.nodup_cons.mp nd).1 (List.of_mem_zip hv).1,if_pos hk]
  simp
 |p::P,w::vs,i+ 1,m,nd,h1,h2,hk=>by
  show bindL kindOf ((p,w)::P.zip vs) m x=_
  unfold bindL
  exact a2y (i:=i) (List.nodup_cons.mp nd).2 (by simpa using h1) (by simpa using h2) hk
theorem a3a{kindOf:Str->Option NameKind}{x:Str}{v:Value}:∀{P:List Str} {vs:List Value} {i:Nat} {m:Str->Option Value},P.Nodup->P[i]?=some x->vs[i]?=some v->kindOf x≠some .local->
 bindC kindOf (P.zip vs) m x=some v
 | [],_,_,_,_,h,_,_=>by simp at h
 |_::_,[],_,_,_,_,h,_=>by simp at h
 |p::P,w::vs,0,m,nd,h1,h2,hk=>by
  simp at h1 h2;subst h1;subst h2
  show bindC kindOf ((p,w)::P.zip vs) m p=_
  unfold bindC
  rw[a26 fun v hv=>(List.nodup_cons.mp nd).1 (List.of_mem_zip hv).1,if_neg hk]
  simp
 |p::P,w::vs,i+ 1,m,nd,h1,h2,hk=>by
  show bindC kindOf ((p,w)::P.zip vs) m x=_
  unfold bindC
  exact a3a (i:=i) (List.nodup_cons.mp nd).2 (by simpa using h1) (by simpa using h2) hk
def start(N:List Str)(vs:List V):St:=vs.map some++ List.replicate (N.length- vs.length) none
def cY(CX:fI)(P:Program)(w:World)(K:Fg)(mg:Str->Option Value)(base:Heap)(N:List Str)(qual:Str)(scope:Scope)(f:Addr)(cd:Value)(A:Around)(outer:List Env)(s:Shared)(H:Hp)(E:XK):Cx where
 prog:=P
 w:=w
 K:=K
 mg:=mg
 base:=base
 A:=A.deeper (envOfC qual scope s.heap.objs.size f cd)
 N:=N
 s₀:=s
 H₀:=H
 env:=envOfC qual scope s.heap.objs.size f cd
 outer:=outer
 stack:=envOfC qual scope s.heap.objs.size f cd::outer
 ex:=[]
 calm:=true
 fn:=fun _=>true
 pn:=[]
 xe:=fun e s'=>wpAny (model P w) (A.deeper (envOfC qual scope s.heap.objs.size f cd)) (leaving (envOfC qual scope s.heap.objs.size f cd) e) (fun _ s''=>CX outer H s E e s'') (fun e' s''=>CX outer H s E e' s'') s'
theorem a3k{sc:Scope}{n:Nat}{x:Str}(h:sc.names.lookup x=some .cell):∃c,(cellsFrom n sc.names []).lookup x=some c:=by
 have q:=PySem.W.cellsFrom_some sc.names n [] (.inl h)
 exact Option.isSome_iff_exists.mp q
theorem a5K{CX:fI}{P:Program}{w:World}{K:Fg}{mg:Str->Option Value}{base:Heap}{N ps:List Str}{qual:Str}{scope:Scope}{f:Addr}{cd:Value}{A:Around}{outer:List Env}{s s1:Shared}{H:Hp}{E:XK}{us:List Value}{vs:List V}
 (S:aV N ps scope)(hd:A.handled=none)(e0:kZ P w K mg base A outer s H)(hl:vs.length=ps.length)(r:bE vs us)
 (x:InCallC s s.heap.objs.size (bindL (envOfC qual scope s.heap.objs.size f cd).kindOf (ps.zip us) fun _=>none) (cellsFrom (s.heap.objs.size+ 1) scope.names []) (bindC (envOfC qual scope s.heap.objs.size f cd).kindOf (ps.zip us) fun _=>none) s1):
 Inv (cY CX P w K mg base N qual scope f cd A outer s H E) [] (start N vs) H s1:=by
 have hpl:ps.length<=N.length:=by have:=congrArg List.length S.pre;rw[List.length_take]at this;omega
 obtain⟨h1,tk,rfl,hk⟩:=x.done
 have noA:∀b:Addr,b∉(cY CX P w K mg base N qual scope f cd A outer s H E).ex:=fun b z=>absurd (show b∈([]:List Addr) from z) (by simp)
 refine⟨⟨e0.mod,S.kind,rfl,rfl,Nat.le_refl _,fun y z c h1 h2=> ?_,fun y hy=> ?_,fun y c _ h=> ?_,fun _=>hd,Around.frames_deeper e0.frames,.inr ⟨rfl,rfl⟩,fun b z=>absurd z (noA b),e0.bs,e0.bsz,fun b _ _=>noA b,fun b z=>absurd z (noA b),e0.funs,e0.frf⟩,
  rfl,e0.bare,Un.kept hk,⟨_,x.toInCall.ns,fun i y v h1 h2 h3=> ?_⟩,fun y c h=>⟨_,x.cell y c h⟩,e0.hok.fresh (Nat.le_refl _),fun y c h=> ?_,fun p hp=>absurd (show p∈([]:List (Addr×Obj)) from hp) (by simp),e0.hok.kept hk,?_⟩
 ·exact name_of_addr x.apart (PySem.mem_of_lookup h1) (PySem.mem_of_lookup h2)
 ·have hy:scope.names.lookup y=some .cell\/ scope.names.lookup y=some .free:=hy
  rcases hy with hy|hy
  ·exact a3k hy
  ·exact absurd rfl (S.nofree _ (PySem.mem_of_lookup hy))
 ·exact Nat.le_of_lt (x.above y c (PySem.mem_of_lookup h))
 ·have hi:i<vs.length:=by
   unfold start at h2
   by_cases hi:i<vs.length
   ·exact hi
   ·rw[List.getElem?_append_right (by simpa using hi)]at h2
    rw[List.getElem?_replicate]at h2
    split at h2<;>cases h2
  have ha:vs[i]?=some v:=by
   unfold start at h2
   rw[List.getElem?_append_left (by simpa using hi),List.getElem?_map]at h2
   cases e:vs[i]? with
   |none=>rw[e]at h2;cases h2
   |some a=>rw[e]at h2;cases h2;rfl
  obtain⟨u,hu,rv⟩:=r.get ha
  have hp:ps[i]?=some y:=by
   rw[<- S.pre,List.getElem?_take_of_lt (by omega)];exact h1
  have ndP:ps.Nodup:=by rw[<- S.pre];exact S.nd.sublist (List.take_sublist _ _)
  refine⟨u,rv,?_⟩
  rcases S.par y (List.mem_of_getElem? hp)with k|k
  ·exact .inl ⟨k,a2y ndP hp hu k⟩
  ·obtain⟨c,e⟩:=a3k (n:=s.heap.objs.size+ 1) k
   refine .inr ⟨.inl k,c,e,?_⟩
   have q:=x.cell y c e
   rw[a3a ndP hp hu (by show scope.names.lookup y≠_;rw[k];decide)]at q
   exact q
 ·exact e0.hok.fresh (Nat.le_of_lt (x.above y c (PySem.mem_of_lookup h)))
 ·unfold start
  show _=N.length
  rw[List.length_append,List.length_map,List.length_replicate]
  omega
theorem vG{CX:fI}{P:Program}{w:World}{K:Fg}{mg:Str->Option Value}{base:Heap}{k:Nat}{f:Addr}{name qual:Str}{params:Arguments}{body:List Stmt}{scope:Scope}{dV kV doc pm cdv ct oc:Value}{an od:Option Addr}
 {osl:Array (Option Value)}{N ps:List Str}{sp:Sp}(lk:K.lookup f=some ⟨oc,od,.func (PySem.W.fnOf name qual params body scope dV kV doc pm an cdv ct),osl⟩)(hcd:PySem.W.codeIn K cdv qual=true)(S:aV N ps scope)
 (len:∀vs H Q E,sp vs H Q E->vs.length=ps.length)
 (hbody:∀(A:Around) (outer:List Env) (s:Shared) (H:Hp) (vs:List V) (Q:VK) (E:XK),bT k (A.deeper (envOfC qual scope s.heap.objs.size f cdv))->sp vs H Q E->
  ∃t,eE (cY CX P w K mg base N qual scope f cdv A outer s H E) body t/\t {nx:=fun _ H'=>Q .non H',rt:=Q} (start N vs) H):
 eX P w K mg base CX (k+ 1) f (PySem.W.fnOf name qual params body scope dV kV doc pm an cdv ct) ps sp:=by
 refine⟨len,fun A outer s H args us vs Q E hr e0 hb r hsp=> ?_⟩
 have hl:=len _ _ _ _ hsp
 have KX:K.In s.heap:=e0.mod.kin.keeps fun b o e=>(e0.bs b o e).1
 have lim:s.heap.NoLimit:=e0.mod.nolimit.keeps fun b o e=>(e0.bs b o e).1
 have hkind:∀y∈ps.zip us,scope.names.lookup y.1=some .local\/ (scope.names.lookup y.1=some .cell/\((cellsFrom (s.heap.objs.size+ 1) scope.names []).lookup y.1).isSome=true):=fun⟨n,v⟩ hy=>by
  rcases S.par n (List.of_mem_zip hy).1 with q|q
  ·exact .inl q
  ·exact .inr ⟨q,PySem.W.cellsFrom_some _ _ _ (.inl q)⟩
 refine codeAny_call_function hr.depth (KX _ _ lk) rfl S.co S.gen rfl (PySem.W.codeRec_of KX hcd) (hb _ _ _ _ ?_)
 refine wpAny_newFunctionEnv_cells S.kind hkind fun env he s1 x=> ?_
 subst he
 refine⟨lim.keeps x.toInCall.keep,codeAny_func ?_⟩
 obtain⟨t,ht,hq⟩:=hbody A outer s H vs Q E (hr.deeper _) hsp
 have I:Inv (cY CX P w K mg base N qual scope f cdv A outer s H E) [] (start N vs) H s1:=a5K S hr.hd e0 hl r x
 refine wpAny_mono (ht [] s1 (start N vs) H _ I hq) (fun fl s' hs=> ?_) fun e s' hs=>hs
 have fin:∀{σ':St} {H':Hp} {v:V} {u:Value},Inv (cY CX P w K mg base N qual scope f cdv A outer s H E) [] σ' H' s'->bG v u->Q v H'->CE outer P w H s Q u s':=
  fun{σ' H' v u} J rv q=>⟨v,H',J.os,J.bare,J.base,J.hok,rv,q⟩
 cases fl with
 |ret u=>
  obtain⟨v,σ',H',J,rv,q⟩:=hs
  exact fin J rv q
 |next=>
  obtain⟨σ',H',J,q⟩:=hs
  exact fin (v:=V.non) (u:=Value.none) J rfl q
 |brk=>
  obtain⟨_,_,_,q⟩:=hs
  exact False.elim q
 |cont=>
  obtain⟨_,_,_,q⟩:=hs
  exact False.elim q
section
variable{X:Cx}{x:Str}{p pos:Pos}{e:Expr}{es:List Expr}{t:TA}{id T:String}{r:List V->Hp->VK->Prop}
def tCB(r:List V->Hp->VK->Prop)(t:TA):TE:=fun σ H Q=>t σ H fun vs H1=>r vs H1 Q
theorem cT(hc:iE X (.builtin id) r)(hg:Gl X x)(hm:X.mg x=none)(hv:bootBuiltins x=some (.builtin id))(ha:PA X (e::es) t)(hn:x≠ "__name__":=by decide)(hdb:(x==("__debug__":Str))=false:=by decide)
 (he:starEach (e::es) X.env=(false,eval e X.env)::starEach es X.env:=by rfl)(hpl:(backTo pos (starEach es X.env)).any (·.1)=false:=by rfl):PE X (.Call (.Name x p) (e::es) [] pos) (tCB r t):=by
 intro pins s σ H Q I h
 refine wpAny_Call_Name_kw (mJ I hg hm hv ?_ hn hdb)
 exact PyProof.Rows.callWith_builtin1 (aS (ha pos pins s σ H _ I h) fun us s1 ⟨vs,H1,I1,r1,q1⟩=>hc pins s1 σ H1 vs us Q I1 r1 q1) he hpl
theorem jR(hc:iE X (.type T) r)(hg:Gl X x)(hm:X.mg x=none)(hv:bootBuiltins x=some (.type T))(ha:PA X (e::es) t)(hn:x≠ "__name__":=by decide)(hdb:(x==("__debug__":Str))=false:=by decide)
 (he:starEach (e::es) X.env=(false,eval e X.env)::starEach es X.env:=by rfl)(hpl:(backTo pos (starEach es X.env)).any (·.1)=false:=by rfl):PE X (.Call (.Name x p) (e::es) [] pos) (tCB r t):=by
 intro pins s σ H Q I h
 refine wpAny_Call_Name_kw (mJ I hg hm hv ?_ hn hdb)
 exact PyProof.Rows.callWith_type1 (aS (ha pos pins s σ H _ I h) fun us s1 ⟨vs,H1,I1,r1,q1⟩=>hc pins s1 σ H1 vs us Q I1 r1 q1) he hpl
end
end L2
namespace HT
open PySem PyProof.Rows
section
variable{prog:Program}{w:World}{A:Around}{E:Value->Shared->Prop}{s:Shared}
noncomputable def sIx(n d:Nat):Option Int->Nat
 |none=>d
 |some v=>if v<0 then(v+ (n:Int)).toNat else min v.toNat n
end
end HT
namespace L2
open PySem PySem.Spec PyProof.Rows
abbrev TO:=St->Hp->(Option Int->Hp->Prop)->Prop
section
variable{X:Cx}{e:Expr}{te:TE}{lo hi:Option Expr}{tl th:TO}{pos p2:Pos}
def qB(X:Cx)(r:V->Option Int->Option Int->Hp->VK->Prop):Prop:=
 ∀(pins:List (Addr×Obj)) (s:Shared) (σ:St) (H:Hp) (x:V) (v vl vu:Value) (lo hi:Option Int) (sl:Addr) (Q:VK),Inv X pins σ H s->bG x v->s.heap.IsSliceOf sl vl vu .none->IsPart vl lo->IsPart vu hi->r x lo hi H Q->
  ∃T id,typeLookup (.type T) "__getitem__"=pure (some (.builtin id))/\s.TypeIs v T/\wpAny (model X.prog X.w) X.A (getItem v (.ref sl)) (EP X pins σ Q) X.xe s
theorem qB.or{r r':V->Option Int->Option Int->Hp->VK->Prop}(h:qB X r)(h':qB X r'):qB X (fun x lo hi H Q=>r x lo hi H Q\/ r' x lo hi H Q):=by
 intro pins s σ H x v vl vu lo hi sl Q I rx hs pl pu q
 rcases q with q|q
 ·exact h pins s σ H x v vl vu lo hi sl Q I rx hs pl pu q
 ·exact h' pins s σ H x v vl vu lo hi sl Q I rx hs pl pu q
noncomputable def uJ (xs:List V) (lo hi:Option Int):List V:=(xs.drop (HT.sIx xs.length 0 lo)).take (HT.sIx xs.length xs.length hi- HT.sIx xs.length 0 lo)
theorem a7E(xs:List V)(lo hi:Option Int):(uJ xs lo hi).length<=xs.length:=by
 unfold uJ
 rw[List.length_take,List.length_drop]
 omega
end
def lZ(n:Nat)(i:Int):Option Nat:=if 0<=i then(if i<n then some i.toNat else none) else if-(n:Int)<=i then some (i+ n).toNat else none
def cO{α:Type}(xs:List α)(i:Int):Option α:=(lZ xs.length i).bind fun j=>xs[j]?
theorem a4j{n:Nat}{i:Int}{j:Nat}(h:lZ n i=some j):seqIndex? i n=some j/\j<n/\ -(n:Int)<=i/\i<n:=by
 unfold lZ at h
 by_cases h0:0<=i
 ·rw[if_pos h0]at h
  by_cases h1:i<n
  ·rw[if_pos h1]at h
   have e:i.toNat=j:=Option.some.inj h
   exact⟨by rw[seqIndex_of h0 h1,e],by omega,by omega,h1⟩
  ·rw[if_neg h1]at h;cases h
 ·rw[if_neg h0]at h
  by_cases h1: -(n:Int)<=i
  ·rw[if_pos h1]at h
   have e:(i+ n).toNat=j:=Option.some.inj h
   exact⟨by rw[seqIndex_neg (by omega) h1,e],by omega,h1,by omega⟩
  ·rw[if_neg h1]at h;cases h
theorem a2X{α:Type}{xs:List α}{i:Int}{v:α}(h:cO xs i=some v):∃j,seqIndex? i xs.length=some j/\xs[j]?=some v/\j<xs.length/\ -(xs.length:Int)<=i/\i<xs.length:=by
 unfold cO at h
 cases e:lZ xs.length i with
 |none=>rw[e]at h;cases h
 |some j=>
  rw[e]at h
  obtain⟨h1,h2,h3,h4⟩:=a4j e
  exact⟨j,h1,h,h2,h3,h4⟩
theorem a0r{α:Type}(xs:List α)(v:α):cO (xs++ [v]) (-1)=some v:=by
 have hl:(xs++ [v]).length=xs.length+ 1:=by simp
 have e:lZ (xs++ [v]).length (-1)=some xs.length:=by
  unfold lZ
  rw[hl,if_neg (by decide),if_pos (by omega)]
  congr 1
  omega
 unfold cO
 rw[e]
 show(xs++ [v])[xs.length]?=some v
 simp
def a7Z(b:Expr):Prop:=∀o i,subscripted b false o i=operate [o,i] (getItem o i)
def vY(X:Cx)(r:R2):Prop:=
 ∀(value slice:Expr) (pins:List (Addr×Obj)) (s:Shared) (σ:St) (H:Hp) (x y:V) (v u:Value) (Q:VK),Inv X pins σ H s->bG x v->bG y u->r x y H Q->
  subscripted slice false v u=operate [v,u] (getItem v u)->wpAny (model X.prog X.w) X.A (subscriptTail value slice v u) (EP X pins σ Q) X.xe s
def wF(X:Cx)(id:String)(r:V->List V->Hp->VK->Prop):Prop:=
 ∀(pins:List (Addr×Obj)) (s:Shared) (σ:St) (H:Hp) (x:V) (xs:List V) (v:Value) (us:List Value) (Q:VK),Inv X pins σ H s->bG x v->bE xs us->r x xs H Q->
  wpAny (model X.prog X.w) X.A (call (.builtin id) (v::us)) (EP X pins σ Q) X.xe s
section
variable{X:Cx}{a b:Expr}{ta tb:TE}{pos:Pos}
theorem cJ{r:R2}(hr:vY X r)(ha:PE X a ta)(hb:PE X b tb)(hs:a7Z b):PE X (.Subscript a b pos) (lY r ta tb):=by
 intro pins s σ H Q I h
 exact Subscript_ (yY ha hb I h fun v u s2 x y H2 I2 rx ry q=>hr a b pins s2 σ H2 x y v u Q I2 rx ry q (hs _ _))
noncomputable def rIxL (K:Fg):R2:=fun x y H Q=>∃p xs i v,x= .ref p/\y= .int i/\aO K H p xs/\cO xs i=some v/\Q v H
noncomputable def rIxT (K:Fg):R2:=fun x y H Q=>∃p xs i v,x= .ref p/\y= .int i/\bW K H p xs/\cO xs i=some v/\Q v H
theorem gZ:vY X (rIxL X.K):=by
 intro value slice pins s σ H x y v u Q I rx ry h hs
 obtain⟨p,xs,i,z,rfl,rfl,hq,he,q⟩:=h
 cases rx
 obtain⟨t,rfl⟩:=ry
 obtain⟨its,r,pl,hz⟩:=I.list hq
 obtain⟨j,h1,h2,h3,h4,h5⟩:=a2X he
 obtain⟨w,ew,rw'⟩:=r.get h2
 have hl:=r.length
 have hn:=uT
 have fin:EP X pins σ Q w s:=⟨z,H,I,rw',q⟩
 by_cases h0:0<=i
 ·have hj:i.toNat=j:=by
   rw[seqIndex_of h0 h5]at h1
   exact Option.some.inj h1
  exact item_listR pl.isList h0 (by omega) (by rw[hj];simpa using ew) fin hs
 ·have hj:(i+ (its.toArray.size:Int)).toNat=j:=by
   rw[seqIndex_neg (by omega) h4]at h1
   rw[List.size_toArray,<- hl]
   exact Option.some.inj h1
  exact subscriptTail_builtinR (x:=w) pl.isList.typeIs slot_list_getitem.lookup
   (wpAny_getItem_list_neg (Q:=fun r s'=>r=w/\EP X pins σ Q r s') pl.isList (by omega) (by rw[List.size_toArray]<;>omega) (by omega) (by rw[hj];simpa using ew) ⟨rfl,fin⟩) hs
theorem fB:vY X (rIxT X.K):=by
 intro value slice pins s σ H x y v u Q I rx ry h hs
 obtain⟨p,xs,i,z,rfl,rfl,hq,he,q⟩:=h
 cases rx
 obtain⟨t,rfl⟩:=ry
 obtain⟨its,r,pl,hz⟩:=I.tuple hq
 obtain⟨j,h1,h2,h3,h4,h5⟩:=a2X he
 obtain⟨w,ew,rw'⟩:=r.get h2
 have hl:=r.length
 have hn:=uT
 have fin:EP X pins σ Q w s:=⟨z,H,I,rw',q⟩
 exact subscriptTail_builtinR (x:=w) pl.typeIs slot_tuple_getitem.lookup
  (getItem_tuple (j:=j) (Q:=fun r s'=>r=w/\EP X pins σ Q r s') pl (by omega) (by omega) (by rw[List.size_toArray,<- hl];exact h1) (by simpa using ew) ⟨rfl,fin⟩) hs
theorem a4U(lo hi:Option Int)(n:Nat):(sliceBounds lo hi none n).1=((HT.sIx n 0 lo:Nat):Int)/\(sliceBounds lo hi none n).2.1=((HT.sIx n n hi:Nat):Int)/\(sliceBounds lo hi none n).2.2=1:=by
 refine⟨?_,?_,rfl⟩
 ·cases lo with
  |none=>simp[sliceBounds,HT.sIx]
  |some i=>
   simp only[sliceBounds,HT.sIx,Option.getD_none,show(1:Int)>0 by decide,if_true]
   by_cases h:i<0
   ·simp only[h,if_true]<;>omega
   ·simp only[h,if_false]<;>omega
 ·cases hi with
  |none=>simp[sliceBounds,HT.sIx]
  |some i=>
   simp only[sliceBounds,HT.sIx,Option.getD_none,show(1:Int)>0 by decide,if_true]
   by_cases h:i<0
   ·simp only[h,if_true]<;>omega
   ·simp only[h,if_false]<;>omega
theorem a6W(its:List Value)(lo hi:Option Int):slicePick its.toArray lo hi none=((its.drop (HT.sIx its.length 0 lo)).take (HT.sIx its.length its.length hi- HT.sIx its.length 0 lo)).toArray:=by
 obtain⟨h1,h2,h3⟩:=a4U lo hi its.toArray.size
 unfold slicePick
 rw[h1,h2,h3]
 simp only[sliceRange_one,pick_run,List.size_toArray]<;>rfl
def rSlL(K:Fg):V->Option Int->Option Int->Hp->VK->Prop:=fun x lo hi H Q=>∃a xs,x= .ref a/\aO K H a xs/\∀p,H p=none->Q (.ref p) (upd H p (.lst (uJ xs lo hi)))
theorem sl_list:qB X (rSlL X.K):=by
 intro pins s σ H x v vl vu lo hi sl Q I rx hs pl pu h
 obtain⟨a,xs,rfl,hx,q⟩:=h
 cases rx
 obtain⟨its,r,ht,hz⟩:=I.list hx
 have hlen:=r.length
 refine⟨"list",_,slot_list_getitem.lookup,ht.isList.typeIs,?_⟩
 refine wpAny_getItem_list_slice ht.isList hs pl pu .none (by simp) ?_ (by rw[List.size_toArray]<;>omega)
 rw[a6W,<- hlen]
 refine⟨.ref s.heap.objs.size,_,I.laid (t':=s.toks) (o:=.lst (uJ xs lo hi)) (fun b ob q=>Heap.get?_push_of_some _ q) (Nat.le_refl _) ?_,rfl,q _ (I.hok.fresh (Nat.le_refl _))⟩
 exact⟨Nat.le_trans (a7E xs lo hi) hz,_,0,(r.drop (HT.sIx xs.length 0 lo)).take (HT.sIx xs.length xs.length hi- HT.sIx xs.length 0 lo),Heap.get?_push_size _ rfl⟩
noncomputable def lE:V->Bool
 | .non=>true
 | .bl _=>true
 | .int _=>true
 | .str _=>true
 |_=>false
noncomputable def kL:V->V->Bool
 | .non,.non=>true
 | .bl a,.bl b=>a==b
 | .bl a,.int b=>(if a then 1 else 0)==b
 | .int a,.bl b=>a==(if b then 1 else 0)
 | .int a,.int b=>a==b
 | .str a,.str b=>a==b
 |_,_=>false
theorem a5L{A:Around}{s:Shared}{y x:V}{u v:Value}(ry:bG y u)(rx:bG x v)(fy:lE y=true)(fx:lE x=true):SeqAt.EqAt A s u v (kL y x):=by
 cases y with
 |non=>
  cases ry
  cases x with
  |non=>cases rx;exact SeqAt.EqAt.same _
  |bl b=>cases rx;exact SeqAt.EqAt.none_bool b
  |int b=>obtain⟨t,rfl⟩:=rx;exact SeqAt.EqAt.none_int b t
  |str b=>obtain⟨t,rfl⟩:=rx;exact SeqAt.EqAt.none_str b t
  |_=>exact absurd (show false=true from fx) Bool.false_ne_true
 |bl a=>
  cases ry
  cases x with
  |non=>cases rx;exact SeqAt.EqAt.bool_none a
  |bl b=>cases rx;exact SeqAt.EqAt.bool_bool a b
  |int b=>obtain⟨t,rfl⟩:=rx;exact SeqAt.EqAt.bool_int a b t
  |str b=>obtain⟨t,rfl⟩:=rx;exact SeqAt.EqAt.bool_str a b t
  |_=>exact absurd (show false=true from fx) Bool.false_ne_true
 |int a=>
  obtain⟨t',rfl⟩:=ry
  cases x with
  |non=>cases rx;exact SeqAt.EqAt.int_none a t'
  |bl b=>cases rx;exact SeqAt.EqAt.int_bool a t' b
  |int b=>obtain⟨t,rfl⟩:=rx;exact SeqAt.EqAt.int_int a t' b t
  |str b=>obtain⟨t,rfl⟩:=rx;exact SeqAt.EqAt.int_str a t' b t
  |_=>exact absurd (show false=true from fx) Bool.false_ne_true
 |str a=>
  obtain⟨t',rfl⟩:=ry
  cases x with
  |non=>cases rx;exact SeqAt.EqAt.str_none a t'
  |bl b=>cases rx;exact SeqAt.EqAt.str_bool a t' b
  |int b=>obtain⟨t,rfl⟩:=rx;exact SeqAt.EqAt.str_int a t' b t
  |str b=>obtain⟨t,rfl⟩:=rx;exact SeqAt.EqAt.str_str a t' b t
  |_=>exact absurd (show false=true from fx) Bool.false_ne_true
 |_=>exact absurd (show false=true from fy) Bool.false_ne_true
noncomputable def hU (x:V) (u:Value):Bool:=match u with
 | .none=>kL .non x
 | .bool b=>kL (.bl b) x
 | .int i _=>kL (.int i) x
 | .str z _=>kL (.str z) x
 |_=>false
theorem a1U{x y:V}{u:Value}(r:bG y u)(f:lE y=true):hU x u=kL y x:=by
 cases y with
 |non=>cases r;rfl
 |bl b=>cases r;rfl
 |int i=>obtain⟨t,rfl⟩:=r;rfl
 |str z=>obtain⟨t,rfl⟩:=r;rfl
 |_=>exact absurd (show false=true from f) Bool.false_ne_true
theorem rP{x:V}:∀{xs:List V} {us:List Value},bE xs us->xs.all lE=true->us.any (hU x)=xs.any fun y=>kL y x
 |_,_,.nil,_=>rfl
 |y::xs,u::us,.cons r t,f=>by
  rw[List.all_cons,Bool.and_eq_true]at f
  rw[List.any_cons,List.any_cons,a1U r f.1,rP t f.2]
theorem rC{A:Around}{s:Shared}{x:V}{v:Value}(rx:bG x v)(fx:lE x=true):∀{xs:List V} {us:List Value},bE xs us->xs.all lE=true->∀u∈us,SeqAt.EqAt A s u v (hU x u)
 |_,_,.nil,_=>fun u hu=>by cases hu
 |y::xs,u::us,.cons r t,f=>fun u' hu=>by
  rw[List.all_cons,Bool.and_eq_true]at f
  rcases List.mem_cons.mp hu with rfl|hu
  ·rw[a1U r f.1];exact a5L r rx f.1 fx
  ·exact rC rx fx t f.2 u' hu
noncomputable def gC (x:V) (xs:List V):Bool:=xs.any fun y=>kL y x
noncomputable def rIn (K:Fg) (neg:Bool):R2:=fun x y H Q=>∃p xs,y= .ref p/\(aO K H p xs\/ bW K H p xs)/\lE x=true/\xs.all lE=true/\Q (.bl (if neg then !gC x xs else gC x xs)) H
theorem xX:cX X (compareOp .In) (rIn X.K false):=by
 intro pins s σ H x y v u Q I rx ry h
 obtain⟨p,xs,rfl,hq,fx,fs,q⟩:=h
 cases ry
 rcases hq with hq|hq
 ·obtain⟨its,r,pl,hz⟩:=I.list hq
  refine SeqAt.in_listAt (hU x) pl.isList (fun w hw=>rC rx fx r fs w (by simpa using hw)) ⟨.bl _,H,I,rfl,?_⟩
  rw[show its.toArray.any (hU x)=its.any (hU x)by simp,rP r fs]
  exact q
 ·obtain⟨its,r,pl,hz⟩:=I.tuple hq
  refine SeqAt.in_tupleAt (hU x) pl (fun w hw=>rC rx fx r fs w (by simpa using hw)) ⟨.bl _,H,I,rfl,?_⟩
  rw[show its.toArray.any (hU x)=its.any (hU x)by simp,rP r fs]
  exact q
theorem rS:cX X (compareOp .NotIn) (rIn X.K true):=by
 intro pins s σ H x y v u Q I rx ry h
 obtain⟨p,xs,rfl,hq,fx,fs,q⟩:=h
 cases ry
 rcases hq with hq|hq
 ·obtain⟨its,r,pl,hz⟩:=I.list hq
  refine SeqAt.notIn_listAt (hU x) pl.isList (fun w hw=>rC rx fx r fs w (by simpa using hw)) ⟨.bl _,H,I,rfl,?_⟩
  rw[show its.toArray.any (hU x)=its.any (hU x)by simp,rP r fs]
  exact q
 ·obtain⟨its,r,pl,hz⟩:=I.tuple hq
  refine SeqAt.notIn_tupleAt (hU x) pl (fun w hw=>rC rx fx r fs w (by simpa using hw)) ⟨.bl _,H,I,rfl,?_⟩
  rw[show its.toArray.any (hU x)=its.any (hU x)by simp,rP r fs]
  exact q
theorem nB:iE X (.type "list") (fun xs H Q=>∃p ys,xs= [.ref p] /\(aO X.K H p ys\/ bW X.K H p ys)/\∀l,H l=none->Q (.ref l) (upd H l (.lst ys))):=by
 intro pins s σ H xs us Q I r h
 obtain⟨p,ys,rfl,hq,q⟩:=h
 obtain⟨u,rfl,rx⟩:=mN r
 cases rx
 have fin:∀(its:List Value),bE ys its->ys.length<=sizeLine->∀(h':Heap) (c':Nat),(∀b o',s.heap.get? b=some o'->h'.get? b=some o')->
  h'.get? s.heap.objs.size=some {cls:=.type "list",dict:=none,data:=.seq its.toArray c',slots:= #[]} ->EP X pins σ Q (.ref s.heap.objs.size) {s with heap:=h'}:=fun its r' hz h' c' kp e=>
  ⟨.ref s.heap.objs.size,_,I.laid (t':=s.toks) kp (Nat.le_refl _) (show cV X.prog X.w _ h' _ (.lst ys) from⟨hz,its,c',r',e⟩),rfl,q _ (I.hok.fresh (Nat.le_refl _))⟩
 rcases hq with hq|hq
 ·obtain⟨its,r',pl,hz⟩:=I.list hq
  have hlen:=r'.length
  obtain⟨o,ho,hc,n,hd⟩:=pl.isList
  exact call_list_seq p (.inl rfl) ho hc hd (fun h' c' kp e=>fin its r' hz h' c' kp e) (by simp only[List.size_toArray]<;>omega)
 ·obtain⟨its,r',pl,hz⟩:=I.tuple hq
  have hlen:=r'.length
  obtain⟨o,ho,hc,n,hd⟩:=pl
  exact call_list_seq p (.inr rfl) ho hc hd (fun h' c' kp e=>fin its r' hz h' c' kp e) (by simp only[List.size_toArray]<;>omega)
def zH(K:Fg)(T:String)(x:V)(H:Hp):Prop:=match x with
 | .str _=>T= "str"
 | .int _=>T= "int"
 | .ref p=>(T= "list" /\∃xs,aO K H p xs)\/ (T= "tuple" /\∃o,K.lookup p=some o/\o.cls= .type "tuple" /\o.dict=none)\/
  (T= "dict" /\((∃kvs,H p=some (.dK kvs))\/ ∃kvs,H p=some (.dT kvs)))\/ (T= "set" /\∃S n,H p=some (.set S n))
 |_=>False
theorem a2S{pins:List (Addr×Obj)}{σ:St}{H:Hp}{s:Shared}{T:String}{x:V}{v:Value}(I:Inv X pins σ H s)(r:bG x v)(ty:zH X.K T x H):
 s.TypeIs v T/\∀a,v= .ref a->∃ob,s.heap.get? a=some ob/\ob.dict=none:=by
 cases x with
 |str z=>
  obtain⟨t,rfl⟩:=r
  cases (show T= "str" from ty)
  exact⟨typeIs_str s z t,fun _ e=>nomatch e⟩
 |int i=>
  obtain⟨t,rfl⟩:=r
  cases (show T= "int" from ty)
  exact⟨typeIs_int s i t,fun _ e=>nomatch e⟩
 |ref p=>
  cases r
  rcases ty with⟨rfl,xs,hq⟩|⟨rfl,o,hk,hc,hd⟩|⟨rfl,hk⟩|⟨rfl,S,n,hk⟩
  ·obtain⟨its,_,pl,_⟩:=I.list hq
   refine⟨pl.isList.typeIs,fun a e=> ?_⟩
   cases e
   obtain⟨o,n,e,c,hd,_⟩:=pl
   exact⟨o,e,hd⟩
  ·refine⟨⟨o,I.kIn p o hk,hc⟩,fun a e=> ?_⟩
   cases e
   exact⟨o,I.kIn _ o hk,hd⟩
  ·have z:∃o,s.heap.get? p=some o/\o.ExactDict:=by
    rcases hk with⟨kvs,hk⟩|⟨kvs,hk⟩
    ·obtain⟨_,_,_,_,o,_,_,e,ex,_⟩:=I.hok p _ hk
     exact⟨o,e,ex⟩
    ·obtain⟨_,_,_,_,o,_,_,e,ex,_⟩:=I.hok p _ hk
     exact⟨o,e,ex⟩
   obtain⟨o,e,ex⟩:=z
   refine⟨⟨o,e,ex.1⟩,fun a e2=> ?_⟩
   cases e2
   exact⟨o,e,ex.2.1⟩
  ·obtain⟨o,_,_,_,e,ex,_⟩:=I.hok p _ hk
   refine⟨⟨o,e,ex.1⟩,fun a e2=> ?_⟩
   cases e2
   exact⟨o,e,ex.2.1⟩
 |_=>exact False.elim ty
def tBM0(K:Fg)(T:String)(r:V->List V->Hp->VK->Prop)(to:TE):TE:=fun σ H Q=>to σ H fun x H1=>zH K T x H1/\r x [] H1 Q
def tBM(K:Fg)(T:String)(r:V->List V->Hp->VK->Prop)(to:TE)(t:TA):TE:=fun σ H Q=>to σ H fun x H1=>zH K T x H1/\t σ H1 fun xs H2=>r x xs H2 Q
variable{o e:Expr}{es:List Expr}{to:TE}{t:TA}{name:Str}{apos cpos:Pos}{T id:String}{r:V->List V->Hp->VK->Prop}
theorem a8S(pa:PlainAttrs T)(slot:Slot T name id)(hty:typeOf (.builtin id)=pure (.type "method_descriptor"))(hm:wF X id r)(ho:PE X o to)
 (hbase:attributeBase o name X.env (eval o X.env)=eval o X.env:=by rfl)(hline:(apos.endLine==cpos.line)=true:=by rfl):PE X (.Call (.Attribute o name apos) [] [] cpos) (tBM0 X.K T r to):=by
 intro pins s σ H Q I h
 refine wpAny_Call_method0_late hbase hline (aS (ho pins s σ H _ I h) ?_)
 rintro v s1 ⟨x,H1,I1,r1,ty,q1⟩
 obtain⟨h1,h2⟩:=a2S I1 r1 ty
 exact⟨T,id,pa,slot,hty,h1,h2,Calls.callWith_builtin rfl (PySem.evalArgs_none (hm pins s1 σ H1 x [] v [] Q I1 r1 .nil q1))⟩
theorem kH(pa:PlainAttrs T)(slot:Slot T name id)(hty:typeOf (.builtin id)=pure (.type "method_descriptor"))(hm:wF X id r)(ho:PE X o to)(ha:PA X (e::es) t)
 (hbase:attributeBase o name X.env (eval o X.env)=eval o X.env:=by rfl)
 (hfew:((backTo cpos (starEach (e::es) X.env)).all (fun x=> !x.1)&&(backToKw cpos (keywordEach [] X.env)).all (fun x=>x.1.isSome)
  &&decide ((e::es).length+ ([]:List Keyword).length+ (if([]:List Keyword).isEmpty then 0 else 1)<30))=true:=by rfl)
 (hline:(apos.endLine==cpos.line)=true:=by rfl)(hs:starEach (e::es) X.env=(false,eval e X.env)::starEach es X.env:=by rfl)(hplain:(backTo cpos (starEach es X.env)).any (·.1)=false:=by rfl):
 PE X (.Call (.Attribute o name apos) (e::es) [] cpos) (tBM X.K T r to t):=by
 intro pins s σ H Q I h
 refine wpAny_Call_method_late hbase hfew hline rfl (aS (ho pins s σ H _ I h) ?_)
 rintro v s1 ⟨x,H1,I1,r1,ty,q1⟩
 obtain⟨h1,h2⟩:=a2S I1 r1 ty
 refine⟨T,id,pa,slot,hty,h1,h2,?_⟩
 have hA:=ha cpos pins s1 σ H1 _ I1 q1
 rw[hs]at hA|-
 refine Calls.callWith_builtin (by show(false||(backTo cpos (starEach es X.env)).any (·.1))=false;rw[hplain]<;>rfl) (Calls.evalArgs_plain ?_)
 exact aS hA fun us s2 ⟨vs,H2,I2,r2,q2⟩=>hm pins s2 σ H2 x vs v us Q I2 r1 r2 q2
end
def wB(X:Cx)(id:String)(r:V->List V->Hp->VK->Prop):Prop:=
 ∀(pins:List (Addr×Obj)) (s:Shared) (σ:St) (H:Hp) (x:V) (xs:List V) (v:Value) (us:List Value) (Q:VK),Inv X pins σ H s->bG x v->bE xs us->r x xs H Q->
  wpAny (model X.prog X.w) X.A (call (.builtin id) (v::us)) (EP X pins σ Q) X.xe s
theorem bE.one:∀{x:V} {us:List Value},bE [x] us->∃u,us= [u] /\bG x u
 |_,_,.cons r .nil=>⟨_,rfl,r⟩
theorem bE.two{x y:V}{us:List Value}(h:bE [x,y] us):∃u v,us= [u,v] /\bG x u/\bG y v:=by
 cases h with
 |cons r h=>cases h with
  |cons q h=>cases h with
   |nil=>exact⟨_,_,rfl,r,q⟩
theorem bE.zero:∀{us:List Value},bE [] us->us= []
 |_,.nil=>rfl
theorem bE.dropLast{xs:List V}{us:List Value}(h:bE xs us):bE xs.dropLast us.dropLast:=by
 induction h with
 |nil=>exact .nil
 |cons r t ih=>
  cases t with
  |nil=>exact .nil
  |cons q t'=>exact .cons r ih
theorem a9B{α:Type}(l:List α):l.eraseIdx (l.length- 1)=l.dropLast:=by
 induction l with
 |nil=>rfl
 |cons a r ih=>
  cases r with
  |nil=>rfl
  |cons b r=>
   have e:(a::b::r).length- 1=((b::r).length- 1)+ 1:=by
    have h1:(a::b::r).length=r.length+ 2:=rfl
    have h2:(b::r).length=r.length+ 1:=rfl
    omega
   rw[e,List.eraseIdx_cons_succ,ih]
   all_goals rfl
section
variable{X:Cx}{pins:List (Addr×Obj)}{σ:St}{H:Hp}{s:Shared}{l b:Addr}{xs ys zs:List V}
theorem Inv.lset{its its':List Value}{n:Nat}{f:Array Value->Array Value}{t':Nat}(I:Inv X pins σ H s)(hH:H l=some (.lst xs))
 (e:s.heap.get? l=some {cls:=.type "list",data:=.seq its.toArray n})(hf:f its.toArray=its'.toArray)(hv:bE ys its')(hz:ys.length<=sizeLine):
 Inv X pins σ (upd H l (.lst ys)) {s with heap:=s.heap.update l (Obj.mapSeq f),toks:=t'}:=by
 have q:=PySem.IsL.update e f
 rw[hf]at q
 refine I.write (x:=l) (e:=l) (by rw[hH];exact trivial) (.inl rfl) (fun b' u hb hu=>(Heap.get?_update_other s.heap (Obj.mapSeq f) (Ne.symm hb)).trans hu) ⟨_,q⟩ ?_
 exact⟨hz,its',_,hv,q⟩
theorem Inv.lnew{its:List Value}{t':Nat}(I:Inv X pins σ H s)(hv:bE ys its)(hz:ys.length<=sizeLine):
 Inv X pins σ (upd H s.heap.objs.size (.lst ys)) {s with heap:=s.heap.push {cls:=.type "list",data:=.seq its.toArray},toks:=t'}:=
 I.laid (fun _ _ q=>Heap.get?_push_of_some _ q) (Nat.le_refl _) ⟨hz,its,0,hv,Heap.get?_push_size _ rfl⟩
theorem Inv.fresh(I:Inv X pins σ H s):H s.heap.objs.size=none:=I.hok.fresh (Nat.le_refl _)
theorem Inv.lstM(I:Inv X pins σ H s)(hH:H l=some (.lst xs)):xs.length<=sizeLine/\∃(its:List Value) (n:Nat),bE xs its/\xs.length=its.length/\s.heap.get? l=some {cls:=.type "list",data:=.seq its.toArray n}:=by
 obtain⟨z,its,n,r,e⟩:=I.hok l _ hH
 exact⟨z,its,n,r,r.length,e⟩
theorem a85{n:Nat}(h:n<=sizeLine):Builtin.List.listTooLong n=false:=by
 unfold Builtin.List.listTooLong
 exact decide_eq_false (by omega)
end
section
variable{X:Cx}
def a9r:V->List V->Hp->VK->Prop:=fun x vs H Q=>∃l xs y,x= .ref l/\vs= [y] /\H l=some (.lst xs)/\xs.length<sizeLine/\Q .non (upd H l (.lst (xs++ [y])))
theorem kD:wB X "list.append" a9r:=by
 intro pins s σ H x vs v us Q I rx rv h
 obtain⟨l,xs,y,rfl,rfl,hH,hz,q⟩:=h
 cases rx
 obtain⟨u,rfl,ru⟩:=rv.one
 obtain⟨z,its,n,r,hl,e⟩:=I.lstM hH
 refine call_meets F.slot_list_append ⟨_,e,rfl⟩ F.entry_list_append (F.args_list_append_2 _ _) (PySem.list_append l its.toArray n u (by rw[List.size_toArray];omega)) ⟨e,?_⟩
 refine⟨.non,_,I.lset (its':=its++ [u]) hH e (by simp) (r.append (.cons ru .nil)) ?_,rfl,q⟩
 rw[List.length_append,List.length_singleton]
 omega
def a5c:V->List V->Hp->VK->Prop:=fun x vs H Q=>∃l b xs zs,x= .ref l/\vs= [.ref b] /\H l=some (.lst xs)/\H b=some (.lst zs)/\xs.length+ zs.length<=sizeLine/\Q .non (upd H l (.lst (xs++ zs)))
theorem mt_extend:wB X "list.extend" a5c:=by
 intro pins s σ H x vs v us Q I rx rv h
 obtain⟨l,b,xs,zs,rfl,rfl,hH,hB,hz,q⟩:=h
 cases rx
 obtain⟨u,rfl,ru⟩:=rv.one
 cases ru
 obtain⟨z,its,n,r,hl,e⟩:=I.lstM hH
 obtain⟨z2,its2,n2,r2,hl2,e2⟩:=I.lstM hB
 have hsz:its.toArray.size+ its2.toArray.size<=sizeLine:=by rw[List.size_toArray,List.size_toArray];omega
 have hlong:¬(!its.toArray.isEmpty&&Builtin.List.listTooLong (its.toArray.size+ its2.toArray.size))=true:=by
  rw[a85 hsz,Bool.and_false]
  exact Bool.false_ne_true
 refine call_meets F.slot_list_extend ⟨_,e,rfl⟩ F.entry_list_extend (F.args_list_extend_2 _ _)
  (AutoSeq1.list_extend_list_list_0 l its.toArray n b its2.toArray n2 hlong (by rw[List.size_toArray];omega) (by omega)) ⟨e,e2,?_⟩
 refine⟨.non,_,I.lset (its':=its++ its2) hH e (by simp) (r.append r2) ?_,rfl,q⟩
 rw[List.length_append]
 omega
def rPop:V->List V->Hp->VK->Prop:=fun x vs H Q=>∃l xs y,x= .ref l/\vs= [] /\H l=some (.lst xs)/\xs[xs.length- 1]?=some y/\Q y (upd H l (.lst xs.dropLast))
theorem a4a:wB X "list.pop" rPop:=by
 intro pins s σ H x vs v us Q I rx rv h
 obtain⟨l,xs,y,rfl,rfl,hH,hy,q⟩:=h
 cases rx
 have hus:=rv.zero
 subst hus
 obtain⟨z,its,n,r,hl,e⟩:=I.lstM hH
 obtain⟨u,hu,ru⟩:=r.get hy
 have hy':its.toArray[its.toArray.size- 1]?=some u:=by
  show its.toArray[its.length- 1]?=some u
  rw[<- Array.getElem?_toList,<- hl]
  exact hu
 refine call_meets F.slot_list_pop ⟨_,e,rfl⟩ F.entry_list_pop (F.args_list_pop_1 _) (MeetsSeq.list_pop_last l its.toArray n u hy' (by rw[List.size_toArray];omega)) ⟨e,?_⟩
 refine⟨y,_,I.lset (its':=its.dropLast) hH e ?_ r.dropLast ?_,ru,q⟩
 ·show its.toArray.eraseIdxIfInBounds (its.toArray.size- 1)=its.dropLast.toArray
  rw[List.size_toArray,List.eraseIdxIfInBounds_toArray,a9B]
 ·rw[List.length_dropLast]
  omega
noncomputable def rCat:R2:=fun x y H Q=>∃l b xs zs,x= .ref l/\y= .ref b/\H l=some (.lst xs)/\H b=some (.lst zs)/\xs.length+ zs.length<=sizeLine/\∀p,H p=none->Q (.ref p) (upd H p (.lst (xs++ zs)))
theorem a7u:cX X (binaryOp .Add) rCat:=by
 intro pins s σ H x y v u Q I rx ry h
 obtain⟨l,b,xs,zs,rfl,rfl,hH,hB,hz,q⟩:=h
 cases rx
 cases ry
 obtain⟨z,its,n,r,hl,e⟩:=I.lstM hH
 obtain⟨z2,its2,n2,r2,hl2,e2⟩:=I.lstM hB
 refine PySem.P.add_list e e2 ?_ (by rw[List.size_toArray,List.size_toArray];omega)
 have ea:its.toArray++ its2.toArray=(its++ its2).toArray:=by simp
 rw[ea]
 exact⟨.ref _,_,I.lnew (t':=s.toks) (r.append r2) (by rw[List.length_append];omega),rfl,q _ I.fresh⟩
end
section
variable{κ:Type} [DecidableEq κ]
def aQ(kvs:List (κ×V))(k:κ):Option V:=(kvs.find? fun kv=>decide (kv.1=k)).map (·.2)
def aR(kvs:List (κ×V))(k:κ)(v:V):List (κ×V):=
 if(kvs.any fun kv=>decide (kv.1=k))=true then kvs.map (fun kv=>if kv.1=k then(kv.1,v) else kv) else kvs++ [(k,v)]
theorem eR{p:κ×V}{r:List (κ×V)}{k:κ}(e:p.1=k):aQ (p::r) k=some p.2:=by simp[aQ,List.find?_cons,e]
theorem iS{p:κ×V}{r:List (κ×V)}{k:κ}(e:¬p.1=k):aQ (p::r) k=aQ r k:=by simp[aQ,List.find?_cons,e]
theorem nZ(k:κ):∀kvs:List (κ×V),(kvs.any fun kv=>decide (kv.1=k))=(aQ kvs k).isSome
 | []=>rfl
 |p::r=>by
  rw[List.any_cons]
  by_cases e:p.1=k
  ·simp only[eR e,decide_eq_true e,Bool.true_or,Option.isSome_some]
  ·rw[iS e,decide_eq_false e,Bool.false_or];exact nZ k r
theorem a1X(k j:κ)(y:V):∀kvs:List (κ×V),aQ (kvs.map fun kv=>if kv.1=k then(kv.1,y) else kv) j=(aQ kvs j).map fun x=>if j=k then y else x
 | []=>rfl
 |p::r=>by
  have ih:=a1X k j y r
  rw[List.map_cons]
  by_cases h:p.1=k
  ·rw[if_pos h]
   by_cases e:p.1=j
   ·rw[eR (p:=(p.1,y)) e,eR e,Option.map_some,if_pos (e.symm.trans h)]
   ·rw[iS (p:=(p.1,y)) e,iS e,ih]
  ·rw[if_neg h]
   by_cases e:p.1=j
   ·rw[eR (p:=p) e,eR e,Option.map_some,if_neg (fun z=>h (e.trans z))]
   ·rw[iS (p:=p) e,iS e,ih]
theorem a0V(k j:κ)(y:V):∀kvs:List (κ×V),aQ kvs k=none->aQ (kvs++ [(k,y)]) j=if j=k then some y else aQ kvs j
 | [],_=>by
  by_cases e:k=j
  ·rw[if_pos e.symm];exact eR (p:=(k,y)) e
  ·rw[if_neg (fun z=>e z.symm)];exact iS (p:=(k,y)) e
 |p::r,hn=>by
  rw[List.cons_append]
  have hk:¬p.1=k:=fun z=>by rw[eR z]at hn;cases hn
  rw[iS hk]at hn
  have ih:=a0V k j y r hn
  by_cases e:p.1=j
  ·rw[eR e,eR e,if_neg (fun z=>hk (e.trans z))]
  ·rw[iS e,iS e,ih]
theorem fT(kvs:List (κ×V))(k j:κ)(y:V):aQ (aR kvs k y) j=if j=k then some y else aQ kvs j:=by
 unfold aR
 by_cases a:(kvs.any fun kv=>decide (kv.1=k))=true
 ·rw[if_pos a,a1X]
  rw[nZ]at a
  by_cases e:j=k
  ·obtain⟨x,hx⟩:=Option.isSome_iff_exists.mp a
   rw[if_pos e,e,hx,Option.map_some,if_pos rfl]
  ·rw[if_neg e]
   cases aQ kvs j with
   |none=>rfl
   |some x=>rw[Option.map_some,if_neg e]
 ·rw[if_neg a]
  refine a0V k j y kvs ?_
  rw[nZ]at a
  cases q:aQ kvs k with
  |none=>rfl
  |some x=>rw[q]at a;exact(a rfl).elim
theorem vE(kvs:List (κ×V))(k:κ)(v:V):(aR kvs k v).length<=kvs.length+ 1:=by
 unfold aR
 split
 ·rw[List.length_map];omega
 ·rw[List.length_append,List.length_cons,List.length_nil];omega
theorem wT{kvs:List (κ×V)}{k:κ}(v:V)(h:aQ kvs k=none):aR kvs k v=kvs++ [(k,v)]:=by
 unfold aR
 rw[nZ,h]
 exact if_neg (by decide)
theorem fV.isSome_eq{o:Option V}{u:Option Value}(r:fV o u):o.isSome=u.isSome:=by
 cases o with
 |none=>cases u with
  |none=>rfl
  |some _=>exact(show False from r).elim
 |some _=>cases u with
  |none=>exact(show False from r).elim
  |some _=>rfl
theorem fV.getD{o:Option V}{u:Option Value}{d:V}{d':Value}(r:fV o u)(rd:bG d d'):bG (o.getD d) (u.getD d'):=by
 cases o with
 |none=>cases u with
  |none=>exact rd
  |some _=>exact(show False from r).elim
 |some _=>cases u with
  |none=>exact(show False from r).elim
  |some _=>exact r
theorem KV.val{kvs:List (κ×V)}{vs:List (κ×Value)}(r:KV kvs vs)(k:κ):fV (aQ kvs k) (valueAt vs k):=by
 unfold KV at r
 induction r with
 |nil=>exact True.intro
 | @cons p q ps qs h t ih=>
  obtain⟨h1,h2⟩:=h
  by_cases e:p.1=k
  ·have e':q.1=k:=h1.symm.trans e
   have b:valueAt (q::qs) k=some q.2:=by simp[valueAt,List.find?_cons,e']
   rw[eR e,b];exact h2
  ·have e':¬q.1=k:=fun z=>e (h1.trans z)
   have b:valueAt (q::qs) k=valueAt qs k:=by simp[valueAt,List.find?_cons,e']
   rw[iS e,b];exact ih
theorem KV.any{kvs:List (κ×V)}{vs:List (κ×Value)}(r:KV kvs vs)(k:κ):(kvs.any fun kv=>decide (kv.1=k))=vs.any fun kv=>decide (kv.1=k):=by
 unfold KV at r
 induction r with
 |nil=>rfl
 |cons h t ih=>rw[List.any_cons,List.any_cons,ih,h.1]
theorem KV.repl{kvs:List (κ×V)}{vs:List (κ×Value)}(r:KV kvs vs)(k:κ){y:V}{u:Value}(ry:bG y u):
 KV (kvs.map fun kv=>if kv.1=k then(kv.1,y) else kv) (vs.map fun kv=>if kv.1=k then(kv.1,u) else kv):=by
 unfold KV at r|-
 induction r with
 |nil=>exact .nil
 | @cons p q ps qs h t ih=>
  rw[List.map_cons,List.map_cons]
  refine .cons ?_ ih
  obtain⟨h1,h2⟩:=h
  by_cases e:p.1=k
  ·rw[if_pos e,if_pos (h1.symm.trans e)];exact⟨h1,ry⟩
  ·rw[if_neg e,if_neg (fun z=>e (h1.trans z))];exact⟨h1,h2⟩
theorem KV.put{kvs:List (κ×V)}{vs:List (κ×Value)}(r:KV kvs vs)(k:κ){y:V}{u:Value}(ry:bG y u):KV (aR kvs k y) (stored vs k u):=by
 unfold aR stored
 rw[r.any k]
 by_cases e:(vs.any fun kv=>decide (kv.1=k))=true
 ·rw[if_pos e,if_pos e];exact r.repl k ry
 ·rw[if_neg e,if_neg e];exact Paired.snoc r ⟨rfl,ry⟩
theorem KV.length{kvs:List (κ×V)}{vs:List (κ×Value)}(r:KV kvs vs):kvs.length=vs.length:=Paired.length r
end
theorem oS{P:Program}{w:World}{k:aB}{u:Value}(r:bG (kV k) u):(fS P w).is k u=true:=by
 cases k with
 |inl i=>obtain⟨t,e⟩:=(show∃t,u=Value.int i t from r);subst e;exact a9x P w i t
 |inr x=>obtain⟨t,e⟩:=(show∃t,u=Value.str x t from r);subst e;exact a8C P w x t
theorem a1W{P:Program}{w:World}:∀{ks:List aB} {us:List Value},bE (ks.map kV) us->ItemsAre (fS P w) ks us
 | [],_,r=>by rw[List.map_nil]at r;cases r;exact .nil
 |k::ks,_,r=>by
  rw[List.map_cons]at r
  cases r with
  |cons h t=>exact .cons (oS h) (a1W t)
abbrev KT(H:Hp):List (List aB×V)->List (List aB×Addr×Value)->Prop:=Paired fun p q=>p.1=q.1/\H q.2.1=some (.tup (p.1.map kV))/\bG p.2 q.2.2
theorem KT.val{H:Hp}{kvs:List (List aB×V)}{xs:List (List aB×Addr×Value)}(r:KT H kvs xs)(k:List aB):fV (aQ kvs k) ((atKey xs k).map (·.2)):=by
 induction r with
 |nil=>exact True.intro
 | @cons p q ps qs h t ih=>
  obtain⟨h1,_,h2⟩:=h
  by_cases e:p.1=k
  ·have e':q.1=k:=h1.symm.trans e
   have b:atKey (q::qs) k=some q.2:=by simp[atKey,List.find?_cons,e']
   rw[eR e,b];exact h2
  ·have e':¬q.1=k:=fun z=>e (h1.trans z)
   have b:atKey (q::qs) k=atKey qs k:=by simp[atKey,List.find?_cons,e']
   rw[iS e,b];exact ih
theorem KT.repl{H:Hp}{kvs:List (List aB×V)}{xs:List (List aB×Addr×Value)}(r:KT H kvs xs)(k:List aB){y:V}{u:Value}(ry:bG y u):
 KT H (kvs.map fun kv=>if kv.1=k then(kv.1,y) else kv) (xs.map (putAt k u)):=by
 induction r with
 |nil=>exact .nil
 | @cons p q ps qs h t ih=>
  rw[List.map_cons,List.map_cons]
  refine .cons ?_ ih
  obtain⟨h1,h2,h3⟩:=h
  unfold putAt
  by_cases e:p.1=k
  ·rw[if_pos e,if_pos (h1.symm.trans e)];exact⟨h1,h2,ry⟩
  ·rw[if_neg e,if_neg (fun z=>e (h1.trans z))];exact⟨h1,h2,h3⟩
theorem KT.put{H:Hp}{kvs:List (List aB×V)}{xs:List (List aB×Addr×Value)}(r:KT H kvs xs)(k:List aB){b:Addr}{y:V}{u:Value}(hb:H b=some (.tup (k.map kV)))(ry:bG y u):
 KT H (aR kvs k y) (storedH xs k b u):=by
 have e:(kvs.any fun kv=>decide (kv.1=k))=(atKey xs k).isSome:=by
  rw[nZ,(r.val k).isSome_eq,Option.isSome_map]
 unfold aR storedH
 rw[e]
 by_cases q:(atKey xs k).isSome=true
 ·rw[if_pos q,if_pos q];exact r.repl k ry
 ·rw[if_neg q,if_neg q];exact Paired.snoc r ⟨rfl,hb,ry⟩
theorem KT.keeps{H H':Hp}{kvs:List (List aB×V)}{xs:List (List aB×Addr×Value)}(r:KT H kvs xs)(ht:∀b ys,H b=some (.tup ys)->H' b=some (.tup ys)):KT H' kvs xs:=
 Paired.mapP r fun _ _ z=>⟨z.1,ht _ _ z.2.1,z.2.2⟩
section
variable{P:Program}{w:World}{H:Hp}{h:Heap}{a:Addr}
theorem a07{u:HO}(ok:bX P w H h)(e:Rd H a u):cV P w H h a u:=e.ok ok
theorem mO{kvs:List (aB×V)}(ok:bX P w H h)(e:Rd H a (.dK kvs)):kvs.length<=sizeLine/\(a==sysModules)=false/\∃vs,KV kvs vs/\h.DictOf (fS P w) a vs:=
 show cV P w H h a (.dK kvs) from a07 ok e
theorem a7h{kvs:List (aB×V)}(ok:bX P w H h)(e:H a=some (.dK kvs)):kvs.length<=sizeLine/\(a==sysModules)=false/\∃vs,KV kvs vs/\h.DictOf (fS P w) a vs:=mO ok (.inl e)
theorem pV{ks:List aB}(ok:bX P w H h)(e:H a=some (.tup (ks.map kV))):(tupleKind (fS P w)).is h ks a:=by
 obtain⟨_,its,r,o,h1,h2,n,h3⟩:=(show cV P w H h a (.tup (ks.map kV)) from ok a _ e)
 exact⟨o,its.toArray,n,h1,h2,h3,by simpa using a1W r⟩
theorem nM{kvs:List (List aB×V)}(ok:bX P w H h)(e:Rd H a (.dT kvs)):kvs.length<=sizeLine/\(a==sysModules)=false/\
 ∃xs,KT H kvs xs/\h.DictOfH (tupleKind (fS P w)) a xs:=by
 obtain⟨z,y,xs,r,o,es,ep,h1,h2,h3,h4,h5⟩:=(show cV P w H h a (.dT kvs) from a07 ok e)
 refine⟨z,y,xs,r,o,es,ep,h1,h2,h3,h4,fun x hx=> ?_,h5⟩
 have all:∀{l:List (List aB×V)} {m:List (List aB×Addr×Value)},KT H l m->∀x∈m,(tupleKind (fS P w)).is h x.1 x.2.1:=by
  intro l m q
  induction q with
  |nil=>intro x hx;exact nomatch hx
  | @cons p q ps qs hq t ih=>
   intro x hx
   rcases List.mem_cons.mp hx with e|hx
   ·subst e
    exact pV ok (by rw[<- hq.1];exact hq.2.1)
   ·exact ih x hx
 exact all r x hx
theorem a6E{kvs:List (List aB×V)}(ok:bX P w H h)(e:H a=some (.dT kvs)):kvs.length<=sizeLine/\(a==sysModules)=false/\
 ∃xs,KT H kvs xs/\h.DictOfH (tupleKind (fS P w)) a xs:=nM ok (.inl e)
end
def cA(H:Hp)(a:Addr)(y:V)(r:Option V):Prop:=
 (∃kvs k,Rd H a (.dK kvs)/\y=kV k/\r=aQ kvs k)\/ ∃kvs k b,Rd H a (.dT kvs)/\y= .ref b/\H b=some (.tup (k.map kV))/\r=aQ kvs k
def hZ(H:Hp)(a:Addr)(y v:V)(H':Hp):Prop:=
 (∃kvs k,H a=some (.dK kvs)/\y=kV k/\kvs.length<sizeLine/\H'=upd H a (.dK (aR kvs k v)))\/
 ∃kvs k b,H a=some (.dT kvs)/\y= .ref b/\H b=some (.tup (k.map kV))/\kvs.length<sizeLine/\H'=upd H a (.dT (aR kvs k v))
theorem cA.k{H:Hp}{a:Addr}{kvs:List (aB×V)}{k:aB}(e:H a=some (.dK kvs)):cA H a (kV k) (aQ kvs k):=.inl ⟨kvs,k,.inl e,rfl,rfl⟩
theorem cA.t{H:Hp}{a b:Addr}{kvs:List (List aB×V)}{k:List aB}(e:H a=some (.dT kvs))(eb:H b=some (.tup (k.map kV))):cA H a (.ref b) (aQ kvs k):=.inr ⟨kvs,k,b,.inl e,rfl,eb,rfl⟩
theorem hZ.k{H:Hp}{a:Addr}{kvs:List (aB×V)}{k:aB}{v:V}(e:H a=some (.dK kvs))(hl:kvs.length<sizeLine):hZ H a (kV k) v (upd H a (.dK (aR kvs k v))):=.inl ⟨kvs,k,e,rfl,hl,rfl⟩
theorem hZ.t{H:Hp}{a b:Addr}{kvs:List (List aB×V)}{k:List aB}{v:V}(e:H a=some (.dT kvs))(eb:H b=some (.tup (k.map kV)))(hl:kvs.length<sizeLine):
 hZ H a (.ref b) v (upd H a (.dT (aR kvs k v))):=.inr ⟨kvs,k,b,e,rfl,eb,hl,rfl⟩
section
variable{X:Cx}{pins:List (Addr×Obj)}{σ:St}{H:Hp}{s:Shared}{a:Addr}{y v:V}{u r:Value}{o:Option V}{A:Around}{E:Value->Shared->Prop}
theorem Inv.big(I:Inv X pins σ H s):sysModules<s.heap.objs.size:=by
 have h:mainGlobals<s.heap.objs.size:=(I.mod.glob.keeps I.bk).lt
 exact Nat.lt_trans (by decide) h
theorem a60{Q:Value->Shared->Prop}(hu:A.units+ 1<cLine)(I:Inv X pins σ H s)(g:cA H a y (some v))(ry:bG y u)(h:∀w' s',Inv X pins σ H s'->bG v w'->Q w' s'):
 wpAny (model X.prog X.w) A (getItem (.ref a) u) Q E s:=by
 rcases g with⟨kvs,k,e,ey,l⟩|⟨kvs,k,b,e,ey,eb,l⟩
 ·subst ey
  obtain⟨z,hd,vs,rel,dd⟩:=mO I.hok e
  obtain⟨w',hw,rw'⟩:=fV.some_of (v:=v) (o:=valueAt vs k) (by rw[l];exact rel.val k)
  exact wpAny_getItem_of (oS ry) dd.mapOf hw (h w' _ (I.tok _) rw')
 ·subst ey
  cases (show u=Value.ref b from ry)
  obtain⟨z,hd,xs,rel,dd⟩:=nM I.hok e
  obtain⟨w',hw,rw'⟩:=fV.some_of (v:=v) (o:=(atKey xs k).map (·.2)) (by rw[l];exact rel.val k)
  obtain⟨p,hp,hp2⟩:=Option.map_eq_some_iff.mp hw
  refine wpAny_getItem_heap (tupleKind_room_in1 hu) (pV I.hok eb) dd hp ?_
  rw[hp2]
  exact h w' _ (I.tok _) rw'
theorem d_in{Q:Value->Shared->Prop}(hu:A.units+ 1<cLine)(I:Inv X pins σ H s)(g:cA H a y o)(ry:bG y u)(h:∀s',Inv X pins σ H s'->Q (.bool o.isSome) s'):
 wpAny (model X.prog X.w) A (compareOp .In u (.ref a)) Q E s:=by
 rcases g with⟨kvs,k,e,ey,l⟩|⟨kvs,k,b,e,ey,eb,l⟩
 ·subst ey
  obtain⟨z,hd,vs,rel,dd⟩:=mO I.hok e
  refine wpAny_in_of (oS ry) hd dd.mapOf ?_
  rw[<- (rel.val k).isSome_eq,<- l]
  exact h _ (I.tok _)
 ·subst ey
  cases (show u=Value.ref b from ry)
  obtain⟨z,hd,xs,rel,dd⟩:=nM I.hok e
  refine wpAny_in_heap (tupleKind_room_in1 hu) (pV I.hok eb) hd dd ?_
  have q:=(rel.val k).isSome_eq
  rw[Option.isSome_map]at q
  rw[<- q,<- l]
  exact h _ (I.tok _)
theorem a45{Q:Value->Shared->Prop}(hu:A.units+ 1<cLine)(I:Inv X pins σ H s)(g:cA H a y o)(ry:bG y u)(h:∀s',Inv X pins σ H s'->Q (.bool (!o.isSome)) s'):
 wpAny (model X.prog X.w) A (compareOp .NotIn u (.ref a)) Q E s:=by
 rcases g with⟨kvs,k,e,ey,l⟩|⟨kvs,k,b,e,ey,eb,l⟩
 ·subst ey
  obtain⟨z,hd,vs,rel,dd⟩:=mO I.hok e
  refine wpAny_notIn_of (oS ry) hd dd.mapOf ?_
  rw[<- (rel.val k).isSome_eq,<- l]
  exact h _ (I.tok _)
 ·subst ey
  cases (show u=Value.ref b from ry)
  obtain⟨z,hd,xs,rel,dd⟩:=nM I.hok e
  refine wpAny_notIn_heap (tupleKind_room_in1 hu) (pV I.hok eb) hd dd ?_
  have q:=(rel.val k).isSome_eq
  rw[Option.isSome_map]at q
  rw[<- q,<- l]
  exact h _ (I.tok _)
theorem a1J{h':Heap}{t':Nat}{ob:HO}(I:Inv X pins σ H s)(mu:qO (H a))(hs:Heap.SameBut a s.heap h')(he:∃q,h'.get? a=some q)(new:cV X.prog X.w (upd H a ob) h' a ob):
 Inv X pins σ (upd H a ob) {s with heap:=h',toks:=t'}:=
 I.write (x:=a) (e:=a) mu (.inl rfl) (fun b q hb z=>(hs.2 b hb).trans z) he new
theorem a5J{P:Program}{w:World}{H':Hp}{h':Heap}{kvs:List (aB×V)}{vs:List (aB×Value)}(z:kvs.length<=sizeLine)(hd:(a==sysModules)=false)(rel:KV kvs vs)(dd:h'.DictOf (fS P w) a vs):
 cV P w H' h' a (.dK kvs):=⟨z,hd,vs,rel,dd⟩
theorem a72{H':Hp}{Q:Unit->Shared->Prop}(hu:A.units+ 1<cLine)(I:Inv X pins σ H s)(g:hZ H a y v H')(ry:bG y u)(rv:bG v r)(h:∀s',Inv X pins σ H' s'->Q () s'):
 wpAny (model X.prog X.w) A (setItem (.ref a) u r) Q E s:=by
 rcases g with⟨kvs,k,e,ey,l,eH⟩|⟨kvs,k,b,e,ey,eb,l,eH⟩
 ·subst ey eH
  obtain⟨z,hd,vs,rel,dd⟩:=a7h I.hok e
  have hz:vs.length<=sizeLine:=by rw[<- rel.length];exact z
  have hl:(aR kvs k v).length<=sizeLine:=by have:=vE kvs k v;omega
  refine wpAny_setItem_pairs (hsz:=hz) (oS ry) dd fun h' dd' hs=>h _ ?_
  have he:∃q,h'.get? a=some q:=let ⟨q,_,_,hq,_⟩:=dd';⟨q,hq⟩
  exact a1J I (by rw[e];exact True.intro) hs he (a5J hl hd (rel.put k rv) dd')
 ·subst ey eH
  cases (show u=Value.ref b from ry)
  obtain⟨z,hd,xs,rel,dd⟩:=a6E I.hok e
  have hz:xs.length<=sizeLine:=by rw[<- Paired.length rel];exact z
  have hl:(aR kvs k v).length<=sizeLine:=by have:=vE kvs k v;omega
  refine wpAny_setItem_heap (hsz:=hz) (tupleKind_room_in1 hu) (pV I.hok eb) dd fun h' dd' hs=>h _ ?_
  obtain⟨q,es,ep,hq,h2,h3,h4,_,h5⟩:=dd'
  refine a1J I (by rw[e];exact True.intro) hs ⟨q,hq⟩ ⟨hl,hd,_,(rel.put k eb rv).keeps fun c ys ec=> ?_,q,es,ep,hq,h2,h3,h4,h5⟩
  rw[aG (kE ec e (fun z=>nomatch z))]
  exact ec
end
section
variable{X:Cx}{pins:List (Addr×Obj)}{σ:St}{H:Hp}{s:Shared}{a:Addr}{kvs:List (aB×V)}{k:aB}{u:Value}{A:Around}{E:Value->Shared->Prop}
theorem a8K{Q:Value->Shared->Prop}(I:Inv X pins σ H s)(e:Rd H a (.dK kvs))(h:∀t s',Inv X pins σ H s'->Q (.int kvs.length t) s'):wpAny (model X.prog X.w) A (call (.builtin "len") [.ref a]) Q E s:=by
 obtain⟨z,hd,vs,rel,dd⟩:=mO I.hok e
 refine call_len_dict hd dd (by rw[<- rel.length];rw[sizeLine_eq]at z;omega) ?_
 rw[<- rel.length]
 exact h _ _ (I.tok _)
end
def NoSl(i:Expr):Prop:=∀ov iv,subscripted i false ov iv=operate [ov,iv] (getItem ov iv)
theorem a6C{prog:Program}{w:World}{A:Around}{E:Value->Shared->Prop}{s:Shared}{env:Env}{value slice:Expr}{pos:Pos}{T id:String}{Q:Value->Shared->Prop}
 (hl:typeLookup (.type T) "__getitem__"=pure (some (.builtin id)))(hs:NoSl slice)
 (h:wpAny (model prog w) A (eval value env) (fun o s₁=>wpAny (model prog w) A (eval slice env) (fun i s₂=>s₂.TypeIs o T/\wpAny (model prog w) A (getItem o i) Q E s₂) E s₁) E s):
 wpAny (model prog w) A (eval (.Subscript value slice pos) env) Q E s:=by
 refine Subscript_ (wpAny_mono h (fun o s₁ h₁=>wpAny_mono h₁ (fun i s₂ h₂=> ?_) fun _ _ x=>x) fun _ _ x=>x)
 obtain⟨hT,h₂⟩:=h₂
 unfold subscriptTail
 refine wpAny_bind ?_
 rw[getitemInPython_of_ne hT.not_modules]
 refine wpAny_bind (wpAny_specialOf hT hl ?_)
 have fin:wpAny (model prog w) A (subscripted slice false o i) (fun r s₃=>wpAny (model prog w) A (letTemporaryGo value o r>>=fun _=>pure r) Q E s₃) E s₂:=by
  rw[hs o i]
  exact wpAny_operating (wpAny_mono h₂ (fun r s₃ h₃=>wpAny_bind (wpAny_letTemporaryGo (wpAny_pure h₃))) fun _ _ x=>x)
 first
  |exact wpAny_pure (wpAny_bind fin)
  |exact wpAny_bind (wpAny_pure (wpAny_bind fin))
  |exact wpAny_bind fin
theorem a5s{X:Cx}{pins:List (Addr×Obj)}{σ:St}{H:Hp}{s:Shared}{a:Addr}{y:V}{o:Option V}(I:Inv X pins σ H s)(g:cA H a y o):s.TypeIs (.ref a) "dict":=by
 rcases g with⟨kvs,k,e,_,_⟩|⟨kvs,k,b,e,_,_,_⟩
 ·obtain⟨_,_,vs,_,dd⟩:=mO I.hok e
  exact dd.typeIs
 ·obtain⟨_,_,xs,_,dd⟩:=nM I.hok e
  exact dd.typeIs
def a75(td ty:TE):TE:=fun σ H Q=>td σ H fun x H1=>ty σ H1 fun y H2=>∃a v,x= .ref a/\cA H2 a y (some v)/\Q v H2
def tDIn(ty td:TE):TE:=fun σ H Q=>ty σ H fun y H1=>td σ H1 fun x H2=>∃a o,x= .ref a/\cA H2 a y o/\Q (.bl o.isSome) H2
def a9l(ty td:TE):TE:=fun σ H Q=>ty σ H fun y H1=>td σ H1 fun x H2=>∃a o,x= .ref a/\cA H2 a y o/\Q (.bl (!o.isSome)) H2
def a67(td ty tv:TE):TS:=fun D σ H=>tv σ H fun v H1=>td σ H1 fun x H2=>ty σ H2 fun y H3=>∃a H4,x= .ref a/\hZ H3 a y v H4/\D.nx σ H4
section
variable{X:Cx}{o i e value:Expr}{pos pos' tpos:Pos}{td ty tv:TE}
theorem fY(hu:X.A.units+ 1<cLine)(ho:PE X o td)(hi:PE X i ty)(hs:NoSl i):PE X (.Subscript o i pos) (a75 td ty):=by
 intro pins s σ H Q I h
 refine a6C PySem.F.slot_dict_getitem.lookup hs (aS (ho pins s σ H _ I h) fun u s1 ⟨x,H1,I1,rx,q1⟩=>aS (hi pins s1 σ H1 _ I1 q1) fun iv s2 ⟨y,H2,I2,ry,a,v,ex,g,q2⟩=> ?_)
 subst ex
 obtain rfl:u=Value.ref a:=rx
 exact⟨a5s I2 g,a60 hu I2 g ry fun w' s3 I3 rw'=>⟨v,H2,I3,rw',q2⟩⟩
theorem oT(hu:X.A.units+ 1<cLine)(hi:PE X i ty)(ho:PE X o td):PC X .In i o (tDIn ty td):=by
 intro pins s σ H Q I h
 refine aS (hi pins s σ H _ I h) fun iv s1 ⟨y,H1,I1,ry,q1⟩=>aS (ho pins s1 σ H1 _ I1 q1) fun u s2 ⟨x,H2,I2,rx,a,ov,ex,g,q2⟩=> ?_
 subst ex
 obtain rfl:u=Value.ref a:=rx
 exact d_in hu I2 g ry fun s3 I3=>⟨.bl ov.isSome,H2,I3,rfl,q2⟩
theorem lN(hu:X.A.units+ 1<cLine)(hi:PE X i ty)(ho:PE X o td):PC X .NotIn i o (a9l ty td):=by
 intro pins s σ H Q I h
 refine aS (hi pins s σ H _ I h) fun iv s1 ⟨y,H1,I1,ry,q1⟩=>aS (ho pins s1 σ H1 _ I1 q1) fun u s2 ⟨x,H2,I2,rx,a,ov,ex,g,q2⟩=> ?_
 subst ex
 obtain rfl:u=Value.ref a:=rx
 exact a45 hu I2 g ry fun s3 I3=>⟨.bl (!ov.isSome),H2,I3,rfl,q2⟩
theorem jQ(hu:X.A.units+ 1<cLine)(ho:PE X o td)(hi:PE X i ty)(hv:PE X value tv)(hs:swapsWith value (some (.Subscript o i pos')) pos.line X.env=pure false):
 PS X (.Assign [.Subscript o i pos'] value pos) (a67 td ty tv):=by
 intro pins s σ H D I h
 refine wpAny_Assign_Subscript (aS (hv pins s σ H _ I h) fun r s1 ⟨v,H1,I1,rv,q1⟩=>aS (ho pins s1 σ H1 _ I1 q1) fun u s2 ⟨x,H2,I2,rx,q2⟩=>aS (hi pins s2 σ H2 _ I2 q2) fun iv s3 ⟨y,H3,I3,ry,a,H4,ex,g,q3⟩=> ?_) hs
 subst ex
 obtain rfl:u=Value.ref a:=rx
 exact a72 hu I3 g ry rv fun s4 I4=>⟨σ,H4,I4,q3⟩
end
theorem a7L{P:Program}{w:World}{H:Hp}(h:Heap)(hb:sysModules<h.objs.size):cV P w H (h.push {cls:=.type "dict",data:=.dict #[]}) h.objs.size (.dK []):=
 ⟨Nat.zero_le _,beq_eq_false_iff_ne.mpr (Ne.symm (Nat.ne_of_lt hb)),[],.nil,Heap.DictOf.new h⟩
theorem a6X{P:Program}{w:World}{H:Hp}(h:Heap)(hb:sysModules<h.objs.size):cV P w H (h.push {cls:=.type "dict",data:=.dict #[]}) h.objs.size (.dT []):=
 ⟨Nat.zero_le _,beq_eq_false_iff_ne.mpr (Ne.symm (Nat.ne_of_lt hb)),[],.nil,_,#[],0,Heap.get?_push_size _ rfl,⟨rfl,rfl,rfl⟩,rfl,rfl,List.nodup_nil⟩
def a8z:TE:=fun _ H Q=>∀p,H p=none->Q (.ref p) (upd H p (.dK []))
def a5o:TE:=fun _ H Q=>∀p,H p=none->Q (.ref p) (upd H p (.dT []))
section
variable{X:Cx}{pos:Pos}
theorem qD:PE X (.Dict [] [] pos) a8z:=fun pins s σ H Q I h=>
 wpAny_Dict_empty ⟨.ref s.heap.objs.size,_,I.laid (a:=s.heap.objs.size) (o:=.dK []) (t':=s.toks) (fun _ _ q=>Heap.get?_push_of_some _ q) (Nat.le_refl _) (a7L s.heap I.big),rfl,h _ (I.hok.fresh (Nat.le_refl _))⟩
theorem qI:PE X (.Dict [] [] pos) a5o:=fun pins s σ H Q I h=>
 wpAny_Dict_empty ⟨.ref s.heap.objs.size,_,I.laid (a:=s.heap.objs.size) (o:=.dT []) (t':=s.toks) (fun _ _ q=>Heap.get?_push_of_some _ q) (Nat.le_refl _) (a6X s.heap I.big),rfl,h _ (I.hok.fresh (Nat.le_refl _))⟩
end
def a2q:List (TE×TE)->St->Hp->(List (V×V)->Hp->Prop)->Prop
 | [],_,H,Q=>Q [] H
 |(tk,tv)::r,σ,H,Q=>tk σ H fun x H1=>tv σ H1 fun y H2=>a2q r σ H2 fun ps H3=>Q ((x,y)::ps) H3
abbrev VV:List (V×V)->List (Value×Value)->Prop:=Paired fun p q=>bG p.1 q.1/\bG p.2 q.2
def PPs(X:Cx)(pos:Pos)(keys:List (Option Expr))(values:List Expr)(trs:List (TE×TE)):Prop:=
 ∀(pins:List (Addr×Obj)) (s:Shared) (σ:St) (H:Hp) (Q:List (V×V)->Hp->Prop),Inv X pins σ H s->a2q trs σ H Q->
  wpAny (model X.prog X.w) X.A (evalPairs (pairTrees keys values X.env pos)) (fun vs s'=>∃ps H',Inv X pins σ H' s'/\VV ps vs/\Q ps H') X.xe s
structure M1(X:Cx)(o:Expr)(m:Str)(apos:Pos)(e:Expr)(cpos:Pos):Prop where
 base:attributeBase o m X.env (eval o X.env)=eval o X.env
 few:((backTo cpos (starEach [e] X.env)).all (fun x=> !x.1)&&(backToKw cpos (keywordEach [] X.env)).all (fun x=>x.1.isSome)
  &&decide (([e]:List Expr).length+ ([]:List Keyword).length+ (if([]:List Keyword).isEmpty then 0 else 1)<30))=true
 line:(apos.endLine==cpos.line)=true
 trees:backTo cpos (starEach [e] X.env)= [(false,eval e X.env)]
structure M2(X:Cx)(o:Expr)(m:Str)(apos:Pos)(e f:Expr)(cpos:Pos):Prop where
 base:attributeBase o m X.env (eval o X.env)=eval o X.env
 few:((backTo cpos (starEach [e,f] X.env)).all (fun x=> !x.1)&&(backToKw cpos (keywordEach [] X.env)).all (fun x=>x.1.isSome)
  &&decide (([e,f]:List Expr).length+ ([]:List Keyword).length+ (if([]:List Keyword).isEmpty then 0 else 1)<30))=true
 line:(apos.endLine==cpos.line)=true
 trees:backTo cpos (starEach [e,f] X.env)= [(false,eval e X.env),(false,eval f X.env)]
def IsD(H:Hp)(a:Addr):Prop:=(∃kvs,Rd H a (.dK kvs))\/ ∃kvs,Rd H a (.dT kvs)
theorem a82{X:Cx}{pins:List (Addr×Obj)}{σ:St}{H:Hp}{s:Shared}{a:Addr}(I:Inv X pins σ H s)(d:IsD H a):
 s.TypeIs (.ref a) "dict" /\(∀b,Value.ref a= .ref b->∃ob,s.heap.get? b=some ob/\ob.dict=none)/\(a==sysModules)=false:=by
 rcases d with⟨kvs,e⟩|⟨kvs,e⟩
 ·obtain⟨_,hd,vs,_,dd⟩:=mO I.hok e
  refine⟨dd.typeIs,fun b q=> ?_,hd⟩
  cases q
  obtain⟨ob,_,_,h1,h2,_⟩:=dd
  exact⟨ob,h1,h2.2.1⟩
 ·obtain⟨_,hd,xs,_,dd⟩:=nM I.hok e
  refine⟨dd.typeIs,fun b q=> ?_,hd⟩
  cases q
  obtain⟨ob,_,_,h1,h2,_⟩:=dd
  exact⟨ob,h1,h2.2.1⟩
section
variable{X:Cx}{pins:List (Addr×Obj)}{σ:St}{H:Hp}{s:Shared}{a:Addr}{y d:V}{u r:Value}{o:Option V}{A:Around}{E:Value->Shared->Prop}
theorem a8e{Q:Value->Shared->Prop}(hu:A.units+ 1<cLine)(I:Inv X pins σ H s)(g:cA H a y o)(ry:bG y u)(rd:bG d r)(h:∀w' s',Inv X pins σ H s'->bG (o.getD d) w'->Q w' s'):
 wpAny (model X.prog X.w) A (call (.builtin "dict.get") [.ref a,u,r]) Q E s:=by
 rcases g with⟨kvs,k,e,ey,l⟩|⟨kvs,k,b,e,ey,eb,l⟩
 ·subst ey
  obtain⟨z,hd,vs,rel,dd⟩:=mO I.hok e
  refine call_meetsIn PySem.F.slot_dict_get dd.typeIs PySem.F.entry_dict_get (PySem.F.args_dict_get_3 _ _ _) (meets_dict_get_default (fS X.prog X.w) a (oS ry) hd r) ⟨_,dd.mapOf,h _ _ (I.tok _) ?_⟩
  rw[l]
  exact(rel.val k).getD rd
 ·subst ey
  cases (show u=Value.ref b from ry)
  obtain⟨z,hd,xs,rel,dd⟩:=nM I.hok e
  refine call_meetsIn PySem.F.slot_dict_get dd.typeIs PySem.F.entry_dict_get (PySem.F.args_dict_get_3 _ _ _) (meetsH_dict_get_default (tupleKind (fS X.prog X.w)) a b hd r) ⟨tupleKind_room_in1 hu,k,xs,pV I.hok eb,dd,h _ _ (I.tok _) ?_⟩
  rw[l]
  exact(rel.val k).getD rd
end
def a80(td ty tx:TE):TE:=fun σ H Q=>td σ H fun x H1=>∃a,x= .ref a/\IsD H1 a/\ty σ H1 fun y H2=>tx σ H2 fun z H3=>∃o,cA H3 a y o/\Q (o.getD z) H3
section
variable{X:Cx}{o e f:Expr}{apos cpos:Pos}{td ty tx:TE}
theorem a4g(hu:X.A.units+ 1<cLine)(ho:PE X o td)(he:PE X e ty)(hf:PE X f tx)(m:M2 X o "get" apos e f cpos):PE X (.Call (.Attribute o "get" apos) [e,f] [] cpos) (a80 td ty tx):=by
 intro pins s σ H Q I h
 refine wpAny_Call_method m.base m.few m.line PySem.F.plainAttrs_dict PySem.F.slot_dict_get PySem.F.type_dict_get (aS (ho pins s σ H _ I h) ?_)
 rintro u s1 ⟨x,H1,I1,rx,a,ex,d,q1⟩
 subst ex
 obtain rfl:u=Value.ref a:=rx
 obtain⟨t1,t2,_⟩:=a82 I1 d
 refine⟨t1,t2,?_⟩
 rw[m.trees]
 refine Calls.callWith_builtin rfl (Calls.evalArgs_plain (Calls.spliced_cons (aS (he pins s1 σ H1 _ I1 q1) fun iv s2 ⟨y,H2,I2,ry,q2⟩=>
  Calls.spliced_cons (aS (hf pins s2 σ H2 _ I2 q2) fun fv s3 ⟨z,H3,I3,rz,ov,g,q3⟩=>Calls.spliced_nil ?_))))
 exact a8e hu I3 g ry rz fun w' s4 I4 rw'=>⟨_,H3,I4,rw',q3⟩
end
end L2
namespace Att
open PySem PySem.W PySem.Calls PyProof.Rows
theorem a7O{P:Params}{h:Heap}:∀(ns:List Int) (vs:List Value),WellAll P h vs (ns.map WData.int)->IntsAre vs ns:=by
 intro ns
 induction ns with
 |nil=>
  intro vs w
  rw[List.map_nil]at w
  cases w
  exact .nil
 |cons n ns ih=>
  intro vs w
  rw[List.map_cons]at w
  cases w with
  |cons a b=>
   cases a
   exact .cons _ _ (ih _ b)
theorem a5w{l:OpenLaw}{n:Nat}(hn:l.most=some n){P:Params}{h:Heap}{args:List WData}{vals:List Value}
 (hpre:l.row.toRowW.claim.pre args=true)(hwl:WellAll P h vals args):
 ∃a vs ns,vals= [Value.ref a] /\args= [WData.list (ns.map WData.int)] /\h.get? a=some {cls:=.type "list",data:=.seq vs.toArray} /\IntsAre vs ns/\ns.length<=n:=by
 have hsh:WShape.hasAll [] args [.list .int]=true:=(pre_splitW hpre).1
 have hc:l.pre.holds [] {args:=args}=true:=(pre_splitW hpre).2
 obtain⟨d,r,rfl,h1,h2⟩:=hasAllW_cons hsh
 obtain rfl:=hasAllW_nil h2
 obtain⟨xs,rfl,h3⟩:=hasW_list h1
 obtain⟨ns,rfl⟩:=items_int h3
 have hlen:ns.length<=n:=by
  unfold OpenLaw.pre at hc
  have h4:(WTm.not (.lt (.lit (.int (n:Int))) (.len (.arg 0)))).holds [] {args:=[.list (ns.map .int)]}=true:=by
   have h4:=(holds_andW hc).1
   rw[hn]at h4
   exact h4
  have h5:=condW_of h4 (w_not (w_lt w_lit (w_len_list (w_arg rfl))))
  rw[List.length_map]at h5
  refine Nat.le_of_not_lt fun q=> ?_
  have q':(n:Int)<((ns.length:Nat):Int):=by omega
  first
   |(rw[decide_eq_true q']at h5;exact absurd h5 (by decide))
   |(simp at h5;omega)
 cases hwl with
 |cons w1 w2=>
  cases w2
  cases w1 with
  |list ho hall=>exact⟨_,_,ns,rfl,rfl,ho,a7O ns _ hall,hlen⟩
theorem a8H(l:OpenLaw)(args:List WData):l.row.toRowW.claim.post args (.bool true) args=true:=
 postW_of (r:=l.row.toRowW) (X:=(true==true))
  (show WShape.has [] (.bool true) .bool=true by first|rfl|decide|simp[WShape.has,WShape.arms,WShape.armsAll])
  (show(WTm.eq .res (.lit (.bool true))).value [] {args:=args,res:=some (.bool true),after:=args}=some (.bool (true==true)) from w_eq_bool (w_res rfl) w_lit) rfl
theorem attach_call{l:OpenLaw}{n:Nat}{q:Program}{loose:List Str}{XP:(Str->Option Value)->Heap->Prop}{YP:World->Heap->Prop}{d:DefRec}
 (hn:l.most=some n)(hdf:d.params.defaults= [])
 (call:∀(w:World) (s₀ s₁:Shared) (mg mb:Str->Option Value) (fa:Addr) (o:Obj) (pm cd doc:Value) (a:Addr) (vs:List Value) (ns:List Int),
  Ground q loose [] XP w s₀ mg mb s₁.heap->YP w s₁.heap->
  s₁.heap.get? fa=some o->o.data= .func (docDef d.name d.params d.body d.scope pm cd doc)->s₁.heap.CodeRec cd d.name->mg d.name=some (.ref fa)->
  s₁.heap.get? a=some {cls:=.type "list",data:=.seq vs.toArray} ->IntsAre vs ns->ns.length<=n->s₁.gens= #[] ->
  codeAny (model l.prog w) callerA (.call (.ref fa) ⟨[.ref a],[]⟩) (fun r s'=>r= .ok (.ret (.bool true))/\OldK s₁.heap s'.heap/\s'.os=s₁.os/\AllBare s'.gens) s₁):
 WalkO q loose XP YP l.row.toRowW d [] (fun f vs=>PySem.call f vs):=by
 intro w s₀ s₁ mg mb G Y fa o pm cd doc dV kV ho hd hcd hD hmg hg args vals as hpre hlay hrd hwl hlo
 obtain rfl:dV= .none:=Dflts.none hD hdf
 obtain rfl:kV= .none:=Dflts.noKw hD
 obtain⟨a,vs,ns,rfl,rfl,hobj,hints,hlen⟩:=a5w hn hpre hwl
 refine enter_call (codeAny_mono (call w s₀ s₁ mg mb fa o pm cd doc a vs ns G Y ho (fd_plain hd) hcd hmg hobj hints hlen hg) fun r s' hq=> ?_)
 obtain⟨rfl,h2,h3,h4⟩:=hq
 exact⟨.inl ⟨.bool true,.bool true,[],rfl,fun _=>rfl,.bool true,a8H l _,fun _=>⟨List.Pairwise.nil,fun _ hm=>(nomatch hm)⟩⟩,h2,h3,h4⟩
section
variable{prog:Program}{w:World}{A:Around}{E:Value->Shared->Prop}{s:Shared}{K:Frag}
noncomputable def ledger(h:Heap)(L d:Addr):List (Addr×Obj):=(List.range h.objs.size).filterMap fun a=>if a=L\/ a=d then none else(h.get? a).map fun o=>(a,o)
end
end Att
namespace L2
open PySem PySem.Spec PyProof.Rows
theorem a0b:∀{vs:List Value} {ns:List Int},IntsAre vs ns->bE (ns.map V.int) vs
 |_,_,.nil=> .nil
 |_,_,.cons n t h=> .cons ⟨t,rfl⟩ (a0b h)
def jE(s:Stmt):Arguments:=match s with
 | .FunctionDef _ a _ _ _ _ _ _ _ _=>a
 |_=>{posonlyargs:=[],args:=[],vararg:=none,kwonlyargs:=[],kw_defaults:=[],kwarg:=none,defaults:=[]}
def eG(s:Stmt):List Stmt:=match s with
 | .FunctionDef _ _ b _ _ _ _ _ _ _=>b
 |_=> []
def aN(s:Stmt):Scope:=match s with
 | .FunctionDef _ _ _ _ _ _ sc _ _ _=>sc
 |_=>{kind:=.function,names:=[],isGenerator:=false,isCoroutine:=false}
abbrev aC:fI:=fun _ _ _ _ _ _=>False
abbrev E0:XK:=fun _ _ _=>False
theorem aM{X:Cx}:iF aC X E0:=fun _ _ _ _ _ _ _ h=>h.elim
structure iZ(K:Fg)(x qual:Str)(st:Stmt)(f:Addr)(fd:FuncData):Prop where
 ex:∃(oc:Value) (od:Option Addr) (kV doc pm:Value) (an:Option Addr) (cdv ct:Value) (osl:Array (Option Value)),
  fd=PySem.W.fnOf x qual (jE st) (eG st) (aN st) .none kV doc pm an cdv ct/\K.lookup f=some ⟨oc,od,.func fd,osl⟩ /\PySem.W.codeIn K cdv qual=true
 kp:PySem.W.keepIn K (.ref f)=true
section
variable{P:Program}{w:World}{K:Fg}{mg:Str->Option Value}{base:Heap}
theorem iZ.ok{x qual:Str}{st:Stmt}{f:Addr}{fd:FuncData}{N ps:List Str}{k:Nat}{sp:Sp}(F:iZ K x qual st f fd)(S:aV N ps (aN st))(len:∀vs H Q E,sp vs H Q E->vs.length=ps.length)
 (hbody:∀(cdv:Value) (A:Around) (outer:List Env) (s:Shared) (H:Hp) (vs:List V) (Q:VK) (E:XK),bT k (A.deeper (envOfC qual (aN st) s.heap.objs.size f cdv))->sp vs H Q E->
  ∃t,eE (cY aC P w K mg base N qual (aN st) f cdv A outer s H E).nox (eG st) t/\t {nx:=fun _ H'=>Q .non H',rt:=Q} (start N vs) H):eX P w K mg base aC (k+ 1) f fd ps sp:=by
 obtain⟨oc,od,kV,doc,pm,an,cdv,ct,osl,rfl,lk,hcd⟩:=F.ex
 refine vG lk hcd S len fun A outer s H vs Q E hr hsp=> ?_
 obtain⟨t,h,q⟩:=hbody cdv A outer s H vs Q E hr hsp
 exact⟨t,h.nox,q⟩
theorem iZ.binds{x qual:Str}{st:Stmt}{f:Addr}{fd:FuncData}{ps:List Str}(F:iZ K x qual st f fd)
 (h:∀(kV doc pm:Value) (an:Option Addr) (cdv ct:Value) (us:List Value),us.length=ps.length->bindArgs (PySem.W.fnOf x qual (jE st) (eG st) (aN st) .none kV doc pm an cdv ct) ⟨us,[]⟩=pure (ps.zip us)):iJ K fd ps []:=by
 obtain⟨oc,od,kV,doc,pm,an,cdv,ct,osl,rfl,lk,hcd⟩:=F.ex
 exact .all (h kV doc pm an cdv ct)
theorem uL{x qual:Str}{st:Stmt}{f:Addr}{oc:Value}{od an:Option Addr}{osl:Array (Option Value)}{kV doc pm cdv ct:Value}(l:K.lookup f=some ⟨oc,od,.func (PySem.W.fnOf x qual (jE st) (eG st) (aN st) .none kV doc pm an cdv ct),osl⟩)
 (c:PySem.W.codeIn K cdv qual=true)(k:PySem.W.keepIn K (.ref f)=true):iZ K x qual st f (PySem.W.fnOf x qual (jE st) (eG st) (aN st) .none kV doc pm an cdv ct):=⟨⟨oc,od,kV,doc,pm,an,cdv,ct,osl,rfl,l,c⟩,k⟩
end
theorem eB{A:Around}{k:Nat}(hr:bT k A):A.units+ 1<cLine:=Nat.lt_of_le_of_lt (Nat.add_le_add_left (by decide:1<=64) _) hr.units
theorem cQ{n:Nat}(h:n<=1000):n<sizeLine:=Nat.lt_of_le_of_lt h (by decide)
section
variable{X:Cx}
theorem pv(i:Nat){x:Str}{pos:Pos}(hN:X.N[i]?=some x:=by rfl)(hv:uD X.env.scope x:=by first|exact Or.inl rfl|exact Or.inr (Or.inl rfl)|exact Or.inr (Or.inr rfl))(hd:(x==("__debug__":Str))=false:=by decide)
 (hcd:(x==("__classdict__":Str))=false:=by decide):PE X (.Name x pos) (fN i):=a20 hN hv hd hcd
theorem a2Z:iE X (.builtin "len") (fun xs H Q=>∃a kvs,xs= [V.ref a] /\H a=some (.dK kvs)/\Q (.int kvs.length) H):=by
 intro pins s σ H xs us Q I r h
 obtain⟨a,kvs,rfl,ha,q⟩:=h
 obtain⟨u,rfl,ru⟩:=mN r
 cases ru
 exact a8K I (.inl ha) fun t s' I'=>⟨.int kvs.length,H,I',⟨t,rfl⟩,q⟩
end
theorem bK{A B:Prop}(h:B):if false=true then A else B:=by
 rw[if_neg Bool.false_ne_true]
 exact h
theorem cD{A B:Prop}(h:A):if true=true then A else B:=by
 rw[if_pos rfl]
 exact h
theorem dL{c A B:Prop} [Decidable c](h1:c->A)(h2:¬c->B):if c then A else B:=by
 by_cases h:c
 ·rw[if_pos h]
  exact h1 h
 ·rw[if_neg h]
  exact h2 h
def aD(H H':Hp):Prop:=∀b o,H b=some o->H' b=some o
theorem aD.refl(H:Hp):aD H H:=fun _ _ h=>h
theorem aD.trans{H H1 H2:Hp}(a:aD H H1)(b:aD H1 H2):aD H H2:=fun c o h=>b c o (a c o h)
theorem aD.seq{K:Fg}{H H':Hp}{a:Addr}{xs:List V}(e:aD H H')(h:aO K H a xs):aO K H' a xs:=by
 rcases h with(h|⟨o,h⟩)|h
 ·exact .inl (.inl (e _ _ h))
 ·exact .inl (.inr ⟨o,e _ _ h⟩)
 ·exact .inr h
section
variable{κ:Type} [DecidableEq κ]
theorem a6Q{kvs:List (κ×V)}{k:κ}(h:aQ kvs k=none):¬k∈kvs.map (·.1):=by
 intro m
 obtain⟨p,hp,e⟩:=List.mem_map.mp m
 have q:(kvs.any fun kv=>decide (kv.1=k))=true:=List.any_eq_true.mpr ⟨p,hp,decide_eq_true e⟩
 rw[nZ,h]at q
 exact absurd q (by simp)
theorem a0E:∀{l:List κ} {k:κ},l.Nodup->¬k∈l->(l++ [k]).Nodup
 | [],k,_,_=>by simp
 |a::r,k,h,hk=>by
  obtain⟨h1,h2⟩:=List.nodup_cons.mp h
  show(a::(r++ [k])).Nodup
  refine List.nodup_cons.mpr ⟨fun m=> ?_,a0E h2 fun m=>hk (List.mem_cons.mpr (Or.inr m))⟩
  rcases List.mem_append.mp m with q|q
  ·exact h1 q
  ·exact hk (List.mem_cons.mpr (Or.inl (List.mem_singleton.mp q).symm))
theorem a1H{kvs:List (κ×V)}{k:κ}(v:V)(hn:(kvs.map (·.1)).Nodup)(h:aQ kvs k=none):((aR kvs k v).map (·.1)).Nodup:=by
 rw[wT v h,List.map_append]
 exact a0E hn (a6Q h)
end
section
variable{X:Cx}{a b c:Expr}{ta tb tc:TE}{pos:Pos}
theorem oC{x:Str}{i:Int}(h:∃t,X.mg x=some (.int i t))(hg:Gl X x:=by rfl)(hd:(x==("__debug__":Str))=false:=by decide):PE X (.Name x pos) (tC (.int i)):=by
 obtain⟨t,h⟩:=h
 exact wQ hg h ⟨t,rfl⟩ hd
theorem a7k{x z:Str}(h:∃t,X.mg x=some (.str z t))(hg:Gl X x:=by rfl)(hd:(x==("__debug__":Str))=false:=by decide):PE X (.Name x pos) (tC (.str z)):=by
 obtain⟨t,h⟩:=h
 exact wQ hg h ⟨t,rfl⟩ hd
theorem yR{x:Str}{f:Addr}(h:X.mg x=some (.ref f))(hg:Gl X x:=by rfl)(hd:(x==("__debug__":Str))=false:=by decide):PE X (.Name x pos) (tC (.ref f)):=wQ hg h rfl hd
theorem iB{x:Str}{T:String}(hm:X.mg x=none)(hv:bootBuiltins x=some (.type T))(hg:Gl X x:=by rfl)(hn:x≠ "__name__":=by decide)(hd:(x==("__debug__":Str))=false:=by decide):PE X (.Name x pos) (tC (.ty T)):=a41 hg hm hv rfl hn hd
end
mutual
inductive Dt(K:Fg)(H:Hp):V->PyData->Prop where
 |non:Dt K H .non .none
 |bl (b:Bool):Dt K H (.bl b) (.bool b)
 |int (i:Int):Dt K H (.int i) (.int i)
 |str (x:Str):Dt K H (.str x) (.str x)
 |lst {a:Addr} {xs:List V} {ds:List PyData}:aO K H a xs->dD K H xs ds->Dt K H (.ref a) (.list ds)
 |tup {a:Addr} {xs:List V} {ds:List PyData}:bW K H a xs->dD K H xs ds->Dt K H (.ref a) (.tuple ds)
 |dK {a:Addr} {kvs:List (aB×V)}:H a=some (.dK kvs)->Dt K H (.ref a) (.dict [])
 |dT {a:Addr} {kvs:List (List aB×V)}:H a=some (.dT kvs)->Dt K H (.ref a) (.dict [])
inductive dD(K:Fg)(H:Hp):List V->List PyData->Prop where
 |nil:dD K H [] []
 |cons {v:V} {d:PyData} {vs:List V} {ds:List PyData}:Dt K H v d->dD K H vs ds->dD K H (v::vs) (d::ds)
end
section
variable{X:Cx}{pins:List (Addr×Obj)}{σ:St}{H H':Hp}{s:Shared}
mutual
theorem Dt.reads(I:Inv X pins σ H s):∀{v:V} {d:PyData} {u:Value},Dt X.K H v d->bG v u->d.canLay0=true->∃as,Reads s.heap u d as
 |_,_,_,.non,r,_=>by cases r;exact⟨_,.none⟩
 |_,_,_,.bl b,r,_=>by cases r;exact⟨_,.bool b⟩
 |_,_,_,.int i,r,_=>by obtain⟨t,rfl⟩:=r;exact⟨_,.int i t⟩
 |_,_,_,.str x,r,_=>by obtain⟨t,rfl⟩:=r;exact⟨_,.str x t⟩
 |_,_,_,.lst h hd,r,l=>by
  cases r
  obtain⟨its,rv,⟨o,n,e,hc,_,hs⟩,_⟩:=I.list h
  obtain⟨as,ra⟩:=dD.reads I hd rv (by rw[PyData.canLay0]at l;exact l)
  exact⟨_,.list e hc hs (by simpa using ra)⟩
 |_,_,_,.tup h hd,r,l=>by
  cases r
  obtain⟨its,rv,⟨o,e,hc,n,hs⟩,_⟩:=I.tuple h
  obtain⟨as,ra⟩:=dD.reads I hd rv (by rw[PyData.canLay0]at l;exact l)
  exact⟨_,.tuple e hc hs (by simpa using ra)⟩
 |_,_,_,.dK _,_,l=>by rw[PyData.canLay0]at l;cases l
 |_,_,_,.dT _,_,l=>by rw[PyData.canLay0]at l;cases l
theorem dD.reads(I:Inv X pins σ H s):∀{vs:List V} {ds:List PyData} {us:List Value},dD X.K H vs ds->bE vs us->PyData.canLayAll0 ds=true->∃as,ReadsAll s.heap us ds as
 |_,_,_,.nil,r,_=>by cases r;exact⟨_,.nil⟩
 |_,_,_,.cons h hd,r,l=>by
  rw[PyData.canLayAll0,Bool.and_eq_true]at l
  cases r with
  |cons r1 rr=>
   obtain⟨as,ra⟩:=Dt.reads I h r1 l.1
   obtain⟨bs,rb⟩:=dD.reads I hd rr l.2
   exact⟨_,.cons ra rb⟩
end
theorem aD.seqT{K:Fg}{a:Addr}{xs:List V}(e:aD H H')(h:bW K H a xs):bW K H' a xs:=by
 rcases h with(h|⟨o,h⟩)|h
 ·exact .inl (.inl (e _ _ h))
 ·exact .inl (.inr ⟨o,e _ _ h⟩)
 ·exact .inr h
mutual
theorem Dt.same{K:Fg}(e:aD H H'):∀{v:V} {d:PyData},Dt K H v d->Dt K H' v d
 |_,_,.non=> .non
 |_,_,.bl b=> .bl b
 |_,_,.int i=> .int i
 |_,_,.str x=> .str x
 |_,_,.lst h hd=> .lst (e.seq h) (dD.same e hd)
 |_,_,.tup h hd=> .tup (aD.seqT e h) (dD.same e hd)
 |_,_,.dK h=> .dK (e _ _ h)
 |_,_,.dT h=> .dT (e _ _ h)
theorem dD.same{K:Fg}(e:aD H H'):∀{vs:List V} {ds:List PyData},dD K H vs ds->dD K H' vs ds
 |_,_,.nil=> .nil
 |_,_,.cons h hd=> .cons (Dt.same e h) (dD.same e hd)
end
theorem dD.get{K:Fg}:∀{vs:List V} {ds:List PyData} {i:Nat} {v:V},dD K H vs ds->vs[i]?=some v->∃d,ds[i]?=some d/\Dt K H v d
 |_,_,_,_,.nil,e=>by simp at e
 |_,_,0,_,.cons h _,e=>by simp at e;subst e;exact⟨_,rfl,h⟩
 |_,_,i+ 1,v,.cons _ t,e=>by
  obtain⟨d,h1,h2⟩:=dD.get (i:=i) (v:=v) t (by simpa using e)
  exact⟨d,by simpa using h1,h2⟩
theorem dD.length{K:Fg}:∀{vs:List V} {ds:List PyData},dD K H vs ds->vs.length=ds.length
 |_,_,.nil=>rfl
 |_,_,.cons _ t=>by rw[List.length_cons,List.length_cons,dD.length t]
theorem pY(hu:X.A.units+ 64<cLine):cX X (compareOp .Eq) (fun x y H Q=>∃dx dy,Dt X.K H x dx/\Dt X.K H y dy/\dx.canLay0=true/\dy.canLay0=true/\dx.depth<=64/\Q (.bl (PyData.eqv dx dy)) H):=by
 intro pins s σ H x y v u Q I rx ry h
 obtain⟨dx,dy,hx,hy,lx,ly,hd,q⟩:=h
 obtain⟨as,ra⟩:=Dt.reads I hx rx lx
 obtain⟨bs,rb⟩:=Dt.reads I hy ry ly
 exact SeqAt.compareEq_reads ra rb lx ly (by have:=Nat.min_le_left dx.depth dy.depth;omega) ⟨.bl _,H,I,rfl,q⟩
theorem lV(hu:X.A.units+ 64<cLine):cX X (compareOp .NotEq) (fun x y H Q=>∃dx dy,Dt X.K H x dx/\Dt X.K H y dy/\dx.canLay0=true/\dy.canLay0=true/\dx.depth<=64/\Q (.bl (!PyData.eqv dx dy)) H):=by
 intro pins s σ H x y v u Q I rx ry h
 obtain⟨dx,dy,hx,hy,lx,ly,hd,q⟩:=h
 obtain⟨as,ra⟩:=Dt.reads I hx rx lx
 obtain⟨bs,rb⟩:=Dt.reads I hy ry ly
 exact SeqAt.compareNe_reads ra rb lx ly (by have:=Nat.min_le_left dx.depth dy.depth;omega) ⟨.bl _,H,I,rfl,q⟩
end
noncomputable def sT (x:Str):It:=⟨fun i _=>i<x.cps.size,fun i H v H'=>H'=H/\∃c,x.cps[i]?=some c/\v= .str ⟨#[c]⟩,fun i _=>x.cps.size<=i⟩
theorem a7D{P:Program}{w:World}{K:Fg}{tg:Expr}(it:Addr)(x:Str)(t:Tok):∀ty:String,(ty= "str_ascii_iterator"\/ ty= "str_iterator")->mK P w K tg (sT x) [it] it (fun i h=>h.IsStrIter it ty x t i):=by
 intro ty hty
 refine⟨by simp,?_,?_,?_,?_,?_⟩
 ·intro i h st b hb
  have e:b=it:=by simpa using hb
  subst e
  obtain⟨o,e,c,d⟩:=st
  exact⟨o,e,fun v z=>by rw[d]at z;cases z⟩
 ·intro i h h' st k
  obtain⟨o,e,c,d⟩:=st
  exact⟨o,k it (by simp) o e,c,d⟩
 ·intro X hP hw hK hc i pins s σ H E I hf st hg
  subst hP hw hK
  obtain⟨f0,f1,f2,f3,f4,f5⟩:=hf it (by simp)
  have hi:i<x.cps.size:=hg
  have hx:x.cps[i]?=some x.cps[i]:=by simp[hi]
  have fin:∀h',h'.IsStrIter it ty x t (i+ 1)->Heap.SameBut it s.heap h'->∃u,some (Value.str ⟨#[x.cps[i]]⟩ s.toks)=some u/\
   wpAny (model X.prog X.w) X.A (letOwnedTupleGo tg (.ref it) u) (fun _ s2=>∃y H',Inv X pins σ H' s2/\bG y u/\(sT x).yld i H y H'/\s2.heap.IsStrIter it ty x t (i+ 1)/\∀b∈ [it],H' b=none) E {s with heap:=h',toks:=s.toks+ 1}:=by
   intro h' st' sb
   have I1:Inv X pins σ H {s with heap:=h',toks:=s.toks+ 1}:=I.turned (fun b o hb e=>(sb.2 b hb).trans e) f0 f1 f3 f4 f5
   obtain⟨o,e,c,d⟩:=id st'
   refine⟨_,rfl,uP (s:={s with heap:=h',toks:=s.toks+ 1}) e c d ?_ ⟨.str ⟨#[x.cps[i]]⟩,H,I1,⟨_,rfl⟩,⟨rfl,_,hx,rfl⟩,st',fun b hb=>(hf b hb).1⟩⟩
   rcases hty with rfl|rfl<;>decide
  rcases hty with rfl|rfl
  ·exact wpAny_pyNext_ascii_item st hx fin
  ·exact wpAny_pyNext_wide_item st hx fin
 ·intro X hP hw hK hc i pins s σ H E I hf st hg
  subst hP hw hK
  obtain⟨f0,f1,f2,f3,f4,f5⟩:=hf it (by simp)
  have hi:x.cps.size<=i:=hg
  have hx:x.cps[i]?=none:=by simp[hi]
  have fin:∀h',Heap.ExtBut it s.heap h'->(none:Option Value)=none/\Inv X pins σ H {s with heap:=h'}:=fun h' eb=>⟨rfl,I.turned (t':=s.toks) (fun b o hb e=>eb b o hb e) f0 f1 f3 f4 f5⟩
  rcases hty with rfl|rfl
  ·exact wpAny_pyNext_ascii_end (I.ok.hd hc) st hx fin
  ·exact wpAny_pyNext_wide_end (I.ok.hd hc) st hx fin
 ·intro A i s Q E st h
  rcases hty with rfl|rfl
  ·exact wpAny_pyIter_striter_ascii st h
  ·exact wpAny_pyIter_striter_wide st h
section
variable{X:Cx}{tg:Expr}
def iStr(tl:TE):TI:=fun σ H R=>tl σ H fun v H1=>∃x,v= .str x/\R (sT x) H1
theorem a9k{l:Expr}{tl:TE}(hl:PE X l tl):PI X tg l (iStr tl):=by
 intro pins s σ H R I h
 refine aS (hl pins s σ H _ I h) ?_
 rintro v s1 ⟨y,H1,I1,r1,q1⟩
 obtain⟨x,e,q⟩:=q1
 subst e
 obtain⟨t,rfl⟩:=r1
 have fin:∀ty:String,(ty= "str_ascii_iterator"\/ ty= "str_iterator")->xD X pins σ tg R (.ref s1.heap.objs.size) {s1 with heap:=s1.heap.push {cls:=.type ty,data:=.fields #[.str x t,.int 0 0]}}:=fun ty hty=>by
  refine⟨s1.heap.objs.size,[s1.heap.objs.size],_,_,H1,rfl,I1.kept (t':=s1.toks) fun b o e=>Heap.get?_push_of_some _ e,a7D _ x t ty hty,⟨_,Heap.get?_push_size _ rfl,rfl,rfl⟩,fun b hb=> ?_,q⟩
  have e:b=s1.heap.objs.size:=by simpa using hb
  subst e
  exact I1.fpOk (Nat.le_refl _) (I1.hok.fresh (Nat.le_refl _))
 cases ha:x.cps.all (·<128)
 ·exact wpAny_pyIter_wide ha (fin _ (.inr rfl))
 ·exact wpAny_pyIter_ascii ha (fin _ (.inl rfl))
end
section
variable{prog:Program}{w:World}{A:Around}{R:Result->Shared->Prop}{s:Shared}
theorem a2K{elt target iter:Expr}{ifs:List Expr}{scope:Scope}{pos:Pos}{it acc:Value}{env:Env}(I:Nat->Shared->Prop)
 (turn:∀n s,I n s->wpAny (model prog w) A (pyNext it) (fun r s₁=>match r with
  |none=>R (.ok .next) s₁
  |some v=>wpAny (model prog w) A (letOwnedTupleGo target it v) (fun _ s₁'=>wpAny (model prog w) A (assign target env v) (fun _ s₂=>
   wpAny (model prog w) A (forIn ifs true fun c r=>if r=true then do let ok<- isTrue c env (eval c env);pure (ForInStep.yield ok) else pure (ForInStep.yield r)) (fun ok s₃=>
    if ok=true then wpAny (model prog w) A (eval elt env) (fun x s₄=>
     wpAny (model prog w) A (call (.builtin "list.append") [acc,x]) (fun _ s₅=>∃m,m<n/\I m s₅) (fun _ _=>False) s₄) (fun _ _=>False) s₃
    else∃m,m<n/\I m s₃) (fun _ _=>False) s₂) (fun _ _=>False) s₁') (fun _ _=>False) s₁) (fun _ _=>False) s)
 (n:Nat)(h:I n s):
 codeAny (model prog w) A (.compLoop (.ListComp elt [⟨target,iter,ifs,0⟩] scope pos) 0 it acc env) R s:=by
 refine codeAny_loop rfl I (fun n s hI=> ?_) n h
 show wpAny _ A ((compTurn (.ListComp elt [⟨target,iter,ifs,0⟩] scope pos) 0 it acc env).onRaise (fun x=>do noteFrame x env;theTreesLotGoes x)) _ _ s
 refine wpAny_noted ?_
 rw[compTurn_list]
 refine wpAny_bind (wpAny_standAt (wpAny_bind (wpAny_mono (turn n s hI) (fun r s₁ h₁=> ?_) fun _ _ h'=>h'.elim)))
 cases r with
 |none=>exact wpAny_pure h₁
 |some v=>
  refine wpAny_bind (wpAny_mono h₁ (fun _ s₁' h₁'=> ?_) fun _ _ h'=>h'.elim)
  refine wpAny_bind (wpAny_mono h₁' (fun _ s₂ h₂=>wpAny_bind (wpAny_mono h₂ (fun ok s₃ h₃=> ?_) fun _ _ h'=>h'.elim)) fun _ _ h'=>h'.elim)
  cases ok with
  |false=>exact wpAny_pure ⟨rfl,h₃⟩
  |true=>
   exact wpAny_bind (wpAny_bind (wpAny_mono h₃ (fun x s₄ h₄=>wpAny_bind (wpAny_mono h₄ (fun _ s₅ h₅=>wpAny_pure (wpAny_pure ⟨rfl,h₅⟩)) fun _ _ h'=>h'.elim)) fun _ _ h'=>h'.elim))
end
noncomputable def fO (X:Cx) (scope:Scope) (cl:List (Str×Addr)) (C:Addr) (N':List Str) (fp:List Addr) (pins:List (Addr×Obj)) (s:Shared) (H:Hp):Cx where
 prog:=X.prog
 w:=X.w
 K:=X.K
 mg:=X.mg
 base:=X.base
 A:=X.A
 N:=N'
 s₀:=s
 H₀:=H
 env:=compEnvC scope cl C X.env
 outer:=X.stack
 stack:=X.stack
 ex:=fp
 calm:=X.calm
 fn:=fun _=>false
 pn:=X.pn++ pins
 xe:=fun _ _=>False
structure kO(X:Cx)(scope:Scope)(cl:List (Str×Addr))(cp:List (Nat×Str)):Prop where
 kind:scope.kind= .function
 nocell:∀y∈scope.names,y.2≠ .cell
 names:∀y∈scope.names,y.2= .local->scope.names.lookup y.1=some .local
 clos:closureFor scope X.env=pure cl
 sub:∀x c,cl.lookup x=some c->X.env.cells.lookup x=some c
 has:∀x,((relabel scope X.env).names.lookup x=some .cell\/ (relabel scope X.env).names.lookup x=some .free)->∃c,cl.lookup x=some c
 at':∀p∈cp,X.N[p.1]?=some p.2/\(X.env.scope.names.lookup p.2=some .cell\/ X.env.scope.names.lookup p.2=some .free)/\((relabel scope X.env).names.lookup p.2=some .cell\/ (relabel scope X.env).names.lookup p.2=some .free)
noncomputable def dG (cp:List (Nat×Str)) (σ:St):St:=cp.map fun p=>(σ[p.1]?).getD none
section
variable{X:Cx}{pins:List (Addr×Obj)}{σ:St}{H:Hp}{s:Shared}{scope:Scope}{cl:List (Str×Addr)}{cp:List (Nat×Str)}{fp:List Addr}{x:Str}
theorem a9y(I:Inv X pins σ H s)(c:kO X scope cl cp)(hf:∀b∈fp,fF X pins H b)(hfo:∀b∈fp,b<s.heap.objs.size){h':Heap}{ty:String}{tk:Nat}{m:Str->Option Value}(hm:h'.Ns s.heap.objs.size m)
 (sb:Heap.SameBut s.heap.objs.size (s.heap.push {cls:=.type ty,data:=.dict #[]}) h'):
 Inv (fO X scope cl s.heap.objs.size (x::cp.map (·.2)) fp pins s H) [] (none::dG cp σ) H {s with heap:=h',toks:=tk}:=by
 have old:∀b o,s.heap.get? b=some o->h'.get? b=some o:=fun b o e=>(sb.2 b (Nat.ne_of_lt (Heap.lt_size e))).trans (Heap.get?_push_of_some _ e)
 have hC:H s.heap.objs.size=none:=I.hok.fresh (Nat.le_refl _)
 refine⟨⟨I.ok.mod,c.kind,I.ok.glob,I.ok.blt,Nat.le_refl _,fun y z k h1 h2=>I.ok.inj y z k (c.sub _ _ h1) (c.sub _ _ h2),c.has,fun y k z=>(Bool.noConfusion z),I.ok.hd,I.ok.frames,.inl rfl,fun b hb=> ?_,fun b o e=>I.bs b o e,Nat.le_trans I.ok.bsz I.sz,fun b o e hb=> ?_,fun b hb hz=> ?_,I.stack,I.stkFree⟩,
  rfl,I.bare,Un.kept old,⟨m,hm,fun i y v h1 h2 h3=> ?_⟩,fun y k e=> ?_,hC,fun y k e=>I.freeC y k (c.sub y k e),fun p hp=> ?_,I.hok.kept old,?_⟩
 ·obtain⟨f0,f1,f2,f3,f4,f5⟩:=hf b hb
  exact⟨Nat.ne_of_lt (hfo b hb),fun y k e=>f4 y k (c.sub y k e)⟩
 ·obtain⟨f0,f1,f2,f3,f4,f5⟩:=hf b hb
  rcases f3 with z|z
  ·exact I.ok.noex b o e z
  ·exact absurd (Nat.lt_of_lt_of_le (Heap.lt_size (I.ok.bs b o e).1) z) (Nat.lt_irrefl _)
 ·obtain⟨f0,f1,f2,f3,f4,f5⟩:=hf b hb
  rcases List.mem_cons.mp (I.stkSub b hz)with e|e
  ·exact f1 e
  ·exact f2 e
 ·cases i with
  |zero=>simp at h2
  |succ i=>
   have h1':(cp.map (·.2))[i]?=some y:=by
    have z:(x::cp.map (·.2))[i+ 1]?=some y:=h1
    rw[List.getElem?_cons_succ]at z
    exact z
   have h2':(dG cp σ)[i]?=some (some v):=by simpa using h2
   unfold dG at h2'
   rw[List.getElem?_map]at h1' h2'
   cases e:cp[i]? with
   |none=>rw[e]at h1';cases h1'
   |some p=>
    rw[e]at h1' h2'
    simp only[Option.map_some,Option.some.injEq]at h1' h2'
    obtain⟨k1,k2,k3⟩:=c.at' p (List.mem_of_getElem? e)
    subst h1'
    have h2'':σ[p.1]?=some (some v):=by
     cases q:σ[p.1]? with
     |none=>rw[q]at h2';cases h2'
     |some z=>rw[q]at h2';simpa using h2'
    obtain⟨m0,hn0,hl0⟩:=I.loc
    obtain⟨u,r,l⟩:=hl0 p.1 p.2 v k1 h2'' (k2.elim (fun z=> .inr (.inl z)) fun z=> .inr (.inr z))
    refine⟨u,r,.inr ⟨k3,?_⟩⟩
    rcases l with⟨z,_⟩|⟨_,cc,e1,e2⟩
    ·have z':X.env.scope.names.lookup p.2=some .local:=z
     rcases k2 with k|k<;>(rw[z']at k;cases k)
    ·obtain⟨cc',e3⟩:=c.has p.2 k3
     have e4:=c.sub _ _ e3
     rw[e1]at e4
     cases e4
     obtain⟨o,ho,hd⟩:=e2
     exact⟨cc,e3,o,old _ _ ho,hd⟩
 ·obtain⟨v,o,ho,hd⟩:=I.cell y k (c.sub y k e)
  exact⟨v,o,old _ _ ho,hd⟩
 ·have hp':p∈X.pn++ pins:=by
   rcases List.mem_append.mp hp with z|z
   ·exact z
   ·cases z
  obtain⟨e,n,ne,nf,d⟩:=I.pin p hp'
  refine⟨old _ _ e,n,Nat.ne_of_lt (Heap.lt_size e),fun hz=> ?_,d⟩
  rcases List.mem_cons.mp (I.stkSub p.1 hz)with q|q
  ·exact ne q
  ·exact nf q
 ·show(none::dG cp σ).length=(x::cp.map (·.2)).length
  simp[dG]
theorem Inv.uncomp{C:Addr}{N':List Str}{σ':St}{H':Hp}{s':Shared}{h'':Heap}(I:Inv X pins σ H s)(hC:C=s.heap.objs.size)(hf:∀b∈fp,fF X pins H b)(J:Inv (fO X scope cl C N' fp pins s H) [] σ' H' s')(sb:Heap.SameBut C s'.heap h''):
 Inv X pins σ H' {s' with heap:=h''}:=by
 have ne:∀b o,s.heap.get? b=some o->b≠C:=fun b o e=>by rw[hC];exact Nat.ne_of_lt (Heap.lt_size e)
 have B:Un (gH X.stack) fp H H' s.heap s'.heap:=J.base
 refine I.call' (s':={s' with heap:=h''}) (ch:=fp) (show s'.os=s.os from J.os) ⟨fun b o e n hb hx=> ?_,fun b o e n hb hx=> ?_,B.free,fun b o e hx=> ?_,B.tups,B.frzs,B.tbls⟩ (fun b ob e=> ?_) J.bare fun b hb=> ?_
 ·exact(sb.2 b (ne b o e)).trans (B.keep b o e n hb hx)
 ·obtain⟨sl,q⟩:=B.slot b o e n hb hx
  exact⟨sl,(sb.2 b (ne b o e)).trans q⟩
 ·obtain⟨o',q⟩:=B.there b o e hx
  exact⟨o',(sb.2 b (ne b o e)).trans q⟩
 ·have hfree:H' C=none:=J.free
  refine(J.hok b ob e).stay (fun k w' hk q=>(sb.2 k ?_).trans q) (fun _ q=>q) fun _ _ q=>q
  rintro rfl
  rcases hk with rfl|hk
  ·rw[hfree]at e;cases e
  ·rw[hfree]at hk;cases hk
 ·obtain⟨f0,f1,f2,f3,f4,f5⟩:=hf b hb
  exact⟨f3,f1,f4,f5⟩
end
def mX(X:Cx)(ifs:List Expr)(t:TT):Prop:=
 ∀(pins:List (Addr×Obj)) (s:Shared) (σ:St) (H:Hp) (Q:Bool->Hp->Prop),Inv X pins σ H s->t σ H Q->
  wpAny (model X.prog X.w) X.A (forIn ifs true fun c r=>if r=true then do let ok<- isTrue c X.env (eval c X.env);pure (ForInStep.yield ok) else pure (ForInStep.yield r)) (TP X pins σ Q) X.xe s
def qM:TT:=fun _ H Q=>Q true H
theorem jT{X:Cx}:mX X [] qM:=fun _ _ _ H _ I h=>wpAny_tests_nil ⟨H,I,h⟩
theorem a1w{X:Cx}{c:Expr}{t:TT}(h:PT X c t):mX X [c] t:=fun pins s σ H Q I q=>wpAny_tests_one (h pins s σ H Q I q)
def nO(cp:List (Nat×Str))(tt:TT)(te:TE)(σ:St)(J:It)(D:Addr)(Q:VK)(H1:Hp):Prop:=
 ∃W:Nat->Nat->Hp->Prop,(∃m,W 0 m (upd H1 D (.lst [])))/\∀i m H2,W i m H2->(J.stop i H2/\Q (.ref D) H2)\/
  (J.go i H2/\∃(N:VK) (N':Hp->Prop),(∀y H5,N y H5->∃ys m',H5 D=some (.lst ys)/\ys.length<sizeLine/\m'<m/\W (i+ 1) m' (upd H5 D (.lst (ys++ [y]))))/\(∀H4,N' H4->∃m',m'<m/\W (i+ 1) m' H4)/\
   ∀v H3,J.yld i H2 v H3->tt (some v::dG cp σ) H3 fun b H4=>if b=true then te (some v::dG cp σ) H4 N else N' H4)
def a0a(cp:List (Nat×Str))(wi:TI)(tt:TT)(te:TE):TE:=fun σ H Q=>wi σ H fun J H1=>∀D,H1 D=none->nO cp tt te σ J D Q H1
section
variable{X:Cx}{scope:Scope}{cl:List (Str×Addr)}{cp:List (Nat×Str)}{x:Str}{px pos:Pos}{elt iter:Expr}{ifs:List Expr}{wi:TI}{tt:TT}{te:TE}
theorem a1t{pins:List (Addr×Obj)}{σ:St}{H2:Hp}{s2:Shared}{it:Addr}{fp:List Addr}{tn:Nat->Heap->Prop}{J:It}{Q:VK}{R:Addr->Result->Shared->Prop}{E:Value->Shared->Prop}(c:kO X scope cl cp)(hcalm:X.calm=true)(hx:scope.names.lookup x=some .local)(hnd:(x::cp.map (·.2)).Nodup)
 (ht:∀C fp pins s H,mX (fO X scope cl C (x::cp.map (·.2)) fp pins s H) ifs tt)(he:∀C fp pins s H,PE (fO X scope cl C (x::cp.map (·.2)) fp pins s H) elt te)
 (I2:Inv X pins σ H2 s2)(T:mK X.prog X.w X.K (.Name x px) J fp it tn)(st2:tn 0 s2.heap)(f2:∀b∈fp,fF X pins H2 b)(q:nO cp tt te σ J s2.heap.objs.size Q H2)
 (hR:∀(C:Addr) (H':Hp) (s':Shared),(∃m,s'.heap.Ns C m)->X.s₀.heap.objs.size<=C->H' C=none->C≠X.env.locals->(∀x c,X.env.cells.lookup x=some c->c≠C)->(∀p∈X.pn++ pins,p.1≠C)->(∀h'',Heap.SameBut C s'.heap h''->Inv X pins σ H' {s' with heap:=h''})->Q (.ref s2.heap.objs.size) H'->R C (.ok .next) s'):
 wpAny (model X.prog X.w) X.A (newList []) (fun acc s₃=>wpAny (model X.prog X.w) X.A (newFunctionEnv scope X.env.globals cl [] X.env.qual none .none (some X.env)) (fun cenv s₄=>
  acc= .ref s2.heap.objs.size/\codeAny (model X.prog X.w) X.A (.compStart (.ListComp elt [⟨.Name x px,iter,ifs,0⟩] scope pos) 0 (.ref it) acc {cenv with scope:=relabel scope X.env}) (R cenv.locals) s₄) E s₃) E s2:=by
 obtain⟨W,⟨m0,w0⟩,turn⟩:=q
 refine wpAny_newObj_type ?_
 have I3:Inv X pins σ (upd H2 s2.heap.objs.size (.lst [])) {s2 with heap:=s2.heap.push {cls:=.type "list",dict:=none,data:=.seq ([]:List Value).toArray}}:=
  I2.lnew (t':=s2.toks) (ys:=[]) (its:=[]) .nil (Nat.zero_le _)
 have fpo:∀b∈fp,b<s2.heap.objs.size:=fun b hb=>by
  obtain⟨o,e,_⟩:=T.obj _ _ st2 b hb
  exact Heap.lt_size e
 have f3:∀b∈fp,fF X pins (upd H2 s2.heap.objs.size (.lst [])) b:=fun b hb=>⟨by rw[aG (Nat.ne_of_lt (fpo b hb))];exact(f2 b hb).1,(f2 b hb).2⟩
 generalize hs3:({s2 with heap:=s2.heap.push {cls:=.type "list",dict:=none,data:=.seq ([]:List Value).toArray}}:Shared)=s3 at I3
 have e3:s3.heap=s2.heap.push {cls:=.type "list",dict:=none,data:=.seq ([]:List Value).toArray}:=by rw[<- hs3]
 have sz3:s2.heap.objs.size<s3.heap.objs.size:=by rw[e3,Heap.size_push];exact Nat.lt_succ_self _
 refine wpAny_newFunctionEnv c.nocell (by intro y hy;cases hy) (fun h₁ hns sb=> ?_) c.kind
 have J3:=a9y (x:=x) (tk:=s3.toks+ ([]:List (Str×Value)).length) I3 c f3 (fun b hb=>Nat.lt_trans (fpo b hb) sz3) hns sb
 refine⟨rfl,?_⟩
 have st3:tn 0 h₁:=T.keep _ _ _ st2 fun b hb o e=>(sb.2 b (Nat.ne_of_lt (Nat.lt_trans (fpo b hb) sz3))).trans (Heap.get?_push_of_some _ (by rw[e3];exact Heap.get?_push_of_some _ e))
 generalize hX:fO X scope cl s3.heap.objs.size (x::cp.map (·.2)) fp pins s3 (upd H2 s2.heap.objs.size (.lst []))=X' at J3
 have eA:X'.A=X.A:=by rw[<- hX];rfl
 have eP:X'.prog=X.prog:=by rw[<- hX];rfl
 have ew:X'.w=X.w:=by rw[<- hX];rfl
 have eK:X'.K=X.K:=by rw[<- hX];rfl
 have ec:X'.calm=true:=by rw[<- hX];exact hcalm
 have ee:X'.env=compEnvC scope cl s3.heap.objs.size X.env:=by rw[<- hX];rfl
 have ex:X'.xe=fun _ _=>False:=by rw[<- hX];rfl
 have fpX:∀{H':Hp},(∀b∈fp,H' b=none)->∀b∈fp,fF X' [] H' b:=fun hn b hb=>by
  obtain⟨f0,f1,f2',f3',f4,f5⟩:=f3 b hb
  subst hX
  refine⟨hn b hb,Nat.ne_of_lt (Nat.lt_trans (fpo b hb) sz3),fun hz=> ?_,.inl hb,fun y k e=>f4 y k (c.sub y k e),fun p hp=> ?_⟩
  ·rcases List.mem_cons.mp (I3.stkSub b hz)with e|e
   ·exact f1 e
   ·exact f2' e
  ·rcases List.mem_append.mp hp with z|z
   ·exact f5 p z
   ·cases z
 have pT:=ht s3.heap.objs.size fp pins s3 (upd H2 s2.heap.objs.size (.lst []))
 have pE:=he s3.heap.objs.size fp pins s3 (upd H2 s2.heap.objs.size (.lst []))
 have pG:PG X' (.Name x px) (iT 0):=by
  subst hX
  exact fH hnd rfl (.inl (lookup_relabel_local hx)) (.inr (lookup_relabel_local hx))
 rw[hX]at pT pE
 have loop:codeAny (model X.prog X.w) X.A (.compLoop (.ListComp elt [⟨.Name x px,iter,ifs,0⟩] scope pos) 0 (.ref it) (.ref s2.heap.objs.size) (compEnvC scope cl s3.heap.objs.size X.env)) (R s3.heap.objs.size) {s3 with heap:=h₁,toks:=s3.toks+ ([]:List (Str×Value)).length}:=by
  refine a2K (fun n s'=>∃i o H',Inv X' [] (o::dG cp σ) H' s'/\tn i s'.heap/\(∀b∈fp,H' b=none)/\W i n H') ?_ m0 ⟨0,none,_,J3,st3,fun b hb=>(f3 b hb).1,w0⟩
  rintro n s5 ⟨i,o,H5,J5,st5,fr5,w5⟩
  rcases turn i n H5 w5 with⟨stop,qn⟩|⟨go,N,N',hN,hN',step⟩
  ·have z:=T.done X' eP ew eK ec i [] s5 _ H5 (fun _ _=>False) J5 (fpX fr5) st5 stop
   rw[eA]at z
   refine aS z ?_
   rintro r s6 ⟨hr,J6⟩
   subst hr
   subst hX
   obtain⟨m6,hn6,_⟩:=J6.loc
   refine hR s3.heap.objs.size H5 s6 ⟨m6,hn6⟩ I3.sz J6.free (Nat.ne_of_gt I3.lt) (fun y k e z=> ?_) (fun p hp z=> ?_) (fun h'' sb'=>I3.uncomp rfl f3 J6 sb') qn
   ·obtain⟨v,w'⟩:=I3.cell y k e
    exact absurd w'.lt (by rw[z];exact Nat.lt_irrefl _)
   ·exact absurd (Heap.lt_size (I3.pin p hp).1) (by rw[z];exact Nat.lt_irrefl _)
  ·have z:=T.item X' eP ew eK ec i [] s5 _ H5 (fun _ _=>False) J5 (fpX fr5) st5 go
   rw[eA]at z
   refine aS z ?_
   rintro r s6 ⟨u,hr,h6⟩
   subst hr
   refine aS h6 ?_
   rintro _ s7 ⟨v,H7,J7,r7,y7,st7,fr7⟩
   have J7':=J7.pinned (fpX fr7) (T.obj _ _ st7)
   have z8:=pG _ s7 _ H7 v u (fun σ' H'=>σ'=some v::dG cp σ/\H'=H7) J7' r7 ⟨rfl,rfl⟩
   rw[eA,eP,ew,ee,ex]at z8
   refine aS z8 ?_
   rintro _ s8 ⟨σ8,H8,J8,e8,e8'⟩
   subst e8 e8'
   have z9:=pT _ s8 _ H8 _ J8 (step v H8 y7)
   rw[eA,eP,ew,ee,ex]at z9
   refine aS z9 ?_
   rintro ok s9 ⟨H9,J9,q9⟩
   have fin:∀{H':Hp} {s':Shared},Inv X' ([] ++ pS fp s7.heap) (some v::dG cp σ) H' s'->(∃m',m'<n/\W (i+ 1) m' H')->∃m,m<n/\∃i o H',Inv X' [] (o::dG cp σ) H' s'/\tn i s'.heap/\(∀b∈fp,H' b=none)/\W i m H':=fun{H' s'} K' ⟨m',hm,w'⟩=>by
    refine⟨m',hm,i+ 1,some v,H',K'.unpinned,T.keep _ _ _ st7 fun b hb ob e=>(K'.pin (b,ob) (List.mem_append_right _ (List.mem_append_right _ (pU hb e)))).1,fun b hb=> ?_,w'⟩
    obtain⟨ob,e,d⟩:=T.obj _ _ st7 b hb
    exact(K'.pin (b,ob) (List.mem_append_right _ (List.mem_append_right _ (pU hb e)))).2.1
   cases ok with
   |false=>
    rw[if_neg Bool.false_ne_true]at q9|-
    exact fin J9 (hN' _ q9)
   |true=>
    rw[if_pos rfl]at q9|-
    have z10:=pE _ s9 _ H9 _ J9 q9
    rw[eA,eP,ew,ee,ex]at z10
    refine aS z10 ?_
    rintro u10 s10 ⟨y,H10,J10,r10,n10⟩
    obtain⟨ys,m',hD,hz,hm,w'⟩:=hN y H10 n10
    have z11:=kD (X:=X') _ s10 _ H10 (.ref s2.heap.objs.size) [y] (.ref s2.heap.objs.size) [u10] (fun _ H'=>H'=upd H10 s2.heap.objs.size (.lst (ys++ [y]))) J10 rfl (.cons r10 .nil) ⟨_,ys,y,rfl,rfl,hD,hz,rfl⟩
    rw[eA,eP,ew,ex]at z11
    refine aS z11 ?_
    rintro u11 s11 ⟨y',H11,J11,r11,e11⟩
    subst e11
    exact fin J11 ⟨m',hm,w'⟩
 exact codeAny_compStart_list loop (T.self _ 0 _ _ _ st3 loop)
theorem kY(c:kO X scope cl cp)(hcalm:X.calm=true)(hx:scope.names.lookup x=some .local)(hnd:(x::cp.map (·.2)).Nodup)(hi:PI X (.Name x px) iter wi)
 (ht:∀C fp pins s H,mX (fO X scope cl C (x::cp.map (·.2)) fp pins s H) ifs tt)(he:∀C fp pins s H,PE (fO X scope cl C (x::cp.map (·.2)) fp pins s H) elt te)
 (hs:∀v,foldedSetIterable iter X.env v=pure v:=by intro _;rfl):PE X (.ListComp elt [⟨.Name x px,iter,ifs,0⟩] scope pos) (a0a cp wi tt te):=by
 intro pins s σ H Q I h
 rw[eval_ListComp]
 refine wpAny_comprehension_free (use:=none) (g:=⟨.Name x px,iter,ifs,0⟩) (gs:=[]) (cl:=cl) rfl hs c.clos c.kind c.names ?_
 refine aS (hi pins s σ H _ I h) fun v s1 h1=>aS h1 fun itv s2 h2=> ?_
 obtain⟨it,fp,tn,J,H2,e,I2,T,st2,f2,q⟩:=h2
 subst e
 refine aS (a1t (iter:=iter) (pos:=pos) (R:=fun C=>compPost (model X.prog X.w) X.A X.xe none (EP X pins σ Q) (.ref s2.heap.objs.size) C) c hcalm hx hnd ht he I2 T st2 f2 (q _ (I2.hok.fresh (Nat.le_refl _))) ?_) fun acc s3 h3=>aS h3 fun cenv s4 h4=> ?_
 ·rintro C H' s' ⟨m,hn⟩ _ _ _ _ _ hI hq
  exact⟨m,hn,fun h'' sb=>⟨.ref s2.heap.objs.size,H',hI h'' sb,rfl,hq⟩⟩
 ·obtain⟨e,h4⟩:=h4
  subst e
  exact h4
theorem wP{i:Nat}{y:Str}{py:Pos}{pos':Pos}(hN:X.N.Nodup)(hi':X.N[i]?=some y)(hy:X.env.scope.names.lookup y=some .local)(c:kO X scope cl cp)(hcalm:X.calm=true)(hx:scope.names.lookup x=some .local)(hnd:(x::cp.map (·.2)).Nodup)(hi:PI X (.Name x px) iter wi)
 (ht:∀C fp pins s H,mX (fO X scope cl C (x::cp.map (·.2)) fp pins s H) ifs tt)(he:∀C fp pins s H,PE (fO X scope cl C (x::cp.map (·.2)) fp pins s H) elt te)
 (hsw:swapsWith (.ListComp elt [⟨.Name x px,iter,ifs,0⟩] scope pos) (some (.Name y py)) pos'.line X.env=pure true)
 (hs:∀v,foldedSetIterable iter X.env v=pure v:=by intro _;rfl):PS X (.Assign [.Name y py] (.ListComp elt [⟨.Name x px,iter,ifs,0⟩] scope pos) pos') (tAsg (a0a cp wi tt te) (iT i)):=by
 intro pins s σ H D I h
 rw[exec_Assign_Name_used _ _ _ _ hsw]
 refine wpAny_bind (wpAny_standAt (wpAny_bind (wpAny_bind ?_)))
 refine wpAny_comprehension_free (use:=some (assign (.Name y py) X.env)) (g:=⟨.Name x px,iter,ifs,0⟩) (gs:=[]) (cl:=cl) rfl hs c.clos c.kind c.names ?_
 refine aS (hi pins s σ H _ I h) fun v s1 h1=>aS h1 fun itv s2 h2=> ?_
 obtain⟨it,fp,tn,J,H2,e,I2,T,st2,f2,q⟩:=h2
 subst e
 refine aS (a1t (iter:=iter) (pos:=pos) (R:=fun C=>compPost (model X.prog X.w) X.A X.xe (some (assign (.Name y py) X.env)) (fun _ s'=>wpAny (model X.prog X.w) X.A (pure ()) (fun _ s'=>wpAny (model X.prog X.w) X.A (pure Flow.next) (SP X pins D) X.xe s') X.xe s') (.ref s2.heap.objs.size) C) c hcalm hx hnd ht he I2 T st2 f2 (q _ (I2.hok.fresh (Nat.le_refl _))) ?_) fun acc s3 h3=>aS h3 fun cenv s4 h4=> ?_
 ·rintro C H' s' ⟨m,hn⟩ hC0 hCn hCL hCc hCp hI hq
  have I':Inv X pins σ H' s':=hI s'.heap (Heap.SameBut.refl ..)
  refine wpAny_assign_Name (a1l (v:=.ref s2.heap.objs.size) I' hN hi' (.inl hy) rfl (fun s'' I'' hb=> ?_) (.inr hy))
  obtain⟨a,sb,ha⟩:=hb
  have hne:C≠a:=by
   rcases ha with z|z
   ·rw[z];exact hCL
   ·exact fun e=>hCc y a z e.symm
  refine⟨m,hn.sameBut sb hne,fun h'' sb''=>wpAny_pure (wpAny_pure ⟨_,H',?_,hq⟩)⟩
  exact I''.turned (t':=s''.toks) (fun b o hb e=>(sb''.2 b hb).trans e) hCn hCL (.inr hC0) hCc hCp
 ·obtain⟨e,h4⟩:=h4
  subst e
  exact h4
end
theorem a2B:∀{bs:List Bool} {us:List Value},bE (bs.map V.bl) us->∀(i:Nat) (v:Value),us[i]?=some v->∃b:Bool,bs[i]?=some b/\v=Value.bool b
 | [],_,.nil,i,v,h=>by simp at h
 |b::bs,u::us,.cons r t,0,v,h=>by
  simp at h
  subst h
  cases r
  exact⟨b,rfl,rfl⟩
 |b::bs,u::us,.cons r t,i+ 1,v,h=>by
  obtain⟨b',e1,e2⟩:=a2B t i v (by simpa using h)
  exact⟨b',by simpa using e1,e2⟩
section
variable{X:Cx}
theorem a3O(hc:X.calm=true):iE X (.builtin "all") (fun xs H Q=>∃(a:Addr) (bs:List Bool),xs= [.ref a] /\aO X.K H a (bs.map V.bl)/\Q (.bl (bs.all id)) H):=by
 intro pins s σ H xs us Q I r h
 obtain⟨a,bs,rfl,hq,q⟩:=h
 obtain⟨u,rfl,ru⟩:=r.one
 cases ru
 obtain⟨its,rv,pl,hz⟩:=I.list hq
 have hl:s.heap.IsList a its.toArray:=pl.isList
 have hlt:a<s.heap.objs.size:=by obtain⟨_,e,_⟩:=hl;exact Heap.lt_size e
 refine call_all_walk (wpAny_pyIter_list hl ?_)
 refine⟨s.heap.objs.size,[s.heap.objs.size,a],[s.heap.objs.size],its.toArray.size,_,_,fun i=>(bs[i]?).getD true,rfl,Walks.list (A:=X.A.in1) (I.ok.hd hc) _ a (Nat.ne_of_lt hlt) its.toArray,
  ⟨⟨_,Heap.get?_push_size _ rfl,rfl,rfl⟩,hl.push _⟩,fun i v s' Q' E' hP hQ=> ?_,fun h' tk hk=> ?_⟩
 ·obtain⟨b,e,rfl⟩:=a2B rv i v (by simpa using hP)
  simp only[e,Option.getD_some]at hQ
  exact wpAny_truthy_bool hQ
 ·have e:((List.range its.toArray.size).all fun i=>(bs[i]?).getD true)=bs.all id:=by
   have:=rv.length
   rw[List.length_map]at this
   rw[List.size_toArray,<- this]
   exact PyProof.Rows.LSm.range_all bs
  rw[e]
  refine⟨.bl _,H,I.kept (t':=tk) fun b o e'=>hk b o (fun hm=> ?_) (Heap.get?_push_of_some _ e'),rfl,q⟩
  rw[List.mem_singleton.mp hm]at e'
  exact Nat.lt_irrefl _ (Heap.lt_size e')
end
structure bI(P:Program)(w:World)(K:Fg)(mg:Str->Option Value)(base:Heap)(CX:fI)(k:Nat)(x:Str)(ps:List Str)(sp:Sp):Prop where
 ex:∃f fd,eX P w K mg base CX k f fd ps sp/\mg x=some (.ref f)/\PySem.W.keepIn K (.ref f)=true/\iJ K fd ps []
section
variable{X:Cx}{CX:fI}{k:Nat}{ps:List Str}{sp:Sp}{E:XK}{x:Str}{p pos:Pos}{e:Expr}{es:List Expr}{t:TA}
theorem bQ(G:bI X.prog X.w X.K X.mg X.base CX k x ps sp)(hr:bT k X.A)(hx:iF CX X E)(ha:PA X (e::es) t)(hg:Gl X x:=by rfl)(hdb:(x==("__debug__":Str))=false:=by decide)
 (he:starEach (e::es) X.env=(false,eval e X.env)::starEach es X.env:=by rfl)(hpl:(backTo pos (starEach es X.env)).any (·.1)=false:=by rfl):PE X (.Call (.Name x p) (e::es) [] pos) (vC sp [] E t):=by
 obtain⟨f,fd,F,hm,hk,hb⟩:=G.ex
 exact a6s F hr hg hm hk hb .nil hx ha hdb he hpl
end
def kU(D:Addr)(Pv:Nat->List V->Hp->Prop)(i:Nat)(ys:List V):VK:=fun y H5=>H5 D=some (.lst ys)/\ys.length<sizeLine/\Pv (i+ 1) (ys++ [y]) (upd H5 D (.lst (ys++ [y])))
theorem xS{cp:List (Nat×Str)}{te:TE}{σ:St}{J:It}{n:Nat}{D:Addr}{Q:VK}{H1:Hp}(Pv:Nat->List V->Hp->Prop)(h0:Pv 0 [] (upd H1 D (.lst [])))
 (hg:∀i ys H,H D=some (.lst ys)->Pv i ys H->(i<n->J.go i H)/\(i=n->J.stop i H))
 (hs:∀i ys H v H',i<n->H D=some (.lst ys)->Pv i ys H->J.yld i H v H'->te (some v::dG cp σ) H' (kU D Pv i ys))
 (hd:∀ys H,H D=some (.lst ys)->Pv n ys H->Q (.ref D) H):nO cp qM te σ J D Q H1:=by
 refine⟨fun i m H=>m=n- i/\i<=n/\∃ys,H D=some (.lst ys)/\Pv i ys H,⟨n,by simp,Nat.zero_le _,[],aJ,h0⟩,?_⟩
 rintro i m H ⟨rfl,hi,ys,hD,p⟩
 by_cases hlt:i<n
 ·refine .inr ⟨(hg i ys H hD p).1 hlt,kU D Pv i ys,fun _=>False,fun y H5 ⟨h1,h2,h3⟩=>⟨ys,n- (i+ 1),h1,h2,by omega,rfl,hlt,_,aJ,h3⟩,fun _ z=>z.elim,fun v H' y=> ?_⟩
  exact hs i ys H v H' hlt hD p y
 ·have e:i=n:=by omega
  subst e
  exact .inl ⟨(hg i ys H hD p).2 rfl,hd ys H hD p⟩
theorem a8w{cp:List (Nat×Str)}{te:TE}{σ:St}{lo:Int}{n:Nat}{D:Addr}{Q:VK}{H1:Hp}(Pv:Nat->List V->Hp->Prop)(h0:Pv 0 [] (upd H1 D (.lst [])))
 (hs:∀i ys H,i<n->H D=some (.lst ys)->Pv i ys H->te (some (.int (lo+ i))::dG cp σ) H (kU D Pv i ys))
 (hd:∀ys H,H D=some (.lst ys)->Pv n ys H->Q (.ref D) H):nO cp qM te σ (lQ lo n) D Q H1:=
 xS (n:=n) Pv h0 (fun i ys H _ _=>⟨fun h=>h,fun h=>by subst h;exact Nat.le_refl _⟩) (fun i ys H v H' hi hD p y=>by
  obtain⟨e,rfl⟩:=y
  subst e
  exact hs i ys _ hi hD p) hd
theorem a9b{cp:List (Nat×Str)}{te:TE}{σ:St}{x:Str}{D:Addr}{Q:VK}{H1:Hp}(Pv:Nat->List V->Hp->Prop)(h0:Pv 0 [] (upd H1 D (.lst [])))
 (hs:∀i c ys H,x.cps[i]?=some c->H D=some (.lst ys)->Pv i ys H->te (some (.str ⟨#[c]⟩)::dG cp σ) H (kU D Pv i ys))
 (hd:∀ys H,H D=some (.lst ys)->Pv x.cps.size ys H->Q (.ref D) H):nO cp qM te σ (sT x) D Q H1:=
 xS (n:=x.cps.size) Pv h0 (fun i ys H _ _=>⟨fun h=>h,fun h=>by subst h;exact Nat.le_refl _⟩) (fun i ys H v H' hi hD p y=>by
  obtain⟨e,c,hc,rfl⟩:=y
  subst e
  exact hs i c ys _ hc hD p) hd
theorem kI{K:Fg}{cp:List (Nat×Str)}{te:TE}{σ:St}{a:Addr}{xs:List V}{D:Addr}{Q:VK}{H1:Hp}(Pv:Nat->List V->Hp->Prop)(h0:Pv 0 [] (upd H1 D (.lst [])))
 (hl:∀i ys H,H D=some (.lst ys)->Pv i ys H->aO K H a xs)
 (hs:∀i x ys H,xs[i]?=some x->H D=some (.lst ys)->Pv i ys H->te (some x::dG cp σ) H (kU D Pv i ys))
 (hd:∀ys H,H D=some (.lst ys)->Pv xs.length ys H->Q (.ref D) H):nO cp qM te σ (pD K a) D Q H1:=
 xS (n:=xs.length) Pv h0 (fun i ys H hD p=>⟨fun h=>⟨xs,xs[i],hl i ys H hD p,by simp[h]⟩,fun h=>by subst h;exact⟨xs,hl _ ys H hD p,Nat.le_refl _⟩⟩) (fun i ys H v H' hi hD p y=>by
  obtain⟨e,y⟩:=y
  subst e
  exact hs i v ys _ (y xs (hl i ys _ hD p)) hD p) hd
inductive Kd where
 |non|bl|int|str|lst|tup|dct
 deriving DecidableEq
def Kd.nm:Kd->String
 | .non=> "NoneType"| .bl=> "bool"| .int=> "int"| .str=> "str"| .lst=> "list"| .tup=> "tuple"| .dct=> "dict"
theorem a65(K:Fg)(a:Kd):PySem.W.kitOne K (.type a.nm) (.type "int")=some (decide (a= .int\/ a= .bl)):=by cases a<;>kernel_rfl
theorem a52(K:Fg)(a:Kd):PySem.W.kitOne K (.type a.nm) (.type "bool")=some (decide (a= .bl)):=by cases a<;>kernel_rfl
theorem vF(K:Fg)(a:Kd):PySem.W.kitOne K (.type a.nm) (.type "str")=some (decide (a= .str)):=by cases a<;>kernel_rfl
theorem vA(K:Fg)(a:Kd):PySem.W.kitOne K (.type a.nm) (.type "list")=some (decide (a= .lst)):=by cases a<;>kernel_rfl
theorem tH(K:Fg)(a:Kd):PySem.W.kitOne K (.type a.nm) (.type "tuple")=some (decide (a= .tup)):=by cases a<;>kernel_rfl
noncomputable def iN:PyData->Kd
 | .none=> .non| .bool _=> .bl| .int _=> .int| .str _=> .str| .list _=> .lst| .tuple _=> .tup| .dict _=> .dct
theorem jJ{X:Cx}:iE X (.builtin "isinstance") (fun xs H Q=>∃x T d k,xs= [x,.ty T] /\Dt X.K H x d/\PySem.W.kitOne X.K (.type (iN d).nm) (.type T)=some k/\Q (.bl k) H):=by
 intro pins s σ H xs us Q I r h
 obtain⟨x,T,d,k,rfl,hd,e,q⟩:=h
 obtain⟨u,c,rfl,r1,r2⟩:=r.two
 cases r2
 have fin:∀tk,EP X pins σ Q (.bool k) {s with toks:=tk}:=fun tk=>⟨.bl k,H,I.tok tk,rfl,q⟩
 cases hd with
 |non=>cases r1;exact PySem.W.kia_one PySem.W.kitx_none I.kIn True.intro e (fun z=>nomatch z) fin
 |bl b=>cases r1;exact PySem.W.kia_one PySem.W.kitx_bool I.kIn True.intro e (fun z=>nomatch z) fin
 |int i=>obtain⟨t,rfl⟩:=r1;exact PySem.W.kia_one PySem.W.kitx_int I.kIn True.intro e (fun z=>nomatch z) fin
 |str z=>obtain⟨t,rfl⟩:=r1;exact PySem.W.kia_one PySem.W.kitx_str I.kIn True.intro e (fun z=>nomatch z) fin
 |lst hq _=>
  cases r1
  obtain⟨its,_,⟨o,n,eo,hc,_,_⟩,_⟩:=I.list hq
  exact PySem.W.kia_one PySem.W.kitx_list I.kIn ⟨o,eo,hc⟩ e (fun z=>nomatch z) fin
 |tup hq _=>
  cases r1
  obtain⟨its,_,⟨o,eo,hc,_⟩,_⟩:=I.tuple hq
  exact PySem.W.kia_one PySem.W.kitx_tuple I.kIn ⟨o,eo,hc⟩ e (fun z=>nomatch z) fin
 |dK ea=>
  cases r1
  obtain⟨_,_,vs,_,o,es,ep,h1,h2,_⟩:=I.hok _ _ ea
  exact PySem.W.kia_one PySem.W.kitx_dict I.kIn ⟨o,h1,h2.1⟩ e (fun z=>nomatch z) fin
 |dT ea=>
  cases r1
  obtain⟨_,_,zs,_,o,es,ep,h1,h2,_⟩:=I.hok _ _ ea
  exact PySem.W.kia_one PySem.W.kitx_dict I.kIn ⟨o,h1,h2.1⟩ e (fun z=>nomatch z) fin
theorem vB{X:Cx}{scope:Scope}(kind:scope.kind= .function:=by rfl)(plain:∀y∈scope.names,y.2= .local\/ y.2= .globalImplicit:=by decide)(names:∀y∈scope.names,y.2= .local->scope.names.lookup y.1=some .local:=by decide+kernel):kO X scope [] [] where
 kind:=kind
 nocell:=fun y hy z=>by rcases plain y hy with h|h<;>rw[h]at z<;>cases z
 names:=names
 clos:=closureFor_none fun y hy z=>by rcases plain y hy with h|h<;>rw[h]at z<;>cases z
 sub:=fun x c e=>by cases e
 has:=fun x h=>by
  have hm:∀(k:NameKind),(relabel scope X.env).names.lookup x=some k->k= .local\/ k= .globalImplicit:=fun k e=>by
   have m:=PySem.mem_of_lookup e
   unfold relabel at m
   obtain⟨⟨n,k'⟩,hy,e'⟩:=List.mem_map.mp m
   have q:=plain _ hy
   have nf:(k'==NameKind.free)=false:=by rcases q with h|h<;>(have h':k'=_:=h;subst h';rfl)
   simp only[nf,Bool.false_and,Bool.false_eq_true,if_false]at e'
   have:k'=k:=congrArg (·.2) e'
   rw[<- this]
   exact q
  rcases h with h|h
  ·rcases hm _ h with z|z<;>cases z
  ·rcases hm _ h with z|z<;>cases z
 at':=fun p hp=>by cases hp
structure dM(K:Fg)(mg:Str->Option Value)(x:Str)(st:Stmt):Prop where
 ex:∃f fd,iZ K x x st f fd/\mg x=some (.ref f)
section
variable{P:Program}{w:World}{K:Fg}{mg:Str->Option Value}{base:Heap}
theorem eC{h:Heap}{x:Str}{st:Stmt}{f:Addr}{oc:Value}{od an:Option Addr}{osl:Array (Option Value)}{kV doc pm cdv ct:Value}(X:K.In h)(G:h.Ns mainGlobals mg)(a:PySem.W.nsIn K mainGlobals x=some (some (.ref f)))
 (l:K.lookup f=some ⟨oc,od,.func (PySem.W.fnOf x x (jE st) (eG st) (aN st) .none kV doc pm an cdv ct),osl⟩)(c:PySem.W.codeIn K cdv x=true)(k:PySem.W.keepIn K (.ref f)=true):dM K mg x st:=
 ⟨f,_,uL l c k,PySem.W.mg_of X G a⟩
theorem dM.known{x:Str}{st:Stmt}{N ps:List Str}{k:Nat}{sp:Sp}(D:dM K mg x st)(S:aV N ps (aN st))
 (hb:∀(kV doc pm:Value) (an:Option Addr) (cdv ct:Value) (us:List Value),us.length=ps.length->bindArgs (PySem.W.fnOf x x (jE st) (eG st) (aN st) .none kV doc pm an cdv ct) ⟨us,[]⟩=pure (ps.zip us))
 (len:∀vs H Q E,sp vs H Q E->vs.length=ps.length)
 (hbody:∀(f:Addr) (cdv:Value) (A:Around) (outer:List Env) (s:Shared) (H:Hp) (vs:List V) (Q:VK) (E:XK),bT k (A.deeper (envOfC x (aN st) s.heap.objs.size f cdv))->sp vs H Q E->
  ∃t,eE (cY aC P w K mg base N x (aN st) f cdv A outer s H E).nox (eG st) t/\t {nx:=fun _ H'=>Q .non H',rt:=Q} (start N vs) H):bI P w K mg base aC (k+ 1) x ps sp:=by
 obtain⟨f,fd,F,hm⟩:=D.ex
 exact⟨f,fd,F.ok S len fun cdv A outer s H vs Q E hr h=>hbody f cdv A outer s H vs Q E hr h,hm,F.kp,F.binds hb⟩
end
theorem aD.new{H:Hp}{D:Addr}{o:HO}(h:H D=none):aD H (upd H D o):=fun b u e=>by rw[aG (aX e h)];exact e
theorem aD.on{H H2:Hp}{D:Addr}{o:HO}(e:aD H H2)(h:H D=none):aD H (upd H2 D o):=fun b u z=>by rw[aG (aX z h)];exact e b u z
abbrev one(c:Nat):Str:=⟨#[c]⟩
theorem a8I{n:Nat}{i:Int}(h0:0<=i)(h:i<n):lZ n i=some i.toNat:=by
 unfold lZ
 rw[if_pos h0,if_pos h]
theorem sF{K:Fg}{H:Hp}:∀zs:List Str,dD K H (zs.map V.str) (zs.map PyData.str)
 | []=> .nil
 |z::r=> .cons (.str z) (sF r)
theorem a3X{cs:List Nat}(h:∀c∈cs,c<128):PyData.canLay0 (.str ⟨cs.toArray⟩)=true:=by
 have:∀c∈cs,c<1114112:=fun c hc=>by have:=h c hc;omega
 simp[PyData.canLay0,PyData.strOk]
 exact this
theorem sl{n:Nat}(h:n<=1000:=by simp):n<=sizeLine:=Nat.le_of_lt (cQ h)
theorem a1s:bootBuiltins "all"=some (.builtin "all"):=by kernel_rfl
theorem iM:bootBuiltins "isinstance"=some (.builtin "isinstance"):=by kernel_rfl
theorem a7p:bootBuiltins "abs"=some (.builtin "abs"):=by kernel_rfl
theorem gI:bootBuiltins "len"=some (.builtin "len"):=by kernel_rfl
theorem a6N:bootBuiltins "int"=some (.type "int"):=by kernel_rfl
theorem a6h:bootBuiltins "bool"=some (.type "bool"):=by kernel_rfl
theorem vJ:bootBuiltins "str"=some (.type "str"):=by kernel_rfl
theorem iA:bootBuiltins "list"=some (.type "list"):=by kernel_rfl
theorem tY:bootBuiltins "tuple"=some (.type "tuple"):=by kernel_rfl
structure Flew(fs own:List Addr)(h h':Heap):Prop where
 keep:∀b o,b∉own->b∉fs->h.get? b=some o->h'.get? b=some o
 slot:∀b o,b∉own->h.get? b=some o->∃sl,h'.get? b=some {o with slots:=sl}
structure ExcK(K:Fg)(C:Addr):Prop where
 hga:PySem.W.findIn K (.ref C) "__getattribute__"=some (some (.builtin "BaseException.__getattribute__"))
 hk:PySem.W.findIn K (.ref C) "__getattr__"=some none
 hc:∃cd,PySem.W.clsIn K C=some cd
 ha:PySem.W.findIn K (.ref C) "__class__"=some (some (.builtin "object.__class__"))
 hn:PySem.W.specialIn K (.builtin "object.__class__") "__get__"=some (some (.builtin "getset_descriptor.__get__"))
 ht:PySem.W.takesIn K (.builtin "object.__class__")=some true
 hm:PySem.W.mroIn K C (.type "object")=some true
 hb:PySem.W.mroIn K C (.type "BaseException")=some true
theorem xN:∀{xs:List V} {us:List Value},us.length=xs.length->(∀(j:Nat) (x:V) (u:Value),xs[j]?=some x->us[j]?=some u->bG x u)->bE xs us
 | [],[],_,_=> .nil
 |x::xs,u::us,hl,h=> .cons (h 0 x u rfl rfl) (xN (by simpa using hl) fun j y v e1 e2=>h (j+ 1) y v (by simpa using e1) (by simpa using e2))
 | [],_::_,hl,_=>by simp at hl
 |_::_,[],hl,_=>by simp at hl
def dA(lo:Int)(n:Nat):List V:=(List.range n).map fun(i:Nat)=>V.int (lo+ (i:Int))
theorem iG(lo:Int)(n:Nat):(dA lo n).length=n:=by unfold dA;rw[List.length_map,List.length_range]
section
variable{X:Cx}
theorem a0D:iE X (.type "range") (fun xs H Q=>∃j:Int,xs= [.int j] /\∀p,H p=none->Q (.ref p) (upd H p (.rng 0 j))):=by
 intro pins s σ H xs us Q I r h
 obtain⟨j,rfl,q⟩:=h
 obtain⟨u,rfl,t,rfl⟩:=mN r
 refine call_range_1 ⟨.ref s.heap.objs.size,_,I.laid (a:=s.heap.objs.size) (o:=.rng 0 j) (fun _ _ q=>Heap.get?_push_of_some _ q) (Nat.le_refl _) ?_,rfl,q _ (I.hok.fresh (Nat.le_refl _))⟩
 exact⟨_,_,_,Heap.get?_push_size _ rfl⟩
theorem a2Q(hc:X.calm=true):iE X (.type "list") (fun xs H Q=>∃p lo hi,xs= [.ref p] /\H p=some (.rng lo hi)/\ -(2^ 62)<=lo/\lo<2^ 62/\ -(2^ 62)<=hi/\hi<2^ 62/\(hi- lo).toNat<=2^ 24/\∀l,H l=none->Q (.ref l) (upd H l (.lst (dA lo (hi- lo).toNat)))):=by
 intro pins s σ H xs us Q I r h
 obtain⟨p,lo,hi,rfl,hp,h1,h2,h3,h4,h5,q⟩:=h
 obtain⟨u,rfl,rx⟩:=mN r
 cases rx
 obtain⟨t,u,v,e⟩:=I.hok p _ hp
 have hn:Builtin.Range.rangeSize lo hi 1=((hi- lo).toNat:Int):=by rw[rangeSize_one];split<;>omega
 refine call_list_range (I.ok.hd hc) (show IsRange s.heap p lo hi 1 t u v from e) (small_one h1 h2 h3 h4) hn h5 fun h' tk acc c kp hD hI=> ?_
 refine⟨.ref s.heap.objs.size,_,I.laid (t':=tk) (o:=.lst (dA lo (hi- lo).toNat)) kp (Nat.le_refl _) ?_,rfl,q _ (I.hok.fresh (Nat.le_refl _))⟩
 refine⟨by rw[iG,sizeLine_eq];exact h5,acc.toList,c,xN (by rw[iG,Array.length_toList];exact hI.1) fun j x u e1 e2=> ?_,by rw[Array.toArray_toList];exact hD⟩
 rw[Array.getElem?_toList]at e2
 obtain⟨t',rfl⟩:=hI.2 j u e2
 unfold dA at e1
 rw[List.getElem?_map]at e1
 cases z:(List.range (hi- lo).toNat)[j]? with
 |none=>rw[z]at e1;cases e1
 |some i=>
  rw[z]at e1
  have:i=j:=by
   have hl:j<(List.range (hi- lo).toNat).length:=(List.getElem?_eq_some_iff.mp z).1
   rw[List.getElem?_eq_getElem hl,List.getElem_range]at z
   exact(Option.some.inj z).symm
  subst this
  cases e1
  exact⟨t',by rw[Int.mul_one]⟩
theorem a47{P:Program}{w:World}{k:aB}{u:Value}(h:(fS P w).is k u=true):bG (kV k) u:=by
 rcases lD h with⟨i,t,rfl,rfl⟩|⟨x,t,rfl,rfl⟩
 ·exact⟨t,rfl⟩
 ·exact⟨t,rfl⟩
theorem KV.fst{κ:Type}:∀{kvs:List (κ×V)} {vs:List (κ×Value)},KV kvs vs->kvs.map (·.1)=vs.map (·.1)
 |_,_,.nil=>rfl
 |_,_,.cons r t=>by rw[List.map_cons,List.map_cons,r.1,KV.fst t]
end
def bL(s:Stmt)(j:Nat):Stmt:=match s with
 | .ClassDef _ _ _ body _ _ _ _ _ _ _=>body.getD j (.Pass ⟨0,0,0,0⟩)
 |_=> .Pass ⟨0,0,0,0⟩
theorem zS:bootBuiltins "range"=some (.type "range"):=by kernel_rfl
structure aL(P:Program)(w:World)(K:Fg)(mg:Str->Option Value)(base:Heap)(CX:fI)(k:Nat)(C:Addr)(m:Str)(ps:List Str)(sp:Sp):Prop where
 ex:∃f fd,eX P w K mg base CX k f fd ps sp/\rD K C m f/\iJ K fd ps []
structure dJ(P:Program)(w:World)(K:Fg)(mg:Str->Option Value)(base:Heap)(CX:fI)(k:Nat)(C:Addr)(ps:List Str)(sp:Sp):Prop where
 ex:∃f fd,eX P w K mg base CX k f fd ps sp/\Mk K C f/\iJ K fd ps []
structure aZ(K:Fg)(C:Addr)(m qual:Str)(st:Stmt):Prop where
 ex:∃f fd,iZ K m qual st f fd/\PySem.W.findIn K (.ref C) m=some (some (.ref f))/\PySem.W.isFn K (.ref f)=true
section
variable{P:Program}{w:World}{K:Fg}{mg:Str->Option Value}{base:Heap}{C:Addr}
theorem bD{m qual:Str}{st:Stmt}{f:Addr}{oc:Value}{od an:Option Addr}{osl:Array (Option Value)}{kV doc pm cdv ct:Value}(a:PySem.W.findIn K (.ref C) m=some (some (.ref f)))(i:PySem.W.isFn K (.ref f)=true)
 (l:K.lookup f=some ⟨oc,od,.func (PySem.W.fnOf m qual (jE st) (eG st) (aN st) .none kV doc pm an cdv ct),osl⟩)(c:PySem.W.codeIn K cdv qual=true)(k:PySem.W.keepIn K (.ref f)=true):aZ K C m qual st:=
 ⟨f,_,uL l c k,a,i⟩
theorem aZ.known{m qual:Str}{st:Stmt}{N ps:List Str}{k:Nat}{sp:Sp}(D:aZ K C m qual st)(S:aV N ps (aN st))
 (hb:∀(kV doc pm:Value) (an:Option Addr) (cdv ct:Value) (us:List Value),us.length=ps.length->bindArgs (PySem.W.fnOf m qual (jE st) (eG st) (aN st) .none kV doc pm an cdv ct) ⟨us,[]⟩=pure (ps.zip us))
 (len:∀vs H Q E,sp vs H Q E->vs.length=ps.length)
 (hbody:∀(f:Addr) (cdv:Value) (A:Around) (outer:List Env) (s:Shared) (H:Hp) (vs:List V) (Q:VK) (E:XK),bT k (A.deeper (envOfC qual (aN st) s.heap.objs.size f cdv))->sp vs H Q E->
  ∃t,eE (cY aC P w K mg base N qual (aN st) f cdv A outer s H E).nox (eG st) t/\t {nx:=fun _ H'=>Q .non H',rt:=Q} (start N vs) H):aL P w K mg base aC (k+ 1) C m ps sp:=by
 obtain⟨f,fd,F,ha,hi⟩:=D.ex
 exact⟨f,fd,F.ok S len fun cdv A outer s H vs Q E hr h=>hbody f cdv A outer s H vs Q E hr h,⟨ha,hi,F.kp⟩,F.binds hb⟩
theorem aL.init{CX:fI}{k:Nat}{ps:List Str}{sp:Sp}(G:aL P w K mg base CX k C "__init__" ps sp)(mk:PySem.W.makesIn K C=true)(kc:PySem.W.keepIn K (.ref C)=true):dJ P w K mg base CX k C ps sp:=by
 obtain⟨f,fd,F,hm,hb⟩:=G.ex
 exact⟨f,fd,F,⟨mk,hm.at_,hm.fn,kc⟩,hb⟩
end
section
variable{X:Cx}{CX:fI}{k:Nat}{C:Addr}{ps:List Str}{sp:Sp}{E:XK}{x m:Str}{p pos apos:Pos}{e o:Expr}{es:List Expr}{t:TA}{ta:TE}
theorem bH{pl:Sem Bool}(he:PE X o ta)(c:cW X.K C)(G:aL X.prog X.w X.K X.mg X.base CX k C m ps sp)(hr:bT k X.A)(hx:iF CX X E)(ha:PA X (e::es) t)
 (hst:starEach (e::es) X.env=(false,eval e X.env)::starEach es X.env:=by rfl)(hpl:(backTo pos (starEach es X.env)).any (·.1)=false:=by rfl)
 (ht:eval (.Call (.Attribute o m apos) (e::es) [] pos) X.env=(do
  let ov<- eval o X.env
  standAt apos.atName
  let (f,first)<- holding [ov] (getMethod ov m pl)
  callWith pos f first (backTo pos (starEach (e::es) X.env)) (backToKw pos (keywordEach [] X.env))):=by rfl):
 PE X (.Call (.Attribute o m apos) (e::es) [] pos) (pZ C m sp [] E ta t):=by
 obtain⟨f,fd,F,hm,hb⟩:=G.ex
 exact a5t (pl:=pl) he c hm F hr hb .nil hx ha hst hpl ht
theorem eO{pl:Sem Bool}(he:PE X o ta)(c:cW X.K C)(G:aL X.prog X.w X.K X.mg X.base CX k C m ps sp)(hr:bT k X.A)(hx:iF CX X E)
 (ht:eval (.Call (.Attribute o m apos) [] [] pos) X.env=(do
  let ov<- eval o X.env
  standAt apos.atName
  let (f,first)<- holding [ov] (getMethod ov m pl)
  callWith pos f first (backTo pos (starEach [] X.env)) (backToKw pos (keywordEach [] X.env))):=by rfl):
 PE X (.Call (.Attribute o m apos) [] [] pos) (pZ C m sp [] E ta kT):=by
 obtain⟨f,fd,F,hm,hb⟩:=G.ex
 exact a69 (pl:=pl) he c hm F hr hb .nil hx ht
theorem jC(G:dJ X.prog X.w X.K X.mg X.base CX k C ps sp)(hr:bT (k+ 1) X.A)(hm:X.mg x=some (.ref C))(hx:iF CX X E)
 (ha:PA X (e::es) t)(hg:Gl X x:=by rfl)(hdb:(x==("__debug__":Str))=false:=by decide)(he:starEach (e::es) X.env=(false,eval e X.env)::starEach es X.env:=by rfl)(hpl:(backTo pos (starEach es X.env)).any (·.1)=false:=by rfl):
 PE X (.Call (.Name x p) (e::es) [] pos) (qK C sp [] E t):=by
 obtain⟨f,fd,F,M,hb⟩:=G.ex
 exact a4S M F hr hg hm hb .nil hx ha hdb he hpl
end
noncomputable def eV (cells:List (Str×Addr)):List (Str×NameKind)->List (Str×Addr)->List (Str×Addr)
 | [],acc=>acc
 |(n,k)::r,acc=>eV cells r (if k== .free then(n,(cells.lookup n).getD 0)::acc else acc)
theorem yD{env:Env}:∀{names:List (Str×NameKind)} {acc:List (Str×Addr)},(∀y∈names,y.2= .free->∃c,env.cells.lookup y.1=some c)->
 (forIn names acc fun(x:Str×NameKind) (cs:List (Str×Addr))=>(do
  let (name,kind):=x
  if kind==NameKind.free then(do let a<- cellOf env name;pure (ForInStep.yield ((name,a)::cs))) else pure (ForInStep.yield cs):Sem (ForInStep (List (Str×Addr)))))=pure (eV env.cells names acc)
 | [],acc,_=>rfl
 |(n,k)::r,acc,h=>by
  rw[List.forIn_cons]
  by_cases hk:(k==NameKind.free)=true
  ·obtain⟨c,hc⟩:=h (n,k) List.mem_cons_self (by simpa using hk)
   have e:cellOf env n=pure c:=by unfold cellOf;rw[show env.cells.lookup n=some c from hc]
   have ih:=yD (env:=env) (names:=r) (acc:=(n,c)::acc) fun y hy=>h y (List.mem_cons_of_mem _ hy)
   show(do let r<- (if k==NameKind.free then(do let a<- cellOf env n;pure (ForInStep.yield ((n,a)::acc))) else pure (ForInStep.yield acc):Sem (ForInStep (List (Str×Addr))));_)=_
   rw[if_pos hk,e,pure_bind,pure_bind]
   refine Eq.trans ih ?_
   show _=pure (eV env.cells r (if(k==NameKind.free)=true then(n,(env.cells.lookup n).getD 0)::acc else acc))
   rw[if_pos hk,show env.cells.lookup n=some c from hc]
   rfl
  ·have ih:=yD (env:=env) (names:=r) (acc:=acc) fun y hy=>h y (List.mem_cons_of_mem _ hy)
   show(do let r<- (if k==NameKind.free then(do let a<- cellOf env n;pure (ForInStep.yield ((n,a)::acc))) else pure (ForInStep.yield acc):Sem (ForInStep (List (Str×Addr))));_)=_
   rw[if_neg hk,pure_bind]
   refine Eq.trans ih ?_
   show _=pure (eV env.cells r (if(k==NameKind.free)=true then(n,(env.cells.lookup n).getD 0)::acc else acc))
   rw[if_neg hk]
theorem yB{cells:List (Str×Addr)}:∀{names:List (Str×NameKind)} {acc:List (Str×Addr)},(∀y∈names,y.2= .free->∃c,cells.lookup y.1=some c)->(∀x c,acc.lookup x=some c->cells.lookup x=some c)->
 ∀x c,(eV cells names acc).lookup x=some c->cells.lookup x=some c
 | [],_,_,h=>h
 |(n,k)::r,acc,hf,h=>by
  refine yB (names:=r) (fun y hy=>hf y (List.mem_cons_of_mem _ hy)) ?_
  intro x c e
  by_cases hk:(k==NameKind.free)=true
  ·obtain⟨c',hc⟩:=hf (n,k) List.mem_cons_self (by simpa using hk)
   have hc':cells.lookup n=some c':=hc
   rw[if_pos hk,hc',List.lookup_cons]at e
   by_cases hx:(x==n)=true
   ·rw[hx]at e
    cases e
    have:x=n:=by simpa using hx
    rw[this]
    exact hc'
   ·rw[show (x==n)=false by simpa using hx]at e
    exact h x c e
  ·rw[if_neg hk]at e
   exact h x c e
theorem a0Q{cells:List (Str×Addr)}:∀{names:List (Str×NameKind)} {acc:List (Str×Addr)} {x:Str},(∃c,acc.lookup x=some c)->∃c,(eV cells names acc).lookup x=some c
 | [],_,_,h=>h
 |(n,k)::r,acc,x,⟨c,h⟩=>by
  refine a0Q (names:=r) ?_
  by_cases hk:(k==NameKind.free)=true
  ·rw[if_pos hk,List.lookup_cons]
   cases hx:x==n with
   |true=>exact⟨_,rfl⟩
   |false=>exact⟨c,h⟩
  ·rw[if_neg hk]
   exact⟨c,h⟩
theorem rY{cells:List (Str×Addr)}:∀{names:List (Str×NameKind)} {acc:List (Str×Addr)} {x:Str},(x,NameKind.free)∈names->∃c,(eV cells names acc).lookup x=some c
 |(n,k)::r,acc,x,h=>by
  rcases List.mem_cons.mp h with e|h
  ·cases e
   refine a0Q (names:=r) ⟨(cells.lookup n).getD 0,?_⟩
   rw[if_pos (by rfl),List.lookup_cons,beq_self_eq_true]
  ·exact rY (names:=r) h
theorem a29{env:Env}:∀{names:List (Str×NameKind)} {x:Str},names.lookup x=some .free->
 (names.map fun(n,k)=>if(k==NameKind.free&&env.scope.kind== .function&&env.kindOf n==some .cell) then(n,NameKind.cell) else(n,k)).lookup x=some .cell\/
 (names.map fun(n,k)=>if(k==NameKind.free&&env.scope.kind== .function&&env.kindOf n==some .cell) then(n,NameKind.cell) else(n,k)).lookup x=some .free
 | [],_,h=>by simp at h
 |(n,k)::r,x,h=>by
  have ih:= @a29 env r x
  rw[List.lookup_cons]at h
  rw[List.map_cons]
  cases hx:x==n with
  |true=>
   rw[hx]at h
   cases h
   by_cases hc:(NameKind.free==NameKind.free&&env.scope.kind== .function&&env.kindOf n==some .cell)=true
   ·simp only[hc,if_true,List.lookup_cons,hx]
    exact .inl trivial
   ·simp only[hc,if_false,List.lookup_cons,hx,Bool.false_eq_true]
    exact .inr trivial
  |false=>
   rw[hx]at h
   by_cases hc:(k==NameKind.free&&env.scope.kind== .function&&env.kindOf n==some .cell)=true
   ·simp only[hc,if_true,List.lookup_cons,hx]
    exact ih h
   ·simp only[hc,if_false,List.lookup_cons,hx,Bool.false_eq_true]
    exact ih h
theorem iY{X:Cx}{scope:Scope}{cp:List (Nat×Str)}{sc:Scope}{N:List Str}(hcell:∀x,X.env.scope.names.lookup x=some .cell->∃c,X.env.cells.lookup x=some c)(hs:X.env.scope=sc:=by rfl)(hN:X.N=N:=by rfl)
 (kind:scope.kind= .function:=by rfl)(plain:∀y∈scope.names,y.2≠ .cell:=by decide)(names:∀y∈scope.names,y.2= .local->scope.names.lookup y.1=some .local:=by decide+kernel)
 (free:∀y∈scope.names,y.2= .free->sc.names.lookup y.1=some .cell:=by decide+kernel)(at':∀p∈cp,N[p.1]?=some p.2/\sc.names.lookup p.2=some .cell/\scope.names.lookup p.2=some .free:=by decide+kernel):
 kO X scope (eV X.env.cells scope.names []) cp:=by
 subst hs hN
 have hf:∀y∈scope.names,y.2= .free->∃c,X.env.cells.lookup y.1=some c:=fun y hy e=>hcell _ (free y hy e)
 refine⟨kind,plain,names,?_,yB hf (fun x c e=>by cases e),fun x h=> ?_,fun p hp=> ?_⟩
 ·show closureFor scope X.env=_
  simp only[closureFor]
  have:=yD (env:=X.env) (acc:=[]) hf
  exact(congrArg (fun z=>z>>=fun r=>pure r) this).trans (pure_bind _ _)
 ·have hm:∀k,(relabel scope X.env).names.lookup x=some k->(k= .cell\/ k= .free)->(x,NameKind.free)∈scope.names:=fun k e hk=>by
   have m:=PySem.mem_of_lookup e
   unfold relabel at m
   obtain⟨⟨n,k'⟩,hy,e'⟩:=List.mem_map.mp m
   have nc:=plain _ hy
   by_cases hc:(k'==NameKind.free&&X.env.scope.kind== .function&&X.env.kindOf n==some .cell)=true
   ·simp only[hc,if_true]at e'
    have e1:n=x:=congrArg (·.1) e'
    have:k'= .free:=by simp only[Bool.and_eq_true,beq_iff_eq]at hc;exact hc.1.1
    subst e1 this
    exact hy
   ·simp only[hc,if_false,Bool.false_eq_true]at e'
    have e1:n=x:=congrArg (·.1) e'
    have e2:k'=k:=congrArg (·.2) e'
    subst e1 e2
    rcases hk with z|z
    ·exact absurd z nc
    ·subst z;exact hy
  rcases h with h|h
  ·exact rY (hm _ h (.inl rfl))
  ·exact rY (hm _ h (.inr rfl))
 ·obtain⟨h1,h2,h3⟩:=at' p hp
  exact⟨h1,.inl h2,a29 h3⟩
def mZ(X:Cx)(d:Addr):Prop:=(∀xs,X.H₀ d≠some (.tup xs))/\(∀o u,X.H₀ d≠some (.frz o u))/\∀ps,X.H₀ d≠some (.tbl ps)
section
variable{X:Cx}{pins:List (Addr×Obj)}{σ:St}{H:Hp}{s:Shared}{d:Addr}
theorem Inv.retag{u u':HO}(I:Inv X pins σ H s)(e:H d=some u)(nf:mZ X d)(no:∀x,u≠ .own x)(nt:∀xs,u≠ .tup xs)(new:cV X.prog X.w (upd H d u') s.heap d u'):Inv X pins σ (upd H d u') s:=by
 have hn:∀b,H b=none->upd H d u' b=none:=fun b n=>by rw[aG (aX e n).symm];exact n
 refine⟨I.ok,I.os,I.bare,⟨I.base.keep,I.base.slot,fun b o q n hx=>hn b (I.base.free b o q n hx),I.base.there,fun b xs q=> ?_,fun b o v q=> ?_,fun b ps q=> ?_⟩,I.loc,I.cell,hn _ I.free,fun x c q=>hn _ (I.freeC x c q),fun p hp=> ?_,fun b v q=> ?_,I.len⟩
 ·have:b≠d:=fun z=>nf.1 xs (z▸q)
  rw[aG this]
  exact I.base.tups b xs q
 ·have:b≠d:=fun z=>nf.2.1 o v (z▸q)
  rw[aG this]
  exact I.base.frzs b o v q
 ·have:b≠d:=fun z=>nf.2.2 ps (z▸q)
  rw[aG this]
  exact I.base.tbls b ps q
 ·obtain⟨a1,a2,a3,a4,a5⟩:=I.pin p hp
  exact⟨a1,hn _ a2,a3,a4,a5⟩
 ·by_cases hb:b=d
  ·subst hb
   rw[aJ]at q
   cases q
   exact new
  ·rw[aG hb]at q
   refine(I.hok b v q).stay (fun _ _ _ r=>r) (fun c r=> ?_) fun c xs r=> ?_
   ·rw[aG (kE r e (fun z=>no _ z.symm))]
    exact r
   ·rw[aG (kE r e (fun z=>nt _ z.symm))]
    exact r
theorem Inv.nof{u:HO}(I:Inv X pins σ H s)(e:H d=some u)(h1:∀xs,u≠ .tup xs)(h2:∀o v,u≠ .frz o v)(h3:∀ps,u≠ .tbl ps):mZ X d:=by
 refine⟨fun xs q=> ?_,fun o v q=> ?_,fun ps q=> ?_⟩
 ·have:=(I.base.tups d xs q).symm.trans e
  exact h1 xs (Option.some.inj this).symm
 ·have:=(I.base.frzs d o v q).symm.trans e
  exact h2 o v (Option.some.inj this).symm
 ·obtain⟨m,q'⟩:=I.base.tbls d ps q
  have:=q'.symm.trans e
  exact h3 _ (Option.some.inj this).symm
theorem Inv.freeze{kvs:List (aB×V)}(I:Inv X pins σ H s)(e:H d=some (.dK kvs)):mZ X d/\∃o,s.heap.get? d=some o/\Inv X pins σ (upd H d (.frz o (.dK kvs))) s:=by
 have nf:mZ X d:=I.nof e (by intro _ z;cases z) (by intro _ _ z;cases z) (by intro _ z;cases z)
 have ok:cV X.prog X.w H s.heap d (.dK kvs):=I.hok d _ e
 obtain⟨z,hs,vs,rel,o,es,ep,ho,r⟩:=id ok
 exact⟨nf,o,ho,I.retag e nf (by intro _ z;cases z) (by intro _ z;cases z) ⟨ho,z,hs,vs,rel,o,es,ep,ho,r⟩⟩
theorem Inv.thaw{o:Obj}{kvs:List (aB×V)}(I:Inv X pins σ H s)(nf:mZ X d)(e:H d=some (.frz o (.dK kvs))):Inv X pins σ (upd H d (.dK kvs)) s:=by
 obtain⟨_,q⟩:=(show cV X.prog X.w H s.heap d (.frz o (.dK kvs)) from I.hok d _ e)
 exact I.retag e nf (by intro _ z;cases z) (by intro _ z;cases z) q
end
noncomputable def rH (a:Addr) (o:Obj) (kvs:List (aB×V)):It:=
 ⟨fun i H=>H a=some (.frz o (.dK kvs))/\i<kvs.length,fun i H x H'=>H'=H/\∃p,kvs[i]?=some p/\x=kV p.1,fun i H=>H a=some (.frz o (.dK kvs))/\kvs.length<=i⟩
theorem a1S{P:Program}{w:World}{H:Hp}{h:Heap}{a:Addr}{o:Obj}{kvs:List (aB×V)}{es:Array DictEntry}{ep:Nat}(ok:bX P w H h)(e:H a=some (.frz o (.dK kvs)))(ho:o.data= .dict es ep):
 (a==sysModules)=false/\∃vs,KV kvs vs/\h.DictAt (fS P w) a vs ep:=by
 obtain⟨e1,z,hs,vs,rel,o',es',ep',ho',r1,r2,r3⟩:=(show cV P w H h a (.frz o (.dK kvs)) from ok a _ e)
 rw[e1]at ho'
 cases ho'
 have:=r2.symm.trans ho
 cases this
 exact⟨hs,vs,rel,o,_,e1,r1,r2,r3⟩
theorem a8N{P:Program}{w:World}{K:Fg}{tg:Expr}(a it:Addr)(o:Obj)(kvs:List (aB×V)){es:Array DictEntry}{ep:Nat}(hod:o.data= .dict es ep):mK P w K tg (rH a o kvs) [it] it (fun i h=>h.IsKeyIter it a i kvs.length ep) where
 mem:=by simp
 obj:=fun i h st b hb=>by
  have e:b=it:=by simpa using hb
  subst e
  obtain⟨o,e,c,d⟩:=st
  exact⟨o,e,fun v z=>by rw[d]at z;cases z⟩
 keep:=fun i h h' st k=>st.at fun o e=>k it (by simp) o e
 item:=by
  intro X hP hw hK hc i pins s σ H E I hf st hg
  subst hP hw hK
  obtain⟨ha,hi⟩:=hg
  obtain⟨_,vs,rel,dat⟩:=a1S I.hok ha hod
  have hl:kvs.length=vs.length:=Paired.length rel
  obtain⟨⟨k,x⟩,hx⟩:∃p,vs[i]?=some p:=⟨vs[i]'(by omega),by simp⟩
  obtain⟨f0,f1,f2,f3,f4,f5⟩:=hf it (by simp)
  rw[hl]at st
  refine wpAny_pyNext_dict_item st dat hx fun u h' hu st' sb=> ?_
  have I1:Inv X pins σ H {s with heap:=h'}:=I.turned (t':=s.toks) (fun b o hb e=>sb.extBut b o hb e) f0 f1 f3 f4 f5
  obtain⟨o1,e1,c1,d1⟩:=id st'
  refine⟨u,rfl,uP (s:={s with heap:=h'}) e1 c1 d1 (by decide) ⟨kV k,H,I1,a47 hu,⟨rfl,?_⟩,by rw[hl];exact st',fun b hb=>(hf b hb).1⟩⟩
  refine⟨kvs[i],by simp[hi],?_⟩
  have e5:(kvs.map (·.1))[i]?=some k:=by rw[KV.fst rel,List.getElem?_map,hx];rfl
  rw[List.getElem?_map,List.getElem?_eq_getElem hi]at e5
  rw[<- Option.some.inj e5]
 done:=by
  intro X hP hw hK hc i pins s σ H E I hf st hg
  subst hP hw hK
  obtain⟨ha,hi⟩:=hg
  obtain⟨_,vs,rel,dat⟩:=a1S I.hok ha hod
  have hl:kvs.length=vs.length:=Paired.length rel
  obtain⟨f0,f1,f2,f3,f4,f5⟩:=hf it (by simp)
  rw[hl]at st
  exact wpAny_pyNext_dict_end (I.ok.hd hc) st dat (by simp;omega) fun h' eb=>⟨rfl,I.turned (t':=s.toks) (fun b o hb e=>eb b o hb e) f0 f1 f3 f4 f5⟩
 self:=fun _ _ _ _ _ st h=>wpAny_pyIter_keyiter st h
section
variable{X:Cx}{tg:Expr}
def a1o(X:Cx)(tl:TE):TI:=fun σ H R=>tl σ H fun x H1=>∃a kvs,x= .ref a/\H1 a=some (.dK kvs)/\(mZ X a->∀o,R (rH a o kvs) (upd H1 a (.frz o (.dK kvs))))
theorem a6I{l:Expr}{tl:TE}(hl:PE X l tl):PI X tg l (a1o X tl):=by
 intro pins s σ H R I h
 refine aS (hl pins s σ H _ I h) ?_
 rintro v s1 ⟨x,H1,I1,r1,q1⟩
 obtain⟨a,kvs,e,ha,q⟩:=q1
 subst e
 cases r1
 obtain⟨nf,o,ho,I2⟩:=I1.freeze ha
 obtain⟨z,hs,vs,rel,o',es,ep,ho',r1,r2,r3⟩:=(show cV X.prog X.w H1 s1.heap a (.dK kvs) from I1.hok a _ ha)
 rw[ho]at ho'
 cases ho'
 have hl:kvs.length=vs.length:=Paired.length rel
 have dat:s1.heap.DictAt (fS X.prog X.w) a vs ep:=⟨o,es,ho,r1,r2,r3⟩
 refine wpAny_pyIter_dict hs dat ?_
 refine⟨s1.heap.objs.size,[s1.heap.objs.size],_,_,_,rfl,I2.kept (t':=s1.toks) fun b o e=>Heap.get?_push_of_some _ e,a8N a _ o kvs r2,⟨_,Heap.get?_push_size _ rfl,rfl,by rw[hl];rfl⟩,fun b hb=> ?_,q nf o⟩
 have e:b=s1.heap.objs.size:=by simpa using hb
 subst e
 exact I2.fpOk (Nat.le_refl _) (I2.hok.fresh (Nat.le_refl _))
noncomputable def a0I (X:Cx) (D:kP):kP where
 nx:=fun σ H=>∃a o kvs,mZ X a/\H a=some (.frz o (.dK kvs))/\D.nx σ (upd H a (.dK kvs))
 rt:=fun v H=>∃a o kvs,mZ X a/\H a=some (.frz o (.dK kvs))/\D.rt v (upd H a (.dK kvs))
 bk:=D.bk
 ct:=D.ct
def a7V(X:Cx)(tl:TE)(g:TG)(tb:TS):TS:=fun D σ H=>zW (a1o X tl) g tb (a0I X D) σ H
theorem a23{iter:Expr}{body:List Stmt}{tl:TE}{g:TG}{tb:TS}{pos:Pos}(hp:PassesOwn (model X.prog X.w) X.A X.env X.xe)(hc:X.calm=true)(hl:PE X iter tl)(hg:PG X tg g)(hb:eE X body tb)
 (hs:∀x,foldedSetIterable iter X.env x=pure x:=by intro _;rfl):PS X (.For tg iter body [] pos) (a7V X tl g tb):=by
 intro pins s σ H D I h
 refine aS (jO hp hc (a6I hl) hg hb hs pins s σ H (a0I X D) I h) fun f s' q=> ?_
 cases f with
 |next=>obtain⟨σ',H',I',a,o,kvs,nf,e,q⟩:=q;exact⟨σ',_,I'.thaw nf e,q⟩
 |cont=>exact q
 |brk=>exact q
 |ret v=>obtain⟨x,σ',H',I',r,a,o,kvs,nf,e,q⟩:=q;exact⟨x,σ',_,I'.thaw nf e,r,q⟩
end
theorem a0P{a:Addr}{ob:Obj}{kvs:List (aB×V)}{g:TG}{tb:TS}{D:kP}{σ:St}{H:Hp}(Pv:Nat->St->Hp->Prop)(h0:Pv 0 σ H)(hl:∀i σ H,i<=kvs.length->Pv i σ H->H a=some (.frz ob (.dK kvs)))
 (hs:∀i p σ H,kvs[i]?=some p->Pv i σ H->g (kV p.1) σ H fun σ2 H2=>tb {D with nx:=Pv (i+ 1),ct:=Pv (i+ 1),bk:=D.nx} σ2 H2)(hd:∀σ H,Pv kvs.length σ H->D.nx σ H):
 ∃W:Nat->Nat->St->Hp->Prop,(∃m,W 0 m σ H)/\∀i m σ H,W i m σ H->
  ((rH a ob kvs).stop i H/\D.nx σ H)\/ ((rH a ob kvs).go i H/\∃N:St->Hp->Prop,(∀σ' H',N σ' H'->∃m',m'<m/\W (i+ 1) m' σ' H')/\∀x H',(rH a ob kvs).yld i H x H'->g x σ H' fun σ2 H2=>tb {D with nx:=N,ct:=N,bk:=D.nx} σ2 H2):=by
 refine⟨fun i m σ H=>m=kvs.length- i/\i<=kvs.length/\Pv i σ H,⟨kvs.length,by simp,Nat.zero_le _,h0⟩,?_⟩
 rintro i m σ H ⟨rfl,hi,p⟩
 have q:=hl i σ H hi p
 by_cases hlt:i<kvs.length
 ·refine .inr ⟨⟨q,hlt⟩,Pv (i+ 1),fun σ' H' p'=>⟨kvs.length- (i+ 1),by omega,rfl,hlt,p'⟩,fun x H' y=> ?_⟩
  obtain⟨e,pr,hp,ex⟩:=y
  subst e ex
  exact hs i pr σ _ hp p
 ·have e:i=kvs.length:=by omega
  subst e
  exact .inl ⟨⟨q,Nat.le_refl _⟩,hd σ H p⟩
section
variable{X:Cx}{e st:Expr}{te:TE}{ts:TO}{p2 pos:Pos}
theorem cB{st:Stmt}:PS X st (fun _ _ _=>False):=fun _ _ _ _ _ _ h=>h.elim
end
structure iO(mg:Str->Option Value)(base:Heap)(c P:Addr):Prop where
 hd:PySem.W.CodeHd base c P
 bt:base.BuiltinsAt mg P
theorem a4E{H:Hp}{a:Addr}{o:HO}(h:H a=some o):upd H a o=H:=by
 funext b
 unfold upd
 split
 ·rename_i e;subst e;exact h.symm
 ·rfl
section
variable{X:Cx}
theorem a2n:∀{xs:List Value} {l c:Nat} {a:Addr},TriplesOk xs->TriplesOk (xs++ [rawInt l,rawInt c,.ref a])
 | [],_,_,_,_=>trivial
 | .int _ _:: .int _ _::_::dQ,_,_,_,t=>a2n (xs:=dQ) t
theorem a7B{ps:Array Value}{l c:Nat}{a:Addr}(t:TriplesOk ps.toList):TriplesOk (ps++ #[rawInt l,rawInt c,.ref a]).toList:=by
 rw[Array.toList_append]
 exact a2n t
end
structure a9h(q:Program)(K:Fg)(z:Addr×Addr):Prop where
 ex:∃x:Str,((recsOf q).find? (fun e=>e.name==x)).isSome=true/\PySem.W.tabIn K x=some z
theorem a2H{K:Fg}{h:Heap}{a:Addr}{ps:Array Value}(hK:PySem.W.noTabs K=true)(X:K.In h)(e:h.get? a=some (PySem.W.tabObj ps)):K.lookup a=none:=by
 cases q:K.lookup a with
 |none=>rfl
 |some o=>
  have e2:=X a o q
  rw[e]at e2
  cases e2
  have h2:=List.all_eq_true.mp hK (a,_) (PySem.W.mem_of_lookupK q)
  exact absurd (show false=true from h2) Bool.false_ne_true
structure ClsM(K:Fg)(C:Addr)(m:Str):Prop where
 ga:PySem.W.specialIn K (.ref C) "__getattribute__"=some (some (.builtin "type.__getattribute__"))
 ex:∃(mc:Value) (f:Addr),PySem.W.readsIn K C mc=true/\PySem.W.findCls K (.ref C) mc m=some (.val (.ref f))/\PySem.W.findIn K (.ref C) m=some (some (.ref f))
section
variable{X:Cx}{CX:fI}{k:Nat}{C:Addr}{ps:List Str}{sp:Sp}{E:XK}{x m:Str}{p pos apos:Pos}{e o:Expr}{es:List Expr}{t:TA}{ta:TE}
theorem a42{pl:Sem Bool}(he:PE X o (tC (.ref C)))(c:ClsM X.K C m)(G:aL X.prog X.w X.K X.mg X.base CX k C m ps sp)(hr:bT k X.A)(hx:iF CX X E)(ha:PA X (e::es) t)
 (hst:starEach (e::es) X.env=(false,eval e X.env)::starEach es X.env:=by rfl)(hpl:(backTo pos (starEach es X.env)).any (·.1)=false:=by rfl)
 (ht:eval (.Call (.Attribute o m apos) (e::es) [] pos) X.env=(do
  let ov<- eval o X.env
  standAt apos.atName
  let (f,first)<- holding [ov] (getMethod ov m pl)
  callWith pos f first (backTo pos (starEach (e::es) X.env)) (backToKw pos (keywordEach [] X.env))):=by rfl):
 PE X (.Call (.Attribute o m apos) (e::es) [] pos) (vC sp [] E t):=by
 obtain⟨f,fd,F,hm,hb⟩:=G.ex
 intro pins s σ H Q I h
 refine PySem.W.methodCall_KW (pl:=pl) (aS (he pins s σ H (fun v H1=>v= .ref C/\H1=H) I ⟨rfl,rfl⟩) ?_) ht
 rintro u s1 ⟨x,H1,I1,rx,q⟩
 obtain⟨rfl,rfl⟩:=q
 obtain rfl:u=Value.ref C:=rx
 obtain⟨mc,f',h1,h2,h3⟩:=c.ex
 have e1:=hm.at_
 rw[h3]at e1
 cases e1
 refine PySem.W.method_cls I1.kIn c.ga (PySem.W.cls_value I1.kIn h1 h2 rfl ?_)
 refine PySem.W.callWith_K (first:=[]) (h₀:=X.base) I.ok.mod.kin hm.kp (aS (ha pos pins _ σ _ _ (I1.tok _) h) fun us s2 ⟨vs,H2,I2,r,q2⟩=>⟨I2.kIn,?_⟩) hst hpl
 exact sN (us:=us) (vs:=vs) F hr hb .nil hx I2 r q2
end
structure yT(K:Fg)(mg:Str->Option Value)(x:Str)(st:Stmt)(z:Addr×Addr):Prop where
 ex:∃f fd,iZ K x x st f fd/\mg x=some (.ref f)/\fd.code= .ref z.1
 tab:PySem.W.tabIn K x=some z
section
variable{P:Program}{w:World}{K:Fg}{mg:Str->Option Value}{base:Heap}
theorem a4i{x:Str}{f c p:Addr}{oc wo:Value}{od wd:Option Addr}{fd:FuncData}{osl ws:Array (Option Value)}{vs:Array Value}(a:PySem.W.nsIn K mainGlobals x=some (some (.ref f)))
 (l:K.lookup f=some ⟨oc,od,.func fd,osl⟩)(hc:fd.code= .ref c)(w:K.lookup c=some ⟨wo,wd,.fields vs,ws⟩)(h:vs[11]?=some (.ref p)):PySem.W.tabIn K x=some (c,p):=by
 unfold PySem.W.tabIn
 rw[a]
 dsimp only
 rw[l]
 dsimp only
 rw[hc]
 dsimp only
 rw[w]
 dsimp only
 rw[h]
theorem a8m{h:Heap}{x:Str}{st:Stmt}{f c p:Addr}{oc wo:Value}{od an wd:Option Addr}{osl ws:Array (Option Value)}{kV doc pm ct:Value}{vs:Array Value}(X:K.In h)(G:h.Ns mainGlobals mg)(a:PySem.W.nsIn K mainGlobals x=some (some (.ref f)))
 (l:K.lookup f=some ⟨oc,od,.func (PySem.W.fnOf x x (jE st) (eG st) (aN st) .none kV doc pm an (.ref c) ct),osl⟩)(hc:PySem.W.codeIn K (.ref c) x=true)(k:PySem.W.keepIn K (.ref f)=true)
 (w:K.lookup c=some ⟨wo,wd,.fields vs,ws⟩)(t:vs[11]?=some (.ref p)):yT K mg x st (c,p):=
 ⟨⟨f,_,uL l hc k,PySem.W.mg_of X G a,rfl⟩,a4i a l rfl w t⟩
end
section
variable{X:Cx}
theorem op_inD(hu:X.A.units+ 64<cLine):cX X (compareOp .In) (fun x y H Q=>∃d ds,Dt X.K H x d/\Dt X.K H y (.list ds)/\d.canLay0=true/\(PyData.list ds).canLay0=true/\d.depth<=62/\Q (.bl (ds.any fun z=>PyData.eqv z d)) H):=by
 intro pins s σ H x y v u Q I rx ry h
 obtain⟨d,ds,hx,hy,lx,ly,hd,q⟩:=h
 obtain⟨as,ra⟩:=Dt.reads I hx rx lx
 obtain⟨bs,rb⟩:=Dt.reads I hy ry ly
 exact SeqAt.in_list_reads rb ra ly lx (by have:=Nat.min_le_right (PyData.depthAll ds) d.depth;omega) ⟨.bl _,H,I,rfl,q⟩
theorem a6J(hu:X.A.units+ 64<cLine):cX X (compareOp .NotIn) (fun x y H Q=>∃d ds,Dt X.K H x d/\Dt X.K H y (.list ds)/\d.canLay0=true/\(PyData.list ds).canLay0=true/\d.depth<=62/\Q (.bl (!ds.any fun z=>PyData.eqv z d)) H):=by
 intro pins s σ H x y v u Q I rx ry h
 obtain⟨d,ds,hx,hy,lx,ly,hd,q⟩:=h
 obtain⟨as,ra⟩:=Dt.reads I hx rx lx
 obtain⟨bs,rb⟩:=Dt.reads I hy ry ly
 exact SeqAt.notIn_list_reads rb ra ly lx (by have:=Nat.min_le_right (PyData.depthAll ds) d.depth;omega) ⟨.bl _,H,I,rfl,q⟩
end
abbrev iD(p:Str×Str):PyData:=.tuple [.str p.1,.str p.2]
theorem vN(p q:Str×Str):PyData.eqv (iD p) (iD q)=decide (p=q):=by
 obtain⟨a,b⟩:=p
 obtain⟨c,d⟩:=q
 show(a==c&&(b==d&&true))=decide ((a,b)=(c,d))
 rw[Bool.and_true]
 by_cases h1:a=c
 ·by_cases h2:b=d
  ·subst h1;subst h2
   simp
  ·rw[decide_eq_false (fun e=>h2 (Prod.mk.inj e).2),beq_eq_false_iff_ne.mpr h2,Bool.and_false]
 ·rw[decide_eq_false (fun e=>h1 (Prod.mk.inj e).1),beq_eq_false_iff_ne.mpr h1,Bool.false_and]
theorem a0u(p:Str×Str):∀ps:List (Str×Str),((ps.map iD).any fun z=>PyData.eqv z (iD p))=decide (p∈ps)
 | []=>rfl
 |q::ps=>by
  rw[List.map_cons,List.any_cons,a0u p ps,vN]
  by_cases h:p=q
  ·subst h;simp
  ·rw[decide_eq_false (fun e=>h e.symm),Bool.false_or]
   simp[h]
noncomputable def fJ (ps:List (Str×Str)):List (Str×Str):=ps.foldl (fun acc p=>if p∈acc then acc else acc++ [p]) []
theorem a9z(ps:List (Str×Str))(p:Str×Str):fJ (ps++ [p])=if p∈fJ ps then fJ ps else fJ ps++ [p]:=by
 unfold fJ
 rw[List.foldl_append]
 rfl
theorem a0e:∀ps:List (Str×Str),(fJ ps).length<=ps.length:=by
 suffices h:∀(ps acc:List (Str×Str)),(ps.foldl (fun acc p=>if p∈acc then acc else acc++ [p]) acc).length<=acc.length+ ps.length by
  intro ps
  have:=h ps []
  simpa [fJ] using this
 intro ps
 induction ps with
 |nil=>intro acc;simp
 |cons p ps ih=>
  intro acc
  rw[List.foldl_cons]
  refine Nat.le_trans (ih _) ?_
  split
  ·simp
  ·simp;omega
theorem zO:∀{ps:List (Str×Str)} {p:Str×Str},p∈fJ ps->p∈ps:=by
 suffices h:∀(ps acc:List (Str×Str)) (p:Str×Str),p∈ps.foldl (fun acc p=>if p∈acc then acc else acc++ [p]) acc->p∈acc\/ p∈ps by
  intro ps p hp
  rcases h ps [] p hp with h|h
  ·cases h
  ·exact h
 intro ps
 induction ps with
 |nil=>intro acc p h;exact .inl h
 |cons q ps ih=>
  intro acc p h
  rw[List.foldl_cons]at h
  rcases ih _ p h with h|h
  ·split at h
   ·exact .inl h
   ·rcases List.mem_append.mp h with h|h
    ·exact .inl h
    ·exact .inr (by rw[List.mem_singleton.mp h];exact List.mem_cons_self)
  ·exact .inr (List.mem_cons_of_mem _ h)
def Fz(o:Obj):HO:=.frz o (.ext fun _=>True)
theorem yU{P:Program}{w:World}{H:Hp}{h:Heap}{a:Addr}{o:Obj}(e:h.get? a=some o):cV P w H h a (Fz o):=⟨e,trivial,⟨o,e⟩,fun _ _ _ _=>trivial⟩
theorem kQ{P:Program}{w:World}{H:Hp}{h:Heap}{a:Addr}{o:Obj}(x:bX P w H h)(e:H a=some (Fz o)):h.get? a=some o:=(x a _ e).1
def zR(q:Str)(o:Obj):Prop:=∃vs t,o.data= .fields vs/\vs[1]?=some (.str q t)
def eN(P:Addr)(S:List Addr):HO:=.ext fun h=>∃ps:Array Value,h.get? P=some (PySem.W.tabObj ps)/\TriplesOk ps.toList/\∀pos cv,codeAmong pos ps.toList=some cv->∃c∈S,cv= .ref c
def gP(q:Str)(H:Hp)(P:Addr):Prop:=∃S,H P=some (eN P S)/\∀c∈S,∃o,H c=some (Fz o)/\zR q o
def gF(q:Str)(params:Arguments)(body:Expr)(scope:Scope)(clos:List (Str×Addr))(H:Hp)(fa:Addr):Prop:=
 ∃pm c ctv o,H fa=some (Fz (PySem.W.kla_obj "<lambda>" q params body scope clos pm c ctv))/\H c=some (Fz o)/\zR q o
theorem a03{P:Program}{w:World}{H:Hp}{h:Heap}{a:Addr}{ps:Array Value}{S:List Addr}(e:h.get? a=some (PySem.W.tabObj ps))(t:TriplesOk ps.toList)(c:∀pos cv,codeAmong pos ps.toList=some cv->∃c∈S,cv= .ref c):cV P w H h a (eN a S):=
 ⟨⟨ps,e,t,c⟩,⟨_,e⟩,fun h1 h2 ⟨qs,e1,t1⟩ k=>⟨qs,k _ e1,t1⟩⟩
theorem a1C{pos:Pos}{l c:Nat}{a:Addr}{cv:Value}:∀{xs:List Value},TriplesOk xs->codeAmong pos (xs++ [rawInt l,rawInt c,.ref a])=some cv->codeAmong pos xs=some cv\/ cv= .ref a
 | [],_,h=>by
  right
  simp only[List.nil_append,rawInt,codeAmong]at h
  split at h
  ·exact(Option.some.inj h).symm
  ·cases h
 | .int x _:: .int y _::z::dQ,t,h=>by
  simp only[List.cons_append,codeAmong]at h|-
  split at h
  ·rename_i e
   rw[if_pos e]
   exact .inl h
  ·rename_i e
   rw[if_neg e]
   exact a1C (xs:=dQ) t h
theorem a1e{P:Program}{w:World}{H:Hp}{h:Heap}{c:Addr}{o:Obj}(x:bX P w H h)(hn:H c=none)(e:h.get? c=some o):bX P w (upd H c (Fz o)) h:=fun b u q=>by
 by_cases hb:b=c
 ·subst hb;rw[aJ]at q;cases q;exact yU e
 ·rw[aG hb]at q
  exact(x b u q).stay (fun _ _ _ z=>z) (fun d z=>by rw[aG (aX z hn)];exact z) fun d xs z=>by rw[aG (aX z hn)];exact z
def a0O(P:Addr)(H H':Hp):Prop:=∀b o,b≠P->H b=some o->H' b=some o
def a7f(P:Addr)(q:Str)(params:Arguments)(body:Expr)(scope:Scope)(clos:List (Str×Addr)):TE:=fun _ H Q=>gP q H P/\∀a H',H a=none->a0O P H H'->gP q H' P->gF q params body scope clos H' a->Q (.ref a) H'
section
variable{X:Cx}
theorem wH{params:Arguments}{body:Expr}{scope:Scope}{pos:Pos}{c P:Addr}{clos:List (Str×Addr)}(M:iO X.mg X.base c P)(hc:X.env.code= .ref c)(hcl:closureFor scope X.env=pure clos)(hdef:defaultsOf params X.env=([],[])):
 PE X (.Lambda params body scope pos) (a7f P (X.env.qual++ "<lambda>") params body scope clos):=by
 intro pins s σ H Q I h
 obtain⟨⟨S,hP,hS⟩,q⟩:=h
 obtain⟨⟨ps,e,t,tc⟩,_,_⟩:=I.hok P _ hP
 have hg:s.heap.Ns mainGlobals X.mg:=I.mod.glob.keeps I.bk
 have C:=M.hd.keeps I.bk
 have hb:s.heap.BuiltinsAt X.mg P:=let ⟨bm,o,b1,b2,b3,b4,b5,r⟩:=M.bt;⟨bm,o,b1,b2,b3,b4,I.bk _ _ b5,r⟩
 have hgP:mainGlobals≠P:=fun z=>by
  obtain⟨o,es,ep,e1,hd,_⟩:=hg
  rw[z,e]at e1;cases e1;cases hd
 refine PySem.W.kla_eval hdef ?_
 cases hf:codeAmong pos ps.toList with
 |none=>
  refine PySem.W.kla_makeFunction (mg:=X.mg) hcl I.ok.glob hg hc C e t hf hgP hb fun c' ctv h' tk hx hge hlt hrec htb=> ?_
  obtain⟨c1,oc,vs,tq,ec,goc,doc,dq⟩:=hrec
  obtain rfl:c'=c1:=by cases ec;rfl
  have nP:∀b,H b=none->b≠P:=fun b n z=>by rw[z,hP]at n;cases n
  have hPlt:P<s.heap.objs.size:=Heap.lt_size e
  have goc':(h'.push (PySem.W.kla_obj "<lambda>" (X.env.qual++ "<lambda>") params body scope clos ((X.mg "__name__").getD .none) c' ctv)).get? c'=some oc:=Heap.get?_push_of_some _ goc
  have cP:c'≠P:=Nat.ne_of_gt (Nat.lt_of_lt_of_le hPlt hge)
  have aP:h'.objs.size≠P:=Nat.ne_of_gt (Nat.lt_of_lt_of_le hPlt (Nat.le_of_lt (Nat.lt_of_le_of_lt hge hlt)))
  have ac:h'.objs.size≠c':=Nat.ne_of_gt hlt
  have fr:∀b,s.heap.objs.size<=b->H b=none:=fun b z=>I.hok.fresh z
  have hk:∀b u,b≠P->s.heap.get? b=some u->(h'.push (PySem.W.kla_obj "<lambda>" (X.env.qual++ "<lambda>") params body scope clos ((X.mg "__name__").getD .none) c' ctv)).get? b=some u:=fun b u nb eb=>Heap.get?_push_of_some _ (hx b u nb eb)
  have hok1:bX X.prog X.w (upd H P (eN P (c'::S))) (h'.push (PySem.W.kla_obj "<lambda>" (X.env.qual++ "<lambda>") params body scope clos ((X.mg "__name__").getD .none) c' ctv)):=
   I.hok.write (x:=P) (e:=P) (by rw[hP];trivial) (.inl rfl) hk ⟨_,Heap.get?_push_of_some _ htb⟩ (a03 (Heap.get?_push_of_some _ htb) (a7B t) fun pos cv z=>by
    rw[Array.toList_append]at z
    rcases a1C t z with z|z
    ·obtain⟨d,hd,r⟩:=tc pos cv z
     exact⟨d,List.mem_cons_of_mem _ hd,r⟩
    ·exact⟨c',List.mem_cons_self,z⟩)
  have n1:upd H P (eN P (c'::S)) c'=none:=by rw[aG cP];exact fr _ hge
  have hok2:=a1e hok1 n1 goc'
  have n2:upd (upd H P (eN P (c'::S))) c' (Fz oc) h'.objs.size=none:=by rw[aG ac,aG aP];exact fr _ (Nat.le_of_lt (Nat.lt_of_le_of_lt hge hlt))
  have hok3:=a1e hok2 n2 (Heap.get?_push_size _ rfl)
  have sm:∀b,b≠P->H b≠none->upd (upd (upd H P (eN P (c'::S))) c' (Fz oc)) h'.objs.size (Fz (PySem.W.kla_obj "<lambda>" (X.env.qual++ "<lambda>") params body scope clos ((X.mg "__name__").getD .none) c' ctv)) b=H b:=fun b z1 z2=>by
   have y1:b≠h'.objs.size:=fun z=>z2 (by rw[z];exact fr _ (Nat.le_of_lt (Nat.lt_of_le_of_lt hge hlt)))
   have y2:b≠c':=fun z=>z2 (by rw[z];exact fr _ hge)
   rw[aG y1,aG y2,aG z1]
  have sv:∀b o,b≠P->H b=some o->upd (upd (upd H P (eN P (c'::S))) c' (Fz oc)) h'.objs.size (Fz (PySem.W.kla_obj "<lambda>" (X.env.qual++ "<lambda>") params body scope clos ((X.mg "__name__").getD .none) c' ctv)) b=some o:=fun b o z1 z2=>by
   rw[sm b z1 (by rw[z2];intro z;cases z)];exact z2
  have J:=I.step (h':=h'.push (PySem.W.kla_obj "<lambda>" (X.env.qual++ "<lambda>") params body scope clos ((X.mg "__name__").getD .none) c' ctv)) (g':=s.gens) (t':=tk) (d':=s.drawn) (ch:=[]) (fun _ z=>nomatch z)
   (fun b o _ _ _ eb n=>hk b o (nP b n) eb) (fun b o _ _ _ eb n=>⟨o.slots,hk b o (nP b n) eb⟩)
   (fun b o _ eb n=>by rw[aG (Nat.ne_of_lt (Nat.lt_of_lt_of_le (Heap.lt_size eb) (Nat.le_of_lt (Nat.lt_of_le_of_lt hge hlt)))),aG (Nat.ne_of_lt (Nat.lt_of_lt_of_le (Heap.lt_size eb) hge)),aG (nP b n)];exact n)
   (fun b o _ eb=>by
    by_cases z:b=P
    ·subst z;exact⟨_,Heap.get?_push_of_some _ htb⟩
    ·exact⟨o,hk b o z eb⟩)
   (fun b xs z=>sv b _ (fun y=>by rw[y,hP]at z;cases z) z) (fun b o u z=>sv b _ (fun y=>by rw[y,hP]at z;cases z) z) (fun b ps z=>⟨#[],by rw[sv b _ (fun y=>by rw[y,hP]at z;cases z) z];simp⟩)
   (fun m ⟨o,es,ep,ho,r⟩=>⟨o,es,ep,hk _ o (nP _ I.free) ho,r⟩) hok3 I.bare
  refine⟨.ref h'.objs.size,_,J,rfl,q _ _ (fr _ (Nat.le_of_lt (Nat.lt_of_le_of_lt hge hlt))) (fun b o z1 z2=>sv b o z1 z2) ⟨c'::S,?_,fun d hd=> ?_⟩ ⟨_,c',ctv,oc,aJ,?_,vs,tq,doc,dq⟩⟩
  ·rw[aG (Ne.symm aP),aG (Ne.symm cP),aJ]
  ·rcases List.mem_cons.mp hd with rfl|hd
   ·exact⟨oc,by rw[aG (Ne.symm ac),aJ],vs,tq,doc,dq⟩
   ·obtain⟨o,e1,e2⟩:=hS d hd
    exact⟨o,sv d _ (fun y=>by rw[y,hP]at e1;cases e1) e1,e2⟩
  ·rw[aG (Ne.symm ac),aJ]
 |some cv=>
  obtain⟨d,hd,rfl⟩:=tc _ _ hf
  obtain⟨od,e1,e2⟩:=hS d hd
  refine PySem.W.kla_makeFunctionHit (mg:=X.mg) hcl I.ok.glob hg hc C e t hf hb fun ctv h' tk hk hsz=> ?_
  have fr:H h'.objs.size=none:=I.hok.fresh hsz
  have sv:∀b o,H b=some o->upd H h'.objs.size (Fz (PySem.W.kla_obj "<lambda>" (X.env.qual++ "<lambda>") params body scope clos ((X.mg "__name__").getD .none) d ctv)) b=some o:=fun b o z=>by
   rw[aG (aX z fr)];exact z
  refine⟨.ref h'.objs.size,_,I.laid (a:=h'.objs.size) (o:=Fz (PySem.W.kla_obj "<lambda>" (X.env.qual++ "<lambda>") params body scope clos ((X.mg "__name__").getD .none) d ctv)) (fun b o eb=>Heap.get?_push_of_some _ (hk b o eb)) hsz (yU (Heap.get?_push_size _ rfl)),rfl,
   q _ _ fr (fun b o _ z=>sv b o z) ⟨S,sv _ _ hP,fun d' hd'=> ?_⟩ ⟨_,d,ctv,od,aJ,sv _ _ e1,e2⟩⟩
  obtain⟨o,e3,e4⟩:=hS d' hd'
  exact⟨o,sv _ _ e3,e4⟩
end
abbrev eU:=Addr->Option Obj
noncomputable def dR (f:eU) (H:Hp):Hp:=fun b=>match f b with
 |some o=>some (Fz o)
 |none=>H b
noncomputable def dO (f:eU) (H:Hp):Hp:=fun b=>match f b with
 |some _=>none
 |none=>H b
theorem lI{f:eU}{H:Hp}{b:Addr}{o:Obj}(e:f b=some o):dR f H b=some (Fz o):=by unfold dR;rw[e]
theorem eJ{f:eU}{H:Hp}{b:Addr}(e:f b=none):dR f H b=H b:=by unfold dR;rw[e]
theorem kC{f:eU}{H:Hp}{b:Addr}{o:Obj}(e:f b=some o):dO f H b=none:=by unfold dO;rw[e]
theorem dN{f:eU}{H:Hp}{b:Addr}(e:f b=none):dO f H b=H b:=by unfold dO;rw[e]
theorem zE{f:eU}{H:Hp}(h:∀b o,f b=some o->H b=none):dO f (dR f H)=H:=by
 funext b
 cases e:f b with
 |none=>rw[dN e,eJ e]
 |some o=>rw[kC e,h b o e]
section
variable{P:Program}{w:World}{H H':Hp}{h h':Heap}{f:eU}{fs:List Addr}
theorem a2D(x:bX P w H h)(hf:∀b o,f b=some o->H b=none/\h.get? b=some o):bX P w (dR f H) h:=fun b u q=>by
 have keep:∀c v,H c=some v->dR f H c=some v:=fun c v z=>by
  cases e:f c with
  |none=>rw[eJ e];exact z
  |some o=>rw[(hf c o e).1]at z;cases z
 cases e:f b with
 |none=>
  rw[eJ e]at q
  exact(x b u q).stay (fun _ _ _ z=>z) (fun c z=>keep c _ z) fun c xs z=>keep c _ z
 |some o=>
  rw[lI e]at q
  cases q
  exact yU (hf b o e).2
theorem a0h(x:bX P w H h)(hf:∀b o,f b=some o->H b=some (Fz o)):bX P w (dO f H) h:=fun b u q=>by
 cases e:f b with
 |some o=>rw[kC e]at q;cases q
 |none=>
  rw[dN e]at q
  refine(x b u q).stay (fun _ _ _ z=>z) (fun c z=> ?_) fun c xs z=> ?_
  ·cases e2:f c with
   |none=>rw[dN e2];exact z
   |some o=>rw[hf c o e2]at z;cases z
  ·cases e2:f c with
   |none=>rw[dN e2];exact z
   |some o=>rw[hf c o e2]at z;cases z
theorem a33(hf:∀b o,f b=some o->H b=none/\h.get? b=some o)(u:Un fs [] (dR f H) H' h h')(hok:bX P w H' h'):Un fs [] H (dO f H') h h'/\bX P w (dO f H') h':=by
 have at':∀b o,f b=some o->H' b=some (Fz o):=fun b o e=>u.frzs b o _ (lI e)
 have nf:∀b v,H b=some v->f b=none:=fun b v z=>by
  cases e:f b with
  |none=>rfl
  |some o=>rw[(hf b o e).1]at z;cases z
 refine⟨⟨fun b o e n hb hx=> ?_,fun b o e n hb hx=> ?_,fun b o e n hx=> ?_,fun b o e hx=>u.there b o e hx,fun b xs z=> ?_,fun b o v z=> ?_,fun b ps z=> ?_⟩,a0h hok at'⟩
 ·cases e2:f b with
  |none=>exact u.keep b o e (by rw[eJ e2];exact n) hb hx
  |some o2=>
   have:=(hf b o2 e2).2
   rw[e]at this
   cases this
   exact kQ hok (at' b o e2)
 ·cases e2:f b with
  |none=>exact u.slot b o e (by rw[eJ e2];exact n) hb hx
  |some o2=>
   have:=(hf b o2 e2).2
   rw[e]at this
   cases this
   exact⟨o.slots,kQ hok (at' b o e2)⟩
 ·cases e2:f b with
  |none=>rw[dN e2];exact u.free b o e (by rw[eJ e2];exact n) hx
  |some o2=>exact kC e2
 ·rw[dN (nf b _ z)];exact u.tups b xs (by rw[eJ (nf b _ z)];exact z)
 ·rw[dN (nf b _ z)];exact u.frzs b o v (by rw[eJ (nf b _ z)];exact z)
 ·rw[dN (nf b _ z)];exact u.tbls b ps (by rw[eJ (nf b _ z)];exact z)
theorem a5y(hf:∀b o,f b=some o->H b=some (Fz o))(hok0:bX P w H h)(hfs:∀b∈fs,H b=none)(u:Un fs [] (dO f H) H' h h')(hok:bX P w H' h'):Un fs [] H (dR f H') h h'/\bX P w (dR f H') h':=by
 have fr:∀b o,f b=some o->H' b=none/\h'.get? b=some o:=fun b o e=>by
  have g:=kQ hok0 (hf b o e)
  exact⟨u.free b o g (kC e) (by simp),u.keep b o g (kC e) (fun z=>by have:=hfs b z;rw[hf b o e]at this;cases this) (by simp)⟩
 have nf:∀b,H b=none->f b=none:=fun b z=>by
  cases e:f b with
  |none=>rfl
  |some o=>rw[hf b o e]at z;cases z
 have nz:∀b v,H b=some v->(∀o,v≠Fz o)->f b=none:=fun b v z ne=>by
  cases e:f b with
  |none=>rfl
  |some o=>rw[hf b o e]at z;exact absurd (Option.some.inj z).symm (ne o)
 refine⟨⟨fun b o e n hb hx=>u.keep b o e (by rw[dN (nf b n)];exact n) hb hx,fun b o e n hb hx=>u.slot b o e (by rw[dN (nf b n)];exact n) hb hx,fun b o e n hx=> ?_,fun b o e hx=>u.there b o e hx,fun b xs z=> ?_,fun b o v z=> ?_,fun b ps z=> ?_⟩,a2D hok fr⟩
 ·rw[eJ (nf b n)];exact u.free b o e (by rw[dN (nf b n)];exact n) hx
 ·have e:=nz b _ z (fun o q=>by cases q)
  rw[eJ e];exact u.tups b xs (by rw[dN e];exact z)
 ·cases e:f b with
  |none=>rw[eJ e];exact u.frzs b o v (by rw[dN e];exact z)
  |some o2=>rw[lI e,<- hf b o2 e];exact z
 ·have e:=nz b _ z (fun o q=>by cases q)
  rw[eJ e];exact u.tbls b ps (by rw[dN e];exact z)
end
structure pN(X:Cx)(σ:St)(H:Hp)(f:eU):Prop where
 free:∀b o,f b=some o->H b=none
 cell:∀x c,X.env.cells.lookup x=some c->∃o v,f c=some o/\o.data= .cell v
 val:∀(i:Nat) x v,X.N[i]?=some x->σ[i]?=some (some v)->X.env.scope.names.lookup x=some .cell->∃c o u,X.env.cells.lookup x=some c/\f c=some o/\o.data= .cell (some u)/\bG v u
 inj:∀x y c,X.env.cells.lookup x=some c->X.env.cells.lookup y=some c->x=y
theorem a7c{X:Cx}{pins:List (Addr×Obj)}{σ:St}{H:Hp}{s:Shared}(I:Inv X pins σ H s)(hfn:∀x,X.fn x=true):∃f:eU,pN X σ H f/\(∀b o,f b=some o->H b=none/\s.heap.get? b=some o/\X.base.get? b=none/\b∉gH X.stack):=by
 classical
 let f:eU:=fun b=>if(∃x,X.env.cells.lookup x=some b) then s.heap.get? b else none
 have fe:∀{b o},f b=some o->(∃x,X.env.cells.lookup x=some b)/\s.heap.get? b=some o:=fun{b o} e=>by
  by_cases z:∃x,X.env.cells.lookup x=some b
  ·exact⟨z,by rw[show f b=s.heap.get? b from if_pos z]at e;exact e⟩
  ·rw[show f b=none from if_neg z]at e;cases e
 have ff:∀{x c},X.env.cells.lookup x=some c->f c=s.heap.get? c:=fun{x c} e=>if_pos ⟨x,e⟩
 refine⟨f,⟨fun b o e=> ?_,fun x c e=> ?_,fun i x v e1 e2 e3=> ?_,I.ok.inj⟩,fun b o e=> ?_⟩
 ·obtain⟨⟨x,z⟩,_⟩:=fe e
  exact I.freeC x b z
 ·obtain⟨v,o,ho,hd⟩:=I.cell x c e
  exact⟨o,v,by rw[ff e];exact ho,hd⟩
 ·obtain⟨m,_,hl⟩:=I.loc
  obtain⟨u,r,l⟩:=hl i x v e1 e2 (.inr (.inl e3))
  rcases l with⟨k,_⟩|⟨_,c,ec,o,ho,hd⟩
  ·have k':X.env.scope.names.lookup x=some .local:=k
   rw[e3]at k';cases k'
  ·exact⟨c,o,u,ec,by rw[ff ec];exact ho,hd,r⟩
 ·obtain⟨⟨x,z⟩,g⟩:=fe e
  refine⟨I.freeC x b z,g,?_,fun hb=> ?_⟩
  ·exact Heap.get?_none_of_le (Nat.le_trans I.ok.bsz (I.ok.cab x b (hfn x) z))
  ·rcases List.mem_cons.mp (I.stkSub b hb)with e2|hb
   ·exact I.cne x b z e2
   ·obtain⟨_,ob,ho,_⟩:=I.ok.funs.mem hb
    exact absurd (Nat.lt_of_lt_of_le (Heap.lt_size ho) (I.ok.cab x b (hfn x) z)) (Nat.lt_irrefl _)
theorem a4c{X:Cx}{k:Nat}{fa:Addr}{fd:FuncData}{ps:List Str}{sp:Sp}{pins:List (Addr×Obj)}{σ:St}{H:Hp}{s:Shared}{Q:VK}{us:List Value}{vs:List V}(hfn:∀x,X.fn x=true)(F:eX X.prog X.w X.K X.mg X.base aC k fa fd ps sp)(hr:bT k X.A)(hb:iJ X.K fd ps [])
 (I:Inv X pins σ H s)(r:bE vs us)(h:∀f,pN X σ H f->sp vs (dR f H) (fun v H'=>Q v (dO f H')) E0):wpAny (model X.prog X.w) X.A (call (.ref fa) us) (EP X pins σ Q) X.xe s:=by
 obtain⟨f,L,hf⟩:=a7c I hfn
 have q:=h f L
 have hl:(us++ []).length=ps.length:=by rw[List.append_nil,<- r.length];exact F.len _ _ _ _ q
 have e0:kZ X.prog X.w X.K X.mg X.base X.A X.stack s (dR f H):=by
  have e:=I.env0
  refine⟨e.frames,e.mod,fun b o z=>⟨(e.bs b o z).1,?_⟩,e.bsz,e.funs,fun b z=> ?_,a2D e.hok fun b o z=>⟨(hf b o z).1,(hf b o z).2.1⟩,e.bare⟩
  ·cases q2:f b with
   |none=>rw[eJ q2];exact(e.bs b o z).2
   |some ob=>rw[(hf b ob q2).2.2.1]at z;cases z
  ·cases q2:f b with
   |none=>rw[eJ q2];exact e.frf b z
   |some ob=>exact absurd z (hf b ob q2).2.2.2
 have bd:=hb s us I.kIn hl
 rw[List.append_nil]at bd
 refine wpAny_call (codeAny_mono (F.run X.A X.stack s (dR f H) ⟨us,[]⟩ us vs _ E0 hr e0 bd r q) fun r s' hq=> ?_)
 cases r with
 |error e=>exact False.elim hq
 |ok fl=>
  cases fl with
  |ret u=>
   obtain⟨v,H',os,bare,un,hok,rv,qv⟩:=hq
   obtain⟨u1,u2⟩:=a33 (fun b o z=>⟨(hf b o z).1,(hf b o z).2.1⟩) un hok
   exact I.after ⟨v,_,os,bare,u1,u2,rv,qv⟩
  |next=>exact False.elim hq
  |brk=>exact False.elim hq
  |cont=>exact False.elim hq
def a9A(X:Cx)(C:Addr)(m:Str)(sp:Sp)(ta:TE)(t:TA):TE:=fun σ H Q=>ta σ H fun x H1=>∃a dx fs,x= .ref a/\H1 a=some (.ins C dx fs)/\fs.lookup m=none/\
 t σ H1 fun vs H2=>∀f,pN X σ H2 f->sp (x::vs) (dR f H2) (fun v H'=>Q v (dO f H')) E0
section
variable{X:Cx}{k:Nat}{C:Addr}{ps:List Str}{sp:Sp}{x m:Str}{p pos apos:Pos}{e o:Expr}{es:List Expr}{t:TA}{ta:TE}
theorem a7I{pl:Sem Bool}(he:PE X o ta)(c:cW X.K C)(G:aL X.prog X.w X.K X.mg X.base aC k C m ps sp)(hr:bT k X.A)(ha:PA X (e::es) t)(hfn:∀x,X.fn x=true:=by exact fun _=>rfl)
 (hst:starEach (e::es) X.env=(false,eval e X.env)::starEach es X.env:=by rfl)(hpl:(backTo pos (starEach es X.env)).any (·.1)=false:=by rfl)
 (ht:eval (.Call (.Attribute o m apos) (e::es) [] pos) X.env=(do
  let ov<- eval o X.env
  standAt apos.atName
  let (f,first)<- holding [ov] (getMethod ov m pl)
  callWith pos f first (backTo pos (starEach (e::es) X.env)) (backToKw pos (keywordEach [] X.env))):=by rfl):
 PE X (.Call (.Attribute o m apos) (e::es) [] pos) (a9A X C m sp ta t):=by
 obtain⟨f,fd,F,hm,hb⟩:=G.ex
 intro pins s σ H Q I h
 refine PySem.W.methodCall_KW (pl:=pl) (aS (he pins s σ H _ I h) ?_) ht
 rintro u s1 ⟨x,H1,I1,rx,a,dx,fs,ex,ea,l,q⟩
 subst ex
 obtain rfl:u=Value.ref a:=rx
 refine uX I1 ea c hm l ?_
 refine PySem.W.callWith_K (first:=[.ref a]) (h₀:=X.base) I.ok.mod.kin hm.kp (aS (ha pos pins s1 σ H1 _ I1 q) fun us s2 ⟨vs,H2,I2,r,q2⟩=>⟨I2.kIn,?_⟩) hst hpl
 exact a4c (us:=.ref a::us) (vs:=.ref a::vs) hfn F hr hb I2 (.cons rfl r) q2
end
structure eF(P:Program)(w:World)(K:Fg)(mg:Str->Option Value)(base:Heap)(k:Nat)(fa:Addr)(sp:Sp):Prop where
 fn:∀vs H Q E,sp vs H Q E->∃c d fd sl,H fa=some (Fz ⟨c,d,.func fd,sl⟩)
 run:∀(A:Around) (outer:List Env) (s:Shared) (H:Hp) (us:List Value) (vs:List V) (Q:VK) (E:XK),bT k A->kZ P w K mg base A outer s H->bE vs us->sp vs H Q E->
  codeAny (model P w) A (.call (.ref fa) ⟨us,[]⟩) (CR aC outer P w H s Q E) s
theorem eF.mono{P:Program}{w:World}{K:Fg}{mg:Str->Option Value}{base:Heap}{j k:Nat}{fa:Addr}{sp:Sp}(F:eF P w K mg base j fa sp)(h:j<=k):eF P w K mg base k fa sp:=
 ⟨F.fn,fun A outer s H us vs Q E hr=>F.run A outer s H us vs Q E (hr.mono h)⟩
theorem eF.imp{P:Program}{w:World}{K:Fg}{mg:Str->Option Value}{base:Heap}{k:Nat}{fa:Addr}{sp sp':Sp}(F:eF P w K mg base k fa sp)(h:∀vs H Q E,sp' vs H Q E->sp vs H Q E):eF P w K mg base k fa sp':=
 ⟨fun vs H Q E z=>F.fn vs H Q E (h _ _ _ _ z),fun A outer s H us vs Q E hr e0 r z=>F.run A outer s H us vs Q E hr e0 r (h _ _ _ _ z)⟩
def a9c(P:Program)(w:World)(K:Fg)(mg:Str->Option Value)(base:Heap)(k:Nat)(i:Nat)(t:TA):TE:=fun σ H Q=>∃fa sp,σ[i]?=some (some (.ref fa))/\eF P w K mg base k fa sp/\t σ H fun vs H1=>sp vs H1 Q E0
section
variable{X:Cx}{k:Nat}{x:Str}{p pos:Pos}{e:Expr}{es:List Expr}{t:TA}
theorem a7A(i:Nat)(hr:bT k X.A)(ha:PA X (e::es) t)(hN:X.N[i]?=some x:=by rfl)(hv:uD X.env.scope x:=by first|exact Or.inl rfl|exact Or.inr (Or.inl rfl)|exact Or.inr (Or.inr rfl))(hd:(x==("__debug__":Str))=false:=by decide)
 (hcd:(x==("__classdict__":Str))=false:=by decide)(he:starEach (e::es) X.env=(false,eval e X.env)::starEach es X.env:=by rfl)(hpl:(backTo pos (starEach es X.env)).any (·.1)=false:=by rfl):
 PE X (.Call (.Name x p) (e::es) [] pos) (a9c X.prog X.w X.K X.mg X.base k i t):=by
 intro pins s σ H Q I h
 obtain⟨fa,sp,e1,F,h⟩:=h
 refine wpAny_Call_Name_kw (aS (a20 hN hv hd hcd pins s σ H (fun v H1=>v= .ref fa/\H1=H) I ⟨_,e1,rfl,rfl⟩) ?_)
 rintro u s1 ⟨v,H1,I1,rv,q⟩
 obtain⟨rfl,rfl⟩:=q
 obtain rfl:u=Value.ref fa:=rv
 show wpAny _ _ (callWith pos (.ref fa) [] (backTo pos (starEach (e::es) X.env)) []) _ _ _
 rw[he]
 refine PySem.W.callWith_of (P:=fun h=>∃c d fd sl,h.get? fa=some ⟨c,d,.func fd,sl⟩) (by show((false||(backTo pos (starEach es X.env)).any (·.1))||false)=false;rw[hpl];rfl)
  (fun h ⟨c,d,fd,sl,z⟩=>⟨.frame,.inl rfl,(PySem.W.Looks.ld (part:=none) z).andThen .now⟩) (PySem.Calls.evalArgs_plain ?_)
 have ha':=ha pos pins s1 σ H1 _ I1 h
 rw[he]at ha'
 refine aS ha' ?_
 rintro us s2 ⟨vs,H2,I2,r,q2⟩
 obtain⟨c,d,fd,sl,z⟩:=F.fn _ _ _ _ q2
 refine⟨⟨c,d,fd,sl,kQ I2.hok z⟩,?_⟩
 refine wpAny_call (codeAny_mono (F.run X.A X.stack s2 H2 us vs Q E0 hr I2.env0 r q2) fun r s' hq=> ?_)
 cases r with
 |error e=>exact False.elim hq
 |ok fl=>
  cases fl with
  |ret u=>exact I2.after hq
  |next=>exact False.elim hq
  |brk=>exact False.elim hq
  |cont=>exact False.elim hq
end
theorem a1N{α:Type}{x:Str}{u:α}:∀{l:List (Str×α)},(l.map (·.1)).Nodup->(x,u)∈l->l.lookup x=some u
 |(y,v)::r,nd,h=>by
  rw[List.map_cons,List.nodup_cons]at nd
  rw[List.lookup_cons]
  rcases List.mem_cons.mp h with e|h2
  ·cases e;rw[beq_self_eq_true]
  ·have:(x==y)=false:=by
    cases z:x==y with
    |false=>rfl
    |true=>
     have:x=y:=by simpa using z
     subst this
     exact absurd (show x∈r.map (·.1) from List.mem_map.mpr ⟨(x,u),h2,rfl⟩) nd.1
   rw[this]
   exact a1N nd.2 h2
theorem a5e{ps:List Str}{us:List Value}{i:Nat}{x:Str}{u:Value}(nd:ps.Nodup)(hl:us.length=ps.length)(h1:ps[i]?=some x)(h2:us[i]?=some u):(ps.zip us).reverse.lookup x=some u:=by
 refine a1N ?_ ?_
 ·rw[List.map_reverse]
  refine List.pairwise_reverse.mpr ?_
  rw[List.map_fst_zip (by omega)]
  exact nd.imp Ne.symm
 ·rw[List.mem_reverse]
  have:(ps.zip us)[i]?=some (x,u):=by rw[List.getElem?_zip_eq_some];exact⟨h1,h2⟩
  exact List.mem_of_getElem? this
noncomputable def oA (P:Program) (w:World) (K:Fg) (mg:Str->Option Value) (base:Heap) (N:List Str) (q:Str) (scope:Scope) (fa:Addr) (cd:Value) (clos:List (Str×Addr)) (A:Around) (outer:List Env) (s:Shared) (H:Hp):Cx where
 prog:=P
 w:=w
 K:=K
 mg:=mg
 base:=base
 A:=A.deeper (PySem.W.envX q scope s.heap.objs.size fa cd clos)
 N:=N
 s₀:=s
 H₀:=H
 env:=PySem.W.envX q scope s.heap.objs.size fa cd clos
 outer:=outer
 stack:=PySem.W.envX q scope s.heap.objs.size fa cd clos::outer
 ex:=[]
 calm:=true
 fn:=fun _=>false
 pn:=[]
 xe:=fun _ _=>False
def mS(fa:Addr)(f:eU)(q:Str)(params:Arguments)(body:Expr)(scope:Scope)(clos:List (Str×Addr))(n:Nat)(spB:List V->Hp->VK->Prop):Sp:=fun vs H Q _=>
 vs.length=n/\gF q params body scope clos H fa/\(∀b o,f b=some o->H b=some (Fz o))/\spB vs (dO f H) fun v H'=>(∀b o,f b=some o->H' b=none)->Q v (dR f H')
theorem a2Y{X:Cx}{σ:St}{H₁:Hp}{f:eU}{q:Str}{params:Arguments}{body:Expr}{scope:Scope}{fa:Addr}{ps:List Str}{cp:List (Nat×Str)}{cv:List V}{k:Nat}{spB:List V->Hp->VK->Prop}(L:pN X σ H₁ f)
 (hcell:∀x,X.env.scope.names.lookup x=some .cell->∃c,X.env.cells.lookup x=some c)
 (hcv:cp.map (fun p=>σ[p.1]?)=cv.map fun v=>some (some v))
 (hcp:∀p∈cp,X.N[p.1]?=some p.2/\X.env.scope.names.lookup p.2=some .cell/\scope.names.lookup p.2=some .free)
 (free:∀y∈scope.names,y.2= .free->X.env.scope.names.lookup y.1=some .cell)
 (kind:scope.kind= .function)(co:scope.isCoroutine=false)(gen:scope.isGenerator=false)(nocell:∀y∈scope.names,y.2≠ .cell)(par:∀x∈ps,scope.names.lookup x=some .local)(nd:(ps++ cp.map (·.2)).Nodup)
 (hb:∀(pm ctv:Value) (c:Addr) (clos:List (Str×Addr)) (us:List Value),us.length=ps.length->bindArgs (PySem.W.kla_fn "<lambda>" q params body scope clos pm (.ref c) ctv) ⟨us,[]⟩=pure (ps.zip us))
 (hbody:∀(cd:Value) (A:Around) (outer:List Env) (s:Shared) (H:Hp) (vs:List V) (Q:VK),bT k (A.deeper (PySem.W.envX q scope s.heap.objs.size fa cd (eV X.env.cells scope.names [])))->spB vs H Q->
  ∃t,PE (oA X.prog X.w X.K X.mg X.base (ps++ cp.map (·.2)) q scope fa cd (eV X.env.cells scope.names []) A outer s H) body t/\t ((vs++ cv).map some) H Q):
 eF X.prog X.w X.K X.mg X.base (k+ 1) fa (mS fa f q params body scope (eV X.env.cells scope.names []) ps.length spB):=by
 have sub:=yB (cells:=X.env.cells) (names:=scope.names) (acc:=[]) (fun y hy e=>hcell _ (free y hy e)) (fun x c e=>by cases e)
 refine⟨fun vs H Q E ⟨_,⟨pm,c,ctv,o,e1,_⟩,_⟩=>⟨_,_,_,_,e1⟩,fun A outer s H us vs Q E hr e0 r ⟨hl,⟨pm,c,ctv,o,e1,e2,ws,tq,e3,e4⟩,hf,hsp⟩=> ?_⟩
 have hus:us.length=ps.length:=by rw[<- r.length];exact hl
 have hcd:s.heap.CodeRec (.ref c) q:=⟨c,o,ws,tq,rfl,kQ e0.hok e2,e3,e4⟩
 have lim:s.heap.NoLimit:=e0.mod.nolimit.keeps fun b o e=>(e0.bs b o e).1
 refine PySem.W.kla_callFunE hr.depth (kQ e0.hok e1) rfl co gen rfl hcd ?_
 rw[hb pm ctv c _ us hus]
 refine wpAny_pure (wpAny_newFunctionEnv nocell (fun y hy=>par y.1 (List.of_mem_zip hy).1) (fun h₁ hns hsb=>⟨lim.fresh _ hsb,?_⟩) kind)
 show codeAny _ _ (.expr body (PySem.W.envX q scope s.heap.objs.size fa (.ref c) (eV X.env.cells scope.names []))) _ _
 have hk:∀b o,s.heap.get? b=some o->h₁.get? b=some o:=fun b o e=>hsb.extBut b o (Nat.ne_of_lt (Heap.lt_size e)) (Heap.get?_push_of_some _ e)
 obtain⟨t,ht,hq⟩:=hbody (.ref c) A outer s (dO f H) vs _ (hr.deeper _) hsp
 have hok':bX X.prog X.w (dO f H) s.heap:=a0h e0.hok hf
 have hl2:(vs++ cv).length=(ps++ cp.map (·.2)).length:=by
  rw[List.length_append,List.length_append,List.length_map,hl]
  have:=congrArg List.length hcv
  rw[List.length_map,List.length_map]at this
  omega
 have cl:∀x c,(eV X.env.cells scope.names []).lookup x=some c->∃o v,f c=some o/\o.data= .cell v/\h₁.get? c=some o:=fun x c e=>by
  obtain⟨o,v,h1,h2⟩:=L.cell x c (sub x c e)
  exact⟨o,v,h1,h2,hk _ _ (kQ e0.hok (hf c o h1))⟩
 have unN:∀b,H b=none->dO f H b=none:=fun b z=>by
  cases e:f b with
  |none=>rw[dN e];exact z
  |some o=>exact kC e
 have I:Inv (oA X.prog X.w X.K X.mg X.base (ps++ cp.map (·.2)) q scope fa (.ref c) (eV X.env.cells scope.names []) A outer s (dO f H)) [] ((vs++ cv).map some) (dO f H) {s with heap:=h₁,toks:=s.toks+ (ps.zip us).length}:=by
  have noA:∀b:Addr,b∉(oA X.prog X.w X.K X.mg X.base (ps++ cp.map (·.2)) q scope fa (.ref c) (eV X.env.cells scope.names []) A outer s (dO f H)).ex:=fun b z=>absurd (show b∈([]:List Addr) from z) (by simp)
  refine⟨⟨e0.mod,kind,rfl,rfl,Nat.le_refl _,fun y z c h1 h2=>L.inj y z c (sub _ _ h1) (sub _ _ h2),fun y hy=> ?_,(fun y c z _=>by cases z),fun _=>hr.hd,Around.frames_deeper e0.frames,.inr ⟨rfl,rfl⟩,fun b z=>absurd z (noA b),fun b o z=>⟨(e0.bs b o z).1,unN b (e0.bs b o z).2⟩,e0.bsz,fun b _ _=>noA b,fun b z=>absurd z (noA b),e0.funs,fun b z=>unN b (e0.frf b z)⟩,
   rfl,e0.bare,Un.kept hk,⟨_,hns,fun i y v h1 h2 h3=> ?_⟩,fun y c h=> ?_,hok'.fresh (Nat.le_refl _),fun y c h=> ?_,fun p hp=>absurd (show p∈([]:List (Addr×Obj)) from hp) (by simp),hok'.kept hk,by rw[List.length_map];exact hl2⟩
  ·have hy':scope.names.lookup y=some .cell\/ scope.names.lookup y=some .free:=hy
   rcases hy' with hy'|hy'
   ·exact absurd rfl (nocell _ (PySem.mem_of_lookup hy'))
   ·exact rY (PySem.mem_of_lookup hy')
  ·rw[List.getElem?_map]at h2
   have h2':(vs++ cv)[i]?=some v:=by
    cases z:(vs++ cv)[i]? with
    |none=>rw[z]at h2;cases h2
    |some v'=>rw[z]at h2;cases h2;rfl
   by_cases hi:i<ps.length
   ·have h1':ps[i]?=some y:=by
     have:(ps++ cp.map (·.2))[i]?=some y:=h1
     rw[List.getElem?_append_left hi]at this
     exact this
    rw[List.getElem?_append_left (by omega)]at h2'
    obtain⟨u,hu,ru⟩:=r.get h2'
    exact⟨u,ru,.inl ⟨par y (List.mem_of_getElem? h1'),a5e (List.nodup_append.mp nd).1 hus h1' hu⟩⟩
   ·have h1':(cp.map (·.2))[i- ps.length]?=some y:=by
     have:(ps++ cp.map (·.2))[i]?=some y:=h1
     rw[List.getElem?_append_right (by omega)]at this
     exact this
    rw[List.getElem?_append_right (by omega),hl]at h2'
    rw[List.getElem?_map]at h1'
    cases hp:cp[i- ps.length]? with
    |none=>rw[hp]at h1';cases h1'
    |some p=>
     rw[hp]at h1'
     cases h1'
     have h4:σ[p.1]?=some (some v):=by
      have:=congrArg (fun l=>l[i- ps.length]?) hcv
      simp only[List.getElem?_map,hp,h2',Option.map_some]at this
      exact Option.some.inj this
     obtain⟨g1,g2,g3⟩:=hcp p (List.mem_of_getElem? hp)
     obtain⟨c',o',u,k1,k2,k3,k4⟩:=L.val p.1 p.2 v g1 h4 g2
     obtain⟨c2,k5⟩:=rY (cells:=X.env.cells) (acc:=[]) (PySem.mem_of_lookup g3)
     have k6:=sub _ _ k5
     rw[k1]at k6
     cases k6
     exact⟨u,k4,.inr ⟨.inr g3,c',k5,o',hk _ _ (kQ e0.hok (hf c' o' k2)),k3⟩⟩
  ·obtain⟨o,v,_,z1,z2⟩:=cl y c h
   exact⟨v,o,z2,z1⟩
  ·obtain⟨o,v,z,_⟩:=cl y c h
   exact kC z
 refine PySem.W.kla_codeExpr (wpAny_mono (ht [] _ _ _ _ I hq) (?_) fun e s' hs=>False.elim hs)
 rintro u s' ⟨v,H',J,rv,qv⟩
 obtain⟨u1,u2⟩:=a5y hf e0.hok e0.frf (show Un (gH outer) [] (dO f H) H' s.heap s'.heap from J.base) J.hok
 exact⟨v,dR f H',J.os,J.bare,u1,u2,rv,qv fun b o e=>J.base.free b o (kQ e0.hok (hf b o e)) (kC e) (by simp[oA])⟩
abbrev rA(tabs:List (Addr×Addr))(H:Hp):Prop:=∀z∈tabs,H z.2=some (eN z.2 [])
abbrev mL(tabs:List (Addr×Addr))(H:Hp):Prop:=∀z∈tabs,∃S,H z.2=some (eN z.2 S)
theorem a4x{P:Program}{w:World}{K:Fg}{mg mb:Str->Option Value}{CX:fI}{k:Nat}{fa a:Addr}{fd:FuncData}{x:Str}{sp:Sp}{s₁:Shared}{vs:List Value}{ns:List Int}{tabs:List (Addr×Addr)}
 (KX:K.In s₁.heap)(hns:s₁.heap.Ns mainGlobals mg)(hb:s₁.heap.Ns builtinsNs mb)(hbb:∀x:Str,x≠ "__name__" ->mb x=bootBuiltins x)(hlim:s₁.heap.NoLimit)(hg:s₁.gens= #[])
 (ha:s₁.heap.get? a=some {cls:=.type "list",data:=.seq vs.toArray})(hi:IntsAre vs ns)(hl:ns.length<=sizeLine)(hr:bT k callerA)
 (hT:∀z∈tabs,PySem.W.CodeHd s₁.heap z.1 z.2/\s₁.heap.get? z.2=some (PySem.W.tabObj #[])/\K.lookup z.2=none)
 (hbm:∃bm ob,mg "__builtins__"=some (.ref bm)/\bm≠builtinsNs/\s₁.heap.get? bm=some ob/\ob.cls= .type "module" /\ob.dict=some builtinsNs/\ob.data= .plain)
 (F:∀base:Heap,K.In base->base.Ns mainGlobals mg->(∀z∈tabs,iO mg base z.1 z.2)->eX P w K mg base CX k fa fd [x] sp)(hbind:∀(s:Shared) (u:Value),BindsTo s fd ⟨[u],[]⟩ [(x,u)])
 (hsp:∀H:Hp,rA tabs H->aO K H a (ns.map V.int)->sp [.ref a] H (fun v H'=>v= .bl true/\mL tabs H') fun _ _ _=>False)
 (hCX:∀H e s',CX [] H s₁ (fun _ _ _=>False) e s'->False):
 codeAny (model P w) callerA (.call (.ref fa) ⟨[.ref a],[]⟩) (fun r s'=>r= .ok (.ret (.bool true))/\OldK s₁.heap s'.heap/\s'.os=s₁.os/\AllBare s'.gens) s₁:=by
 have rv:=a0b hi
 have lenV:=hi.length
 have neT:∀z∈tabs,z.2≠a:=fun z hz e=>by
  have e1:=(hT z hz).2.1
  rw[e,ha]at e1
  cases e1
 have core:∀H:Hp,rA tabs H->(∀b,H b=none\/ (b=a/\K.lookup a=none/\∃o xs,H b=some (.frz o (.lst xs)))\/ ∃z∈tabs,b=z.2)->aO K H a (ns.map V.int)->bX P w H s₁.heap->
  codeAny (model P w) callerA (.call (.ref fa) ⟨[.ref a],[]⟩) (fun r s'=>r= .ok (.ret (.bool true))/\OldK s₁.heap s'.heap/\s'.os=s₁.os/\AllBare s'.gens) s₁:=by
  intro H hTb hO hS hok
  have base_of:∀{b:Addr} {o:Obj},s₁.heap.get? b=some o->H b=none->(lC s₁.heap H).get? b=some o:=fun e n=>a46 e n
  have free:∀{b:Addr} {o:Obj},s₁.heap.get? b=some o->o≠{cls:=.type "list",data:=.seq vs.toArray} ->o≠PySem.W.tabObj #[] ->H b=none:=fun{b o} e n1 n2=>by
   rcases hO b with z|⟨rfl,_,_⟩|⟨z,hz,rfl⟩
   ·exact z
   ·rw[ha]at e;exact absurd (Option.some.inj e).symm n1
   ·rw[(hT z hz).2.1]at e;exact absurd (Option.some.inj e).symm n2
  have noA:∀{b:Addr} {o:Obj} {es:Array DictEntry} {ep:Nat},s₁.heap.get? b=some o->o.data= .dict es ep->H b=none:=fun{b o es ep} e d=>
   free e (fun z=>by rw[z]at d;cases d) (fun z=>by rw[z]at d;cases d)
  have nsK:∀{b:Addr} {m:Str->Option Value},s₁.heap.Ns b m->(lC s₁.heap H).Ns b m:=fun{b m} ⟨o,es,ep,e,d,r⟩=>⟨o,es,ep,base_of e (noA e d),d,r⟩
  have hKb:K.In (lC s₁.heap H):=fun b o e=>base_of (KX b o e) (by
   rcases hO b with z|⟨rfl,z,_⟩|⟨z,hz,rfl⟩
   ·exact z
   ·rw[z]at e;cases e
   ·rw[(hT z hz).2.2]at e;cases e)
  have hM:Mod K mg (lC s₁.heap H):=⟨hKb,nsK hns,⟨mb,nsK hb,hbb⟩,let ⟨mc,h1,h2⟩:=hlim;⟨mc,nsK h1,h2⟩⟩
  have e0:kZ P w K mg (lC s₁.heap H) callerA [] s₁ H:=⟨rfl,hM,fun b o e=>a6Z e,Nat.le_of_eq (a8X _ _),trivial,fun b hb=>absurd (show b∈([]:List Addr) from hb) (by simp),hok,.of_eq hg⟩
  have hMk:∀z∈tabs,iO mg (lC s₁.heap H) z.1 z.2:=fun z hz=>by
   obtain⟨⟨o,ws,file,tf,flags,tg,inF,text,tt,e1,e2,r⟩,e3,_⟩:=hT z hz
   obtain⟨bm,ob,b1,b2,b3,b4,b5,b6⟩:=hbm
   refine⟨⟨o,ws,file,tf,flags,tg,inF,text,tt,base_of e1 (free e1 (fun q=>by rw[q]at e2;exact absurd (Value.type.inj e2) (by decide)) (fun q=>by rw[q]at e2;cases e2)),e2,r⟩,bm,ob,b1,b2,fun q=> ?_,fun q=> ?_,base_of b3 (free b3 (fun q=>by rw[q]at b4;exact absurd (Value.type.inj b4) (by decide)) (fun q=>by rw[q]at b4;cases b4)),b4,b5,b6⟩
   ·obtain⟨o',es,ep,e',d',_⟩:=hns
    rw[q,e']at b3;cases b3;rw[d']at b6;cases b6
   ·rw[q,e3]at b3;cases b3;cases b4
  refine codeAny_mono ((F _ hKb (nsK hns) hMk).run callerA [] s₁ H ⟨[.ref a],[]⟩ [.ref a] [.ref a] _ _ hr e0 (hbind s₁ (.ref a)) (.cons rfl .nil) (hsp H hTb hS)) fun r s' h=> ?_
  cases r with
  |error e=>exact(hCX H e s' h).elim
  |ok fl=>
   cases fl with
   |next=>exact False.elim h
   |brk=>exact False.elim h
   |cont=>exact False.elim h
   |ret u=>
    obtain⟨v,H',os,bare,un,hok',r',q⟩:=h
    obtain⟨q',hT'⟩:v= .bl true/\mL tabs H':=q
    subst q'
    obtain rfl:u=Value.bool true:=r'
    refine⟨rfl,⟨fun b o e=> ?_,fun b o e=>un.there b o e (by simp)⟩,os,bare⟩
    rcases hO b with z|⟨rfl,_,ob,xs,z⟩|⟨z,hz,rfl⟩
    ·exact .inl (un.keep b o e z (by intro z;exact absurd (show b∈([]:List Addr) from z) (by simp)) (by simp))
    ·have z2:=un.frzs b ob _ z
     obtain⟨e1,_⟩:=hok b _ z
     obtain⟨e2,_⟩:=hok' b _ z2
     rw[e]at e1;cases e1
     exact .inl e2
    ·obtain⟨S4,z4⟩:=hT' z hz
     obtain⟨⟨ps,e4,_⟩,_⟩:=hok' z.2 _ z4
     have e3:=(hT z hz).2.1
     rw[e3]at e
     cases e
     exact .inr (.inl ⟨((hT z hz).1.tab e3).isCodeTable,rfl,#[],ps,rfl,by rw[e4,Array.empty_append]⟩)
 have hTok:∀(H:Hp) (z:Addr×Addr),z∈tabs->cV P w H s₁.heap z.2 (eN z.2 []):=fun H z hz=>a03 (hT z hz).2.1 trivial fun pos cv e=>by cases e
 classical
 let Ht:Hp:=fun b=>if b∈tabs.map (·.2) then some (eN b []) else none
 have hHt:rA tabs Ht:=fun z hz=>if_pos (List.mem_map_of_mem hz)
 have ofHt:∀b u,Ht b=some u->∃z∈tabs,b=z.2/\u=eN z.2 []:=fun b u e=>by
  by_cases hb:b∈tabs.map (·.2)
  ·have e':=(if_pos hb).symm.trans e
   obtain⟨z,hz,rfl⟩:=List.mem_map.mp hb
   exact⟨z,hz,rfl,(Option.some.inj e').symm⟩
  ·have e':=(if_neg hb).symm.trans e
   cases e'
 cases hk:K.lookup a with
 |some o=>
  have e:=KX a o hk
  rw[ha]at e
  cases e
  refine core Ht hHt (fun b=> ?_) (.inr ⟨_,vs.toArray,_,hk,rfl,rfl,rfl,by rw[List.size_toArray,lenV];exact hl,by simpa using rv⟩) (fun b u z=> ?_)
  ·cases q:Ht b with
   |none=>exact .inl rfl
   |some u=>obtain⟨z,hz,e,_⟩:=ofHt b u q;exact .inr (.inr ⟨z,hz,e⟩)
  ·obtain⟨y,hy,rfl,rfl⟩:=ofHt b u z
   exact hTok _ y hy
 |none=>
  refine core (fun b=>if b=a then some (.frz {cls:=.type "list",data:=.seq vs.toArray} (.lst (ns.map V.int))) else Ht b) (fun z hz=> ?_) (fun b=> ?_) (.inl (.inr ⟨{cls:=.type "list",data:=.seq vs.toArray},if_pos rfl⟩)) (fun b u z=> ?_)
  ·exact(if_neg (neT z hz)).trans (hHt z hz)
  ·by_cases hb:b=a
   ·exact .inr (.inl ⟨hb,hk,_,_,if_pos hb⟩)
   ·cases q:Ht b with
    |none=>exact .inl (if_neg hb)
    |some u=>obtain⟨z,hz,e,_⟩:=ofHt b u q;exact .inr (.inr ⟨z,hz,e⟩)
  ·by_cases hb:b=a
   ·have z':=(if_pos hb).symm.trans z
    cases z'
    subst hb
    exact⟨ha,by rw[List.length_map];exact hl,vs,_,rv,ha⟩
   ·have z':=(if_neg hb).symm.trans z
    obtain⟨y,hy,rfl,rfl⟩:=ofHt b u z'
    exact hTok _ y hy
def a7l(P:Program)(w:World)(K:Fg)(mg:Str->Option Value)(base:Heap)(k:Nat)(m:Str)(ta:TE)(t:TA):TE:=fun σ H Q=>ta σ H fun x H1=>∃a C dx fs fa sp,x= .ref a/\H1 a=some (.ins C dx fs)/\cW K C/\bV K C m/\fs.lookup m=some (.ref fa)/\eF P w K mg base k fa sp/\t σ H1 fun vs H2=>sp vs H2 Q E0
section
variable{X:Cx}{k:Nat}{m:Str}{p pos apos:Pos}{e o:Expr}{es:List Expr}{ta:TE}{t:TA}
theorem a5f{pl:Sem Bool}(he:PE X o ta)(hr:bT k X.A)(ha:PA X (e::es) t)
 (hst:starEach (e::es) X.env=(false,eval e X.env)::starEach es X.env:=by rfl)(hpl:(backTo pos (starEach es X.env)).any (·.1)=false:=by rfl)
 (ht:eval (.Call (.Attribute o m apos) (e::es) [] pos) X.env=(do
  let ov<- eval o X.env
  standAt apos.atName
  let (f,first)<- holding [ov] (getMethod ov m pl)
  callWith pos f first (backTo pos (starEach (e::es) X.env)) (backToKw pos (keywordEach [] X.env))):=by rfl):
 PE X (.Call (.Attribute o m apos) (e::es) [] pos) (a7l X.prog X.w X.K X.mg X.base k m ta t):=by
 intro pins s σ H Q I h
 refine PySem.W.methodCall_KW (pl:=pl) (aS (he pins s σ H _ I h) ?_) ht
 rintro u s1 ⟨x,H1,I1,rx,a,C,dx,fs,fa,sp,ex,ea,c,n,l,F,q⟩
 subst ex
 obtain rfl:u=Value.ref a:=rx
 obtain⟨mA,O,_,_,_,_⟩:=rE I1.hok ea
 obtain⟨od,J,_⟩:=O.look
 refine PySem.W.method_usual (r:=none) I1.kIn J (PySem.W.plainGet_of (c.get m)).1 (PySem.W.plainGet_of (c.get m)).2 n rfl ?_
 refine a0J I1 ea c n l fun u2 s2 I2 ru=> ?_
 obtain rfl:u2=Value.ref fa:=ru
 show wpAny _ _ (callWith pos (.ref fa) [] (backTo pos (starEach (e::es) X.env)) []) _ _ _
 rw[hst]
 refine PySem.W.callWith_of (P:=fun h=>∃c d fd sl,h.get? fa=some ⟨c,d,.func fd,sl⟩) (by show((false||(backTo pos (starEach es X.env)).any (·.1))||false)=false;rw[hpl];rfl)
  (fun h ⟨c,d,fd,sl,z⟩=>⟨.frame,.inl rfl,(PySem.W.Looks.ld (part:=none) z).andThen .now⟩) (PySem.Calls.evalArgs_plain ?_)
 have ha':=ha pos pins s2 σ H1 _ I2 q
 rw[hst]at ha'
 refine aS ha' ?_
 rintro us s3 ⟨vs,H2,I3,r,q2⟩
 obtain⟨c,d,fd,sl,z⟩:=F.fn _ _ _ _ q2
 refine⟨⟨c,d,fd,sl,kQ I3.hok z⟩,?_⟩
 refine wpAny_call (codeAny_mono (F.run X.A X.stack s3 H2 us vs Q E0 hr I3.env0 r q2) fun r s' hq=> ?_)
 cases r with
 |error e=>exact False.elim hq
 |ok fl=>
  cases fl with
  |ret u=>exact I3.after hq
  |next=>exact False.elim hq
  |brk=>exact False.elim hq
  |cont=>exact False.elim hq
end
structure a39 where
 nx:St->Hp->Prop
 rt:V->St->Hp->Prop
abbrev TSR:=a39->St->Hp->Prop
structure PEw(X:Cx)(e:Expr)(t:TE):Prop where
 run:PE X e t
structure PAw(X:Cx)(es:List Expr)(t:TA):Prop where
 run:PA X es t
structure PTw(X:Cx)(e:Expr)(t:TT):Prop where
 run:PT X e t
structure PSw(X:Cx)(st:Stmt)(t:TS):Prop where
 run:PS X st t
structure PSsw(X:Cx)(st:List Stmt)(t:TS):Prop where
 run:eE X st t
theorem a7H:typeLookup (.type "list_reverseiterator") "__len__"=pure none:=by rw[typeLookup_type,builtinLookup_eq_fast];kernel_rfl
theorem a4T:typeLookup (.type "list_reverseiterator") "__length_hint__"=pure (some (.builtin "list_reverseiterator.__length_hint__")):=by rw[typeLookup_type,builtinLookup_eq_fast];kernel_rfl
section
variable{prog:Program}{w:World}{A:Around}{s:Shared}
theorem a6D{E:Value->Shared->Prop}{r:Addr}{Q:Bool->Shared->Prop}(hT:s.TypeIs (.ref r) "list_reverseiterator")(h:Q false s):wpAny (model prog w) A (Builtin.List.listLengthHint (.ref r)) Q E s:=by
 unfold Builtin.List.listLengthHint
 refine wpAny_bind (wpAny_specialOf hT a7H ?_)
 show wpAny _ A (specialOf (Value.ref r) (Str.ofString "__length_hint__")>>=_) _ _ _
 refine wpAny_bind (wpAny_specialOf hT a4T ?_)
 generalize hid:("list_reverseiterator.__length_hint__":String)=id0
 wp_delta
 rw[show splitId id0=some ("list_reverseiterator","__length_hint__") from by subst hid;decide+kernel]
 subst hid
 refine wpAny_bind (wpAny_isInstance (b:=true) hT (by rw[isSubtype_type];kernel_rfl) ?_)
 exact wpAny_pure h
theorem a7C{R:Result->Shared->Prop}(hh:A.handled=none){I l S:Addr}{items:Array Value}(hne:l≠I)(hit:s.heap.IsRevIter I l ((items.size:Int)- 1))(hl:s.heap.IsList l items)(hSI:S≠I)(hSl:S≠l)
 (hS:s.heap.get? S=some {cls:=.type "list",data:=.seq #[]})(hn:items.size<=sizeLine)
 (hR:∀h' tk acc' c',(∀b o,b≠S->b≠I->s.heap.get? b=some o->h'.get? b=some o)->h'.get? S=some {cls:=.type "list",dict:=none,data:=.seq acc' c',slots:= #[]} ->ItemsOf (fun i v=>items[items.size- 1- i]?=some v) acc' items.size->R (.ok (.ret .none)) {s with heap:=h',toks:=tk}):
 wpAny (model prog w) A.in1 (Builtin.«list.__init__» ⟨[.ref S,.ref I],[]⟩)
  (fun fin s'=>match fin with| .done f=>R (.ok f) s'| .again c'=>c'.quiet=true/\codeAny (model prog w) A c' R s') (fun e s'=>R (.error e) s') s:=by
 have W:=Walks.listRev (prog:=prog) (w:=w) (A:=A.in1) hh I l hne items
 have hSf:S∉ [I,l]:=by simp only[List.mem_cons,List.not_mem_nil,or_false,not_or];exact⟨hSI,hSl⟩
 have e0:(items.size:Int)- 1- ((0:Nat):Int)=(items.size:Int)- 1:=by omega
 show wpAny _ A.in1 (do let old<- Builtin.List.listItems (.ref S);Builtin.List.listUpdate (.ref S) (fun _=> #[]);letGo old.toList.reverse;Builtin.List.listExtendWith (.ref S) (.ref I) .none) _ _ s
 refine wpAny_bind ?_
 unfold Builtin.List.listItems
 refine wpAny_bind (wpAny_seqItems hS rfl (wpAny_pure ?_))
 show wpAny _ A.in1 (updateSeq S (fun _=> #[])>>=fun _=>letGo (#[]:Array Value).toList.reverse>>=fun _=>Builtin.List.listExtendWith (.ref S) (.ref I) .none) _ _ s
 refine wpAny_bind (wpAny_updateSeq hS rfl ?_)
 have hS₂:=Heap.get?_update_self (Obj.mapSeq (fun _=>(#[]:Array Value))) hS rfl
 have oth:∀b o,b≠S->s.heap.get? b=some o->(s.heap.update S (Obj.mapSeq (fun _=>(#[]:Array Value)))).get? b=some o:=
  fun b o hb e=>(Heap.get?_update_other _ _ (Ne.symm hb)).trans e
 refine wpAny_bind (wpAny_letGo ?_)
 have hit2:=hit.at (h':=s.heap.update S (Obj.mapSeq (fun _=>(#[]:Array Value)))) fun o e=>oth I o hSI.symm e
 have hl2:=hl.at (h':=s.heap.update S (Obj.mapSeq (fun _=>(#[]:Array Value)))) fun o e=>oth l o hSl.symm e
 unfold Builtin.List.listExtendWith
 refine wpAny_bind (wpAny_typeOf hit2.typeIs ?_)
 have h1:Builtin.List.listSameRef (.ref S) (.ref I)=false:=by simp[Builtin.List.listSameRef,hSI]
 have h2:(Value.type "list_reverseiterator"==Value.type "list")=false:=by decide
 have h3:(Value.type "list_reverseiterator"==Value.type "tuple")=false:=by decide
 simp only[h1,h2,h3,Bool.or_false,Bool.false_eq_true,if_false]
 refine wpAny_bind (wpAny_pyIter_revIter hit2 ?_)
 refine wpAny_bind (wpAny_holding (a6D hit2.typeIs ?_))
 rw[if_neg (by decide)]
 refine wpAny_pure ⟨plainId_quiet F.plain_extend_loop _,codeAny_extend_loopS W.toS hn S hSf .none items.size 0 _ #[] _ rfl (Nat.zero_le _) ⟨Nat.zero_le _,by rw[e0];exact hit2,hl2⟩ hS₂ (ItemsOf.nil _) fun s' acc' c' hm hS' hacc=> ?_⟩
 rw[Moved.eq_with hm]
 refine hR s'.heap s'.toks acc' c' (fun b o hb hbI e=>hm.heap b o (fun hmem=> ?_) (oth b o hb e)) hS' hacc
 rcases List.mem_cons.mp hmem with e'|hmem
 ·exact hb e'
 ·exact hbI (List.mem_singleton.mp hmem)
theorem a59{E:Value->Shared->Prop}{Q:Value->Shared->Prop}(hh:A.handled=none){I l:Addr}{items:Array Value}(hne:l≠I)(hit:s.heap.IsRevIter I l ((items.size:Int)- 1))(hl:s.heap.IsList l items)(hn:items.size<=sizeLine)
 (hQ:∀h' tk acc' c',(∀b o,b≠I->s.heap.get? b=some o->h'.get? b=some o)->h'.get? s.heap.objs.size=some {cls:=.type "list",dict:=none,data:=.seq acc' c',slots:= #[]} ->ItemsOf (fun i v=>items[items.size- 1- i]?=some v) acc' items.size->Q (.ref s.heap.objs.size) {s with heap:=h',toks:=tk}):
 wpAny (model prog w) A (call (.type "list") [.ref I]) Q E s:=by
 refine callType_codes (Q₁:=fun obj s₁=>obj= .ref s.heap.objs.size/\s₁={s with heap:=s.heap.push {cls:=.type "list",data:=.seq #[]}}) F.called_list (F.typeCall_list_1 _) F.entry_list_init
  (code_list_new _ ⟨rfl,rfl⟩) fun obj s₁ h₁=> ?_
 obtain⟨rfl,rfl⟩:=h₁
 have hS:(s.heap.push {cls:=.type "list",data:=.seq #[]}).get? s.heap.objs.size=some {cls:=.type "list",data:=.seq #[]}:=Heap.get?_push_size _ rfl
 have ltI:I<s.heap.objs.size:=let ⟨o,ho,_⟩:=hit;Heap.lt_size ho
 have ltl:l<s.heap.objs.size:=let ⟨o,ho,_⟩:=hl;Heap.lt_size ho
 refine⟨⟨_,hS,rfl⟩,F.args_list_init_2 _ _,a7C (A:=A.in1) hh hne (hit.at fun o e=>Heap.get?_push_of_some _ e) (hl.at fun o e=>Heap.get?_push_of_some _ e) (Nat.ne_of_gt ltI) (Nat.ne_of_gt ltl) hS hn fun h' tk acc' c' hk hS' hacc=> ?_⟩
 exact⟨rfl,hQ h' tk acc' c' (fun b o hb e=>hk b o (Nat.ne_of_lt (Heap.lt_size e)) hb (Heap.get?_push_of_some _ e)) hS' hacc⟩
end
def a34(K:Fg)(te:TE):TE:=fun σ H Q=>te σ H fun x H1=>∃p ys,x= .ref p/\aO K H1 p ys/\∀l,H1 l=none->Q (.ref l) (upd H1 l (.lst ys.reverse))
section
variable{X:Cx}{e:Expr}{te:TE}{x x':Str}{p p' pos pos':Pos}
theorem a6S(hc:X.calm=true)(he:PE X e te)(hg:Gl X x)(hm:X.mg x=none)(hv:bootBuiltins x=some (.type "list"))(hg':Gl X x')(hm':X.mg x'=none)(hv':bootBuiltins x'=some (.type "reversed"))
 (hn:x≠ "__name__":=by decide)(hdb:(x==("__debug__":Str))=false:=by decide)(hn':x'≠ "__name__":=by decide)(hdb':(x'==("__debug__":Str))=false:=by decide)
 (h1:starEach [e] X.env= [(false,eval e X.env)]:=by rfl)(h2:starEach [.Call (.Name x' p') [e] [] pos'] X.env= [(false,eval (.Call (.Name x' p') [e] [] pos') X.env)]:=by rfl):
 PE X (.Call (.Name x p) [.Call (.Name x' p') [e] [] pos'] [] pos) (a34 X.K te):=by
 intro pins s σ H Q I h
 refine wpAny_Call_Name_kw (mJ I hg hm hv ?_ hn hdb)
 refine PyProof.Rows.callWith_type1 ?_ h2 rfl
 rw[h2]
 refine Calls.spliced_cons ?_
 refine wpAny_Call_Name_kw (mJ I hg' hm' hv' ?_ hn' hdb')
 refine PyProof.Rows.callWith_type1 ?_ h1 rfl
 rw[h1]
 refine Calls.spliced_cons (aS (he pins s σ H _ I h) ?_)
 rintro u s1 ⟨v,H1,I1,rv,q,ys,ex,hq,k⟩
 subst ex
 cases rv
 refine Calls.spliced_nil ?_
 obtain⟨its,r',pl,hz⟩:=I1.list hq
 have hlen:=r'.length
 refine call_reversed_list pl.isList ?_
 refine Calls.spliced_nil ?_
 have hsz:its.toArray.size=its.length:=by simp
 have kp1:∀b o,s1.heap.get? b=some o->(s1.heap.push (revObj q ((its.toArray.size:Int)- 1))).get? b=some o:=fun b o e=>Heap.get?_push_of_some _ e
 have I2:Inv X pins σ H1 {s1 with heap:=s1.heap.push (revObj q ((its.toArray.size:Int)- 1))}:=I1.kept (t':=s1.toks) kp1
 have hD:(s1.heap.push (revObj q ((its.toArray.size:Int)- 1))).get? s1.heap.objs.size=some (revObj q ((its.toArray.size:Int)- 1)):=Heap.get?_push_size _ rfl
 have hit:(s1.heap.push (revObj q ((its.toArray.size:Int)- 1))).IsRevIter s1.heap.objs.size q ((its.toArray.size:Int)- 1):=⟨_,hD,rfl,rfl⟩
 have ltq:q<s1.heap.objs.size:=by obtain⟨o,ho,_⟩:=pl.isList;exact Heap.lt_size ho
 refine a59 (s:={s1 with heap:=s1.heap.push (revObj q ((its.toArray.size:Int)- 1))}) (I2.ok.hd hc) (Nat.ne_of_lt ltq) hit (pl.isList.at fun o e=>kp1 q o e) (by rw[hsz];omega) fun h' tk acc c hk hS hI=> ?_
 have its':acc.toList.length=ys.reverse.length:=by rw[Array.length_toList,hI.1,hsz,List.length_reverse];omega
 have hvals:bE ys.reverse acc.toList:=xN its' fun j y u e1 e2=>by
  rw[Array.getElem?_toList]at e2
  have e3:=hI.2 j u e2
  have hj:j<ys.length:=by
   have:=(List.getElem?_eq_some_iff.mp e1).1
   simpa using this
  rw[List.getElem?_reverse hj]at e1
  have e4:its[its.length- 1- j]?=some u:=by simpa using e3
  rw[<- hlen]at e4
  obtain⟨u',e5,r5⟩:=bE.get r' e1
  rw[e4]at e5
  cases e5
  exact r5
 let s2:Shared:={s1 with heap:=s1.heap.push (revObj q ((its.toArray.size:Int)- 1))}
 have I2':Inv X pins σ (upd H1 s2.heap.objs.size (.lst ys.reverse)) {s2 with heap:=s2.heap.push {cls:=.type "list",dict:=none,data:=.seq acc c,slots:= #[]},toks:=tk}:=by
  refine I2.laid (t':=tk) (o:=.lst ys.reverse) (fun b o e=>Heap.get?_push_of_some _ e) (Nat.le_refl _) ?_
  exact⟨by rw[List.length_reverse];exact hz,acc.toList,c,hvals,by rw[Array.toArray_toList];exact Heap.get?_push_size _ rfl⟩
 have ltD:s1.heap.objs.size<s2.heap.objs.size:=Heap.lt_size hD
 have I3:Inv X pins σ (upd H1 s2.heap.objs.size (.lst ys.reverse)) {s1 with heap:=h',toks:=tk}:=by
  refine Inv.turned (s:={s2 with heap:=s2.heap.push {cls:=.type "list",dict:=none,data:=.seq acc c,slots:= #[]},toks:=tk}) (it:=s1.heap.objs.size) I2' (fun b o hb e=> ?_) (by rw[aG (Nat.ne_of_lt ltD)];exact I1.hok.fresh (Nat.le_refl _)) ?_ (.inr I1.sz) ?_ ?_
  ·by_cases z:b=s2.heap.objs.size
   ·subst z
    rw[show (s2.heap.push {cls:=.type "list",dict:=none,data:=.seq acc c,slots:= #[]}).get? s2.heap.objs.size=some {cls:=.type "list",dict:=none,data:=.seq acc c,slots:= #[]} from Heap.get?_push_size _ rfl]at e
    rw[<- e]
    exact hS
   ·rcases Heap.get?_push_cases e with⟨z',_⟩|e
    ·exact absurd z' z
    ·exact hk b o hb e
  ·obtain⟨m,⟨o,_,_,ho,_⟩,_⟩:=I1.loc
   exact Nat.ne_of_gt (Heap.lt_size ho)
  ·intro y c e
   obtain⟨v,o,ho,_⟩:=I1.cell y c e
   exact Nat.ne_of_lt (Heap.lt_size ho)
  ·intro pr hp
   exact Nat.ne_of_lt (Heap.lt_size (I1.pin pr hp).1)
 exact⟨.ref s2.heap.objs.size,_,I3,rfl,k _ (I2.hok.fresh (Nat.le_refl _))⟩
end
structure PPw(X:Cx)(pos:Pos)(keys:List (Option Expr))(values:List Expr)(trs:List (TE×TE)):Prop where
 run:PPs X pos keys values trs
def a4C(h:Heap)(e it:Addr)(i:Int):Prop:=(∃old,IsEnum h e it i old)\/ ∃(b:Bool) (old:Value) (a:Addr) (o:Obj),h.get? e=some {cls:=.type "enumerate",dict:=none,data:=.fields #[rawInt a,.bool b,.ref it,rawInt i,.none,old],slots:= #[]} /\h.get? a=some o/\a≠e/\a≠it/\o.cls= .type "tuple"
section
variable{prog:Program}{w:World}{A:Around}{E:Value->Shared->Prop}{s:Shared}
theorem a6O{e it l:Addr}{i:Nat}{items:Array Value}{Q:Option Value->Shared->Prop}(hh:A.handled=none)
 (he:a4C s.heap e it i)(hit:s.heap.IsListIter it l i)(hl:s.heap.IsList l items)(hx:items[i]?=none)
 (hQ:∀h',Heap.ExtBut it s.heap h'->Q none {s with heap:=h'}):wpAny (model prog w) A (pyNext (.ref e)) Q E s:=by
 obtain⟨f0,f1,old,he⟩:∃f0 f1 old,s.heap.get? e=some {cls:=.type "enumerate",dict:=none,data:=.fields #[f0,f1,.ref it,rawInt i,.none,old],slots:= #[]}:=by
  rcases he with⟨old,he⟩|⟨b,old,a,oa,he,_⟩
  ·exact⟨_,_,_,he⟩
  ·exact⟨_,_,_,he⟩
 have hT:s.TypeIs (.ref e) "enumerate":=⟨_,he,rfl⟩
 unfold pyNext
 refine wpAny_bind (wpAny_attempt (wpAny_callSpecial?_slot (name:=Str.ofString "__next__") hT F.slot_enumerate_next
  (wpAny_call_entry F.slot_enumerate_next hT F.entry_enumerate_next ?_ (F.args_enumerate_next_1 _))))
 show wpAny _ _ (field (.ref e) 2>>=_) _ _ _
 refine wpAny_bind (wpAny_field he rfl (x:=.ref it) rfl ?_)
 refine wpAny_bind (wpAny_nextOf_list_end hh hit hl hx fun h' x he' hx'=> ?_)
 obtain⟨o,ho,hc⟩:=hx'
 refine wpAny_bind (wpAny_isInstance (T:= "StopIteration") (b:=true) ⟨o,ho,hc⟩ isSubtype_stop ?_)
 exact wpAny_pure (hQ _ he')
end
noncomputable def eL (ys:List V):List (aB×V):=(List.range ys.length).filterMap fun(i:Nat)=>(ys[i]?).map fun v=>((.inl (i:Int):aB),v)
structure KDict(P:Params)(K:Fg)(p:Addr):Prop where
 ex:∃(es:Array DictEntry) (n:Nat),K.lookup p=some ⟨.type "dict",none,.dict es n,#[]⟩ /\PySem.W.KeysLit P es.toList
 lo:(p==sysModules)=false
structure FnV(P:Program)(w:World)(K:Fg)(mg:Str->Option Value)(base:Heap)(k:Nat)(fa:Addr)(sp:Sp):Prop where
 kp:PySem.W.keepIn K (.ref fa)=true
 run:∀(A:Around) (outer:List Env) (s:Shared) (H:Hp) (us:List Value) (vs:List V) (Q:VK) (E:XK),bT k A->kZ P w K mg base A outer s H->K.In s.heap->bE vs us->sp vs H Q E->
  codeAny (model P w) A (.call (.ref fa) ⟨us,[]⟩) (CR aC outer P w H s Q E) s
theorem mU(z:Str):∀zs:List Str,gC (.str z) (zs.map V.str)=decide (z∈zs)
 | []=>rfl
 |y::r=>by
  have ih:=mU z r
  unfold gC at ih|-
  rw[List.map_cons,List.any_cons,ih]
  have e:kL (.str y) (.str z)=decide (y=z):=by
   by_cases h:y=z<;>simp[kL,h]
  rw[e,<- Bool.decide_or]
  congr 1
  rw[List.mem_cons]
  exact propext ⟨fun h=>h.imp Eq.symm id,fun h=>h.imp Eq.symm id⟩
theorem lU:∀zs:List Str,(zs.map V.str).all lE=true
 | []=>rfl
 |y::r=>by
  rw[List.map_cons,List.all_cons,lU r]
  rfl
structure jP(K:Fg)(mg:Str->Option Value)(cls m qual:Str)(st:Stmt)(z:Addr×Addr):Prop where
 ex:∃C f fd,mg cls=some (.ref C)/\iZ K m qual st f fd/\PySem.W.findIn K (.ref C) m=some (some (.ref f))/\PySem.W.isFn K (.ref f)=true/\fd.code= .ref z.1
 hd:PySem.W.codeHdIn K z.1 z.2=true
section
variable{P:Program}{w:World}{K:Fg}{mg:Str->Option Value}{base:Heap}
theorem a5d{h:Heap}{cls m qual:Str}{st:Stmt}{C f c p:Addr}{oc:Value}{od an:Option Addr}{osl:Array (Option Value)}{kV doc pm ct:Value}(X:K.In h)(G:h.Ns mainGlobals mg)(n:PySem.W.nsIn K mainGlobals cls=some (some (.ref C)))(a:PySem.W.findIn K (.ref C) m=some (some (.ref f)))(i:PySem.W.isFn K (.ref f)=true)
 (l:K.lookup f=some ⟨oc,od,.func (PySem.W.fnOf m qual (jE st) (eG st) (aN st) .none kV doc pm an (.ref c) ct),osl⟩)(hc:PySem.W.codeIn K (.ref c) qual=true)(k:PySem.W.keepIn K (.ref f)=true)(hd:PySem.W.codeHdIn K c p=true):jP K mg cls m qual st (c,p):=
 ⟨⟨C,f,_,PySem.W.mg_of X G n,uL l hc k,a,i,rfl⟩,hd⟩
theorem jP.known{cls m qual:Str}{st:Stmt}{N ps:List Str}{k:Nat}{sp:Sp}{z:Addr×Addr}{C:Addr}(D:jP K mg cls m qual st z)(hC:mg cls=some (.ref C))(S:aV N ps (aN st))
 (hb:∀(kV doc pm:Value) (an:Option Addr) (cdv ct:Value) (us:List Value),us.length=ps.length->bindArgs (PySem.W.fnOf m qual (jE st) (eG st) (aN st) .none kV doc pm an cdv ct) ⟨us,[]⟩=pure (ps.zip us))
 (len:∀vs H Q E,sp vs H Q E->vs.length=ps.length)
 (hbody:∀(f:Addr) (A:Around) (outer:List Env) (s:Shared) (H:Hp) (vs:List V) (Q:VK) (E:XK),bT k (A.deeper (envOfC qual (aN st) s.heap.objs.size f (.ref z.1)))->sp vs H Q E->
  ∃t,eE (cY aC P w K mg base N qual (aN st) f (.ref z.1) A outer s H E).nox (eG st) t/\t {nx:=fun _ H'=>Q .non H',rt:=Q} (start N vs) H):aL P w K mg base aC (k+ 1) C m ps sp:=by
 obtain⟨C',f,fd,hC',F,ha,hi,hc⟩:=D.ex
 rw[hC]at hC'
 cases hC'
 refine⟨f,fd,?_,⟨ha,hi,F.kp⟩,F.binds hb⟩
 obtain⟨oc,od,kV,doc,pm,an,cdv,ct,osl,rfl,lk,hcd⟩:=F.ex
 have e:cdv= .ref z.1:=hc
 subst e
 refine vG lk hcd S len fun A outer s H vs Q E hr hsp=> ?_
 obtain⟨t,h,q⟩:=hbody f A outer s H vs Q E hr hsp
 exact⟨t,h.nox,q⟩
end
theorem a5D{l:PySem.W.OpenLaw}{n k:Nat}{q:Program}{loose:List Str}{XP:(Str->Option Value)->Heap->Prop}{YP:World->Heap->Prop}{d:DefRec}{K:Params->Fg}{CX:World->fI}{sp:World->List (Addr×Addr)->Sp}{x:Str}
 (hn:l.most=some n)(hn2:n<=sizeLine)(hdf:d.params.defaults= [])(hr:bT k callerA)
 (hY:∀(w:World) (h:Heap),YP w h->(K w.params).In h)
 (F:∀(w:World) (mg:Str->Option Value) (fa:Addr) (h:Heap),YP w h->(K w.params).In h->h.Ns mainGlobals mg->mg d.name=some (.ref fa)->
  PySem.W.noTabs (K w.params)=true/\∃tabs:List (Addr×Addr),(∀z∈tabs,a9h q (K w.params) z\/ (PySem.W.codeHdIn (K w.params) z.1 z.2=true/\h.get? z.2=some (PySem.W.tabObj #[])))/\∃fd:FuncData,(∀(s:Shared) (u:Value),BindsTo s fd ⟨[u],[]⟩ [(x,u)])/\
   ∀base:Heap,(K w.params).In base->base.Ns mainGlobals mg->(∀z∈tabs,iO mg base z.1 z.2)->eX l.prog w (K w.params) mg base (CX w) k fa fd [x] (sp w tabs))
 (hsp:∀(w:World) (tabs:List (Addr×Addr)) (H:Hp) (a:Addr) (ns:List Int),ns.length<=n->rA tabs H->aO (K w.params) H a (ns.map V.int)->sp w tabs [.ref a] H (fun v H'=>v= .bl true/\mL tabs H') fun _ _ _=>False)
 (hCX:∀(w:World) (H:Hp) (s:Shared) (e:Value) (s':Shared),CX w [] H s (fun _ _ _=>False) e s'->False):
 PySem.W.WalkO q loose XP YP l.row.toRowW d [] (fun f vs=>PySem.call f vs):=by
 refine Att.attach_call hn hdf fun w s₀ s₁ mg mb fa o pm cd doc a vs ns G Y ho hd hcd hmg hobj hints hlen hg=> ?_
 have KX:=hY w _ Y
 obtain⟨hnT,tabs,hTb,fd,hb,hF⟩:=F w mg fa _ Y KX G.T.g hmg
 refine a4x KX G.T.g G.T.b G.T.builtins G.T.nolimit hg hobj hints (Nat.le_trans hlen hn2) hr (fun z hz=> ?_) G.T.bmain hF hb (fun H hO hS=>hsp w tabs H a ns hlen hO hS) fun H e s'=>hCX w H s₁ e s'
 rcases hTb z hz with t|⟨t1,t2⟩
 ·obtain⟨y,h1,h2⟩:=t.ex
  obtain⟨d',h1⟩:=Option.isSome_iff_exists.mp h1
  obtain⟨t1,t2⟩:=PySem.W.tab_of G.T KX h1 h2
  exact⟨t1,t2,a2H hnT KX t2⟩
 ·exact⟨PySem.W.codeHd_of_K KX t1,t2,a2H hnT KX t2⟩
theorem a00{X:Cx}:iE X (.builtin "isinstance") (fun xs H Q=>∃x T t k,xs= [x,.ty T] /\gX X.K H x t/\PySem.W.kitOne X.K t (.type T)=some k/\Q (.bl k) H):=by
 intro pins s σ H xs us Q I r h
 obtain⟨x,T,t,k,rfl,ty,e,q⟩:=h
 cases r with
 |cons r1 rr=>
  cases rr with
  |cons r2 rr=>
   cases rr
   cases r2
   exact a7U I r1 ty e fun tk=>⟨.bl k,H,I.tok tk,rfl,q⟩
structure LentC(X:Cx)(σ:St)(H:Hp)(f:eU):Prop extends pN X σ H f where
 only:∀b o,f b=some o->∃v,o.data= .cell v
section
variable{X:Cx}{k:Nat}{C:Addr}{ps:List Str}{sp:Sp}{x m:Str}{p pos apos:Pos}{e o:Expr}{es:List Expr}{t:TA}{ta:TE}{CX:fI}{E:XK}
theorem a0o(G:dJ X.prog X.w X.K X.mg X.base CX k C ps sp)(hr:bT (k+ 1) X.A)(hm:X.mg x=some (.ref C))(hx:iF CX X E)(hg:Gl X x:=by rfl)(hdb:(x==("__debug__":Str))=false:=by decide):
 PE X (.Call (.Name x p) [] [] pos) (qK C sp [] E kT):=by
 obtain⟨f,fd,F,M,hb⟩:=G.ex
 exact a4I M F hr hg hm hb .nil hx hdb
end
def a4o(r r' r'':R2)(ta tb tc td:TE):TE:=fun σ H Q=>ta σ H fun x H1=>tb σ H1 fun y H2=>r x y H2 fun z H3=>∃k,z= .bl k/\
 (if k=true then tc σ H3 fun w' H4=>r' y w' H4 fun z H5=>∃k,z= .bl k/\(if k=true then td σ H5 fun v' H6=>r'' w' v' H6 Q else Q (.bl false) H5) else Q (.bl false) H3)
section
variable{X:Cx}{a b c d:Expr}{ta tb tc td:TE}{pos:Pos}
theorem a5O{op op' op'':CmpOp}{r r' r'':R2}(ho:cX X (compareOp op) r)(ho':cX X (compareOp op') r')(ho'':cX X (compareOp op'') r'')(ha:PE X a ta)(hb:PE X b tb)(hc:PE X c tc)(hd:PE X d td)
 (hm:lastMarks [op,op',op''] [b,c,d]=false:=by with_unfolding_all rfl):PT X (.Compare a [op,op',op''] [b,c,d] pos) (qH (a4o r r' r'' ta tb tc td)):=by
 intro pins s σ H Q I h
 refine isTrue_chain (aS (ha pins s σ H _ I h) fun v s1 ⟨x,H1,I1,r1,q1⟩=>test_link (aS (hb pins s1 σ H1 _ I1 q1) fun u s2 ⟨y,H2,I2,r2,q2⟩=>
  aS (ho pins s2 σ H2 x y v u _ I2 r1 r2 q2) fun e s3 ⟨z,H3,I3,r3,k,ek,q3⟩=> ?_)) hm
 subst ek
 cases r3
 refine wpAny_truthy_bool ?_
 cases k with
 |false=>
  obtain⟨k',e',q'⟩:=q3
  cases e'
  exact ite_ff ⟨H3,I3,q'⟩
 |true=>
  refine ite_tt (test_link (aS (hc pins s3 σ H3 _ I3 q3) fun w' s4 ⟨z',H4,I4,r4,q4⟩=>aS (ho' pins s4 σ H4 y z' u w' _ I4 r2 r4 q4) fun d' s5 ⟨z2,H5,I5,r5,k2,e2,q5⟩=> ?_))
  subst e2
  cases r5
  refine wpAny_truthy_bool ?_
  cases k2 with
  |false=>
   obtain⟨k',e',q'⟩:=q5
   cases e'
   exact ite_ff ⟨H5,I5,q'⟩
  |true=>
   refine ite_tt (test_last (aS (hd pins s5 σ H5 _ I5 q5) fun w'' s6 ⟨z'',H6,I6,r6,q6⟩=>aS (ho'' pins s6 σ H6 z' z'' w' w'' _ I6 r4 r6 q6) fun d'' s7 ⟨z3,H7,I7,r7,k3,e3,q7⟩=> ?_))
   subst e3
   cases r7
   exact wpAny_truthy_bool ⟨H7,I7,q7⟩
end
section
variable{X:Cx}{pins:List (Addr×Obj)}{σ:St}{H:Hp}{s:Shared}{scope:Scope}{cl:List (Str×Addr)}{cp:List (Nat×Str)}{fp:List Addr}{x x2:Str}
theorem a8B(I:Inv X pins σ H s)(c:kO X scope cl cp)(hf:∀b∈fp,fF X pins H b)(hfo:∀b∈fp,b<s.heap.objs.size){h':Heap}{ty:String}{tk:Nat}{m:Str->Option Value}(hm:h'.Ns s.heap.objs.size m)
 (sb:Heap.SameBut s.heap.objs.size (s.heap.push {cls:=.type ty,data:=.dict #[]}) h'):
 Inv (fO X scope cl s.heap.objs.size (x::x2::cp.map (·.2)) fp pins s H) [] (none::none::dG cp σ) H {s with heap:=h',toks:=tk}:=by
 have old:∀b o,s.heap.get? b=some o->h'.get? b=some o:=fun b o e=>(sb.2 b (Nat.ne_of_lt (Heap.lt_size e))).trans (Heap.get?_push_of_some _ e)
 have hC:H s.heap.objs.size=none:=I.hok.fresh (Nat.le_refl _)
 refine⟨⟨I.ok.mod,c.kind,I.ok.glob,I.ok.blt,Nat.le_refl _,fun y z k h1 h2=>I.ok.inj y z k (c.sub _ _ h1) (c.sub _ _ h2),c.has,fun y k z=>(Bool.noConfusion z),I.ok.hd,I.ok.frames,.inl rfl,fun b hb=> ?_,fun b o e=>I.bs b o e,Nat.le_trans I.ok.bsz I.sz,fun b o e hb=> ?_,fun b hb hz=> ?_,I.stack,I.stkFree⟩,
  rfl,I.bare,Un.kept old,⟨m,hm,fun i y v h1 h2 h3=> ?_⟩,fun y k e=> ?_,hC,fun y k e=>I.freeC y k (c.sub y k e),fun p hp=> ?_,I.hok.kept old,?_⟩
 ·obtain⟨f0,f1,f2,f3,f4,f5⟩:=hf b hb
  exact⟨Nat.ne_of_lt (hfo b hb),fun y k e=>f4 y k (c.sub y k e)⟩
 ·obtain⟨f0,f1,f2,f3,f4,f5⟩:=hf b hb
  rcases f3 with z|z
  ·exact I.ok.noex b o e z
  ·exact absurd (Nat.lt_of_lt_of_le (Heap.lt_size (I.ok.bs b o e).1) z) (Nat.lt_irrefl _)
 ·obtain⟨f0,f1,f2,f3,f4,f5⟩:=hf b hb
  rcases List.mem_cons.mp (I.stkSub b hz)with e|e
  ·exact f1 e
  ·exact f2 e
 ·rcases i with _|_|i
  ·simp at h2
  ·simp at h2
  ·
   have h1':(cp.map (·.2))[i]?=some y:=by
    have z:(x::x2::cp.map (·.2))[i+ 1+ 1]?=some y:=h1
    rw[List.getElem?_cons_succ,List.getElem?_cons_succ]at z
    exact z
   have h2':(dG cp σ)[i]?=some (some v):=by simpa using h2
   unfold dG at h2'
   rw[List.getElem?_map]at h1' h2'
   cases e:cp[i]? with
   |none=>rw[e]at h1';cases h1'
   |some p=>
    rw[e]at h1' h2'
    simp only[Option.map_some,Option.some.injEq]at h1' h2'
    obtain⟨k1,k2,k3⟩:=c.at' p (List.mem_of_getElem? e)
    subst h1'
    have h2'':σ[p.1]?=some (some v):=by
     cases q:σ[p.1]? with
     |none=>rw[q]at h2';cases h2'
     |some z=>rw[q]at h2';simpa using h2'
    obtain⟨m0,hn0,hl0⟩:=I.loc
    obtain⟨u,r,l⟩:=hl0 p.1 p.2 v k1 h2'' (k2.elim (fun z=> .inr (.inl z)) fun z=> .inr (.inr z))
    refine⟨u,r,.inr ⟨k3,?_⟩⟩
    rcases l with⟨z,_⟩|⟨_,cc,e1,e2⟩
    ·have z':X.env.scope.names.lookup p.2=some .local:=z
     rcases k2 with k|k<;>(rw[z']at k;cases k)
    ·obtain⟨cc',e3⟩:=c.has p.2 k3
     have e4:=c.sub _ _ e3
     rw[e1]at e4
     cases e4
     obtain⟨o,ho,hd⟩:=e2
     exact⟨cc,e3,o,old _ _ ho,hd⟩
 ·obtain⟨v,o,ho,hd⟩:=I.cell y k (c.sub y k e)
  exact⟨v,o,old _ _ ho,hd⟩
 ·have hp':p∈X.pn++ pins:=by
   rcases List.mem_append.mp hp with z|z
   ·exact z
   ·cases z
  obtain⟨e,n,ne,nf,d⟩:=I.pin p hp'
  refine⟨old _ _ e,n,Nat.ne_of_lt (Heap.lt_size e),fun hz=> ?_,d⟩
  rcases List.mem_cons.mp (I.stkSub p.1 hz)with q|q
  ·exact ne q
  ·exact nf q
 ·show(none::none::dG cp σ).length=(x::x2::cp.map (·.2)).length
  simp[dG]
end
def yN(cp:List (Nat×Str))(tg:TG)(tt:TT)(te:TE)(σ:St)(J:It)(D:Addr)(Q:VK)(H1:Hp):Prop:=
 ∃W:Nat->Nat->Hp->Prop,(∃m,W 0 m (upd H1 D (.lst [])))/\∀i m H2,W i m H2->(J.stop i H2/\Q (.ref D) H2)\/
  (J.go i H2/\∃(N:VK) (N':Hp->Prop),(∀y H5,N y H5->∃ys m',H5 D=some (.lst ys)/\ys.length<sizeLine/\m'<m/\W (i+ 1) m' (upd H5 D (.lst (ys++ [y]))))/\(∀H4,N' H4->∃m',m'<m/\W (i+ 1) m' H4)/\
   ∀v H3 o o',J.yld i H2 v H3->tg v (o::o'::dG cp σ) H3 fun σ' H4=>∃a b,σ'=some a::some b::dG cp σ/\tt σ' H4 fun k H5=>if k=true then te σ' H5 N else N' H5)
def a3Q(cp:List (Nat×Str))(wi:TI)(tg:TG)(tt:TT)(te:TE):TE:=fun σ H Q=>wi σ H fun J H1=>∀D,H1 D=none->yN cp tg tt te σ J D Q H1
section
variable{X:Cx}{scope:Scope}{cl:List (Str×Addr)}{cp:List (Nat×Str)}{x x2:Str}{tgt:Expr}{tg:TG}{pos:Pos}{elt iter:Expr}{ifs:List Expr}{wi:TI}{tt:TT}{te:TE}
theorem a6m{pins:List (Addr×Obj)}{σ:St}{H2:Hp}{s2:Shared}{it:Addr}{fp:List Addr}{tn:Nat->Heap->Prop}{J:It}{Q:VK}{R:Addr->Result->Shared->Prop}{E:Value->Shared->Prop}(c:kO X scope cl cp)(hcalm:X.calm=true)(hg:∀C fp pins s H,PG (fO X scope cl C (x::x2::cp.map (·.2)) fp pins s H) tgt tg)
 (ht:∀C fp pins s H,mX (fO X scope cl C (x::x2::cp.map (·.2)) fp pins s H) ifs tt)(he:∀C fp pins s H,PE (fO X scope cl C (x::x2::cp.map (·.2)) fp pins s H) elt te)
 (I2:Inv X pins σ H2 s2)(T:mK X.prog X.w X.K tgt J fp it tn)(st2:tn 0 s2.heap)(f2:∀b∈fp,fF X pins H2 b)(q:yN cp tg tt te σ J s2.heap.objs.size Q H2)
 (hR:∀(C:Addr) (H':Hp) (s':Shared),(∃m,s'.heap.Ns C m)->X.s₀.heap.objs.size<=C->H' C=none->C≠X.env.locals->(∀x c,X.env.cells.lookup x=some c->c≠C)->(∀p∈X.pn++ pins,p.1≠C)->(∀h'',Heap.SameBut C s'.heap h''->Inv X pins σ H' {s' with heap:=h''})->Q (.ref s2.heap.objs.size) H'->R C (.ok .next) s'):
 wpAny (model X.prog X.w) X.A (newList []) (fun acc s₃=>wpAny (model X.prog X.w) X.A (newFunctionEnv scope X.env.globals cl [] X.env.qual none .none (some X.env)) (fun cenv s₄=>
  acc= .ref s2.heap.objs.size/\codeAny (model X.prog X.w) X.A (.compStart (.ListComp elt [⟨tgt,iter,ifs,0⟩] scope pos) 0 (.ref it) acc {cenv with scope:=relabel scope X.env}) (R cenv.locals) s₄) E s₃) E s2:=by
 obtain⟨W,⟨m0,w0⟩,turn⟩:=q
 refine wpAny_newObj_type ?_
 have I3:Inv X pins σ (upd H2 s2.heap.objs.size (.lst [])) {s2 with heap:=s2.heap.push {cls:=.type "list",dict:=none,data:=.seq ([]:List Value).toArray}}:=
  I2.lnew (t':=s2.toks) (ys:=[]) (its:=[]) .nil (Nat.zero_le _)
 have fpo:∀b∈fp,b<s2.heap.objs.size:=fun b hb=>by
  obtain⟨o,e,_⟩:=T.obj _ _ st2 b hb
  exact Heap.lt_size e
 have f3:∀b∈fp,fF X pins (upd H2 s2.heap.objs.size (.lst [])) b:=fun b hb=>⟨by rw[aG (Nat.ne_of_lt (fpo b hb))];exact(f2 b hb).1,(f2 b hb).2⟩
 generalize hs3:({s2 with heap:=s2.heap.push {cls:=.type "list",dict:=none,data:=.seq ([]:List Value).toArray}}:Shared)=s3 at I3
 have e3:s3.heap=s2.heap.push {cls:=.type "list",dict:=none,data:=.seq ([]:List Value).toArray}:=by rw[<- hs3]
 have sz3:s2.heap.objs.size<s3.heap.objs.size:=by rw[e3,Heap.size_push];exact Nat.lt_succ_self _
 refine wpAny_newFunctionEnv c.nocell (by intro y hy;cases hy) (fun h₁ hns sb=> ?_) c.kind
 have J3:=a8B (x:=x) (x2:=x2) (tk:=s3.toks+ ([]:List (Str×Value)).length) I3 c f3 (fun b hb=>Nat.lt_trans (fpo b hb) sz3) hns sb
 refine⟨rfl,?_⟩
 have st3:tn 0 h₁:=T.keep _ _ _ st2 fun b hb o e=>(sb.2 b (Nat.ne_of_lt (Nat.lt_trans (fpo b hb) sz3))).trans (Heap.get?_push_of_some _ (by rw[e3];exact Heap.get?_push_of_some _ e))
 generalize hX:fO X scope cl s3.heap.objs.size (x::x2::cp.map (·.2)) fp pins s3 (upd H2 s2.heap.objs.size (.lst []))=X' at J3
 have eA:X'.A=X.A:=by rw[<- hX];rfl
 have eP:X'.prog=X.prog:=by rw[<- hX];rfl
 have ew:X'.w=X.w:=by rw[<- hX];rfl
 have eK:X'.K=X.K:=by rw[<- hX];rfl
 have ec:X'.calm=true:=by rw[<- hX];exact hcalm
 have ee:X'.env=compEnvC scope cl s3.heap.objs.size X.env:=by rw[<- hX];rfl
 have ex:X'.xe=fun _ _=>False:=by rw[<- hX];rfl
 have fpX:∀{H':Hp},(∀b∈fp,H' b=none)->∀b∈fp,fF X' [] H' b:=fun hn b hb=>by
  obtain⟨f0,f1,f2',f3',f4,f5⟩:=f3 b hb
  subst hX
  refine⟨hn b hb,Nat.ne_of_lt (Nat.lt_trans (fpo b hb) sz3),fun hz=> ?_,.inl hb,fun y k e=>f4 y k (c.sub y k e),fun p hp=> ?_⟩
  ·rcases List.mem_cons.mp (I3.stkSub b hz)with e|e
   ·exact f1 e
   ·exact f2' e
  ·rcases List.mem_append.mp hp with z|z
   ·exact f5 p z
   ·cases z
 have pT:=ht s3.heap.objs.size fp pins s3 (upd H2 s2.heap.objs.size (.lst []))
 have pE:=he s3.heap.objs.size fp pins s3 (upd H2 s2.heap.objs.size (.lst []))
 have pG:=hg s3.heap.objs.size fp pins s3 (upd H2 s2.heap.objs.size (.lst []))
 rw[hX]at pT pE pG
 have loop:codeAny (model X.prog X.w) X.A (.compLoop (.ListComp elt [⟨tgt,iter,ifs,0⟩] scope pos) 0 (.ref it) (.ref s2.heap.objs.size) (compEnvC scope cl s3.heap.objs.size X.env)) (R s3.heap.objs.size) {s3 with heap:=h₁,toks:=s3.toks+ ([]:List (Str×Value)).length}:=by
  refine a2K (fun n s'=>∃i o o' H',Inv X' [] (o::o'::dG cp σ) H' s'/\tn i s'.heap/\(∀b∈fp,H' b=none)/\W i n H') ?_ m0 ⟨0,none,none,_,J3,st3,fun b hb=>(f3 b hb).1,w0⟩
  rintro n s5 ⟨i,o,o',H5,J5,st5,fr5,w5⟩
  rcases turn i n H5 w5 with⟨stop,qn⟩|⟨go,N,N',hN,hN',step⟩
  ·have z:=T.done X' eP ew eK ec i [] s5 _ H5 (fun _ _=>False) J5 (fpX fr5) st5 stop
   rw[eA]at z
   refine aS z ?_
   rintro r s6 ⟨hr,J6⟩
   subst hr
   subst hX
   obtain⟨m6,hn6,_⟩:=J6.loc
   refine hR s3.heap.objs.size H5 s6 ⟨m6,hn6⟩ I3.sz J6.free (Nat.ne_of_gt I3.lt) (fun y k e z=> ?_) (fun p hp z=> ?_) (fun h'' sb'=>I3.uncomp rfl f3 J6 sb') qn
   ·obtain⟨v,w'⟩:=I3.cell y k e
    exact absurd w'.lt (by rw[z];exact Nat.lt_irrefl _)
   ·exact absurd (Heap.lt_size (I3.pin p hp).1) (by rw[z];exact Nat.lt_irrefl _)
  ·have z:=T.item X' eP ew eK ec i [] s5 _ H5 (fun _ _=>False) J5 (fpX fr5) st5 go
   rw[eA]at z
   refine aS z ?_
   rintro r s6 ⟨u,hr,h6⟩
   subst hr
   refine aS h6 ?_
   rintro _ s7 ⟨v,H7,J7,r7,y7,st7,fr7⟩
   have J7':=J7.pinned (fpX fr7) (T.obj _ _ st7)
   have z8:=pG _ s7 _ H7 v u _ J7' r7 (step v H7 o o' y7)
   rw[eA,eP,ew,ee,ex]at z8
   refine aS z8 ?_
   rintro _ s8 ⟨σ8,H8,J8,va,vb,e8,q8⟩
   subst e8
   have z9:=pT _ s8 _ H8 _ J8 q8
   rw[eA,eP,ew,ee,ex]at z9
   refine aS z9 ?_
   rintro ok s9 ⟨H9,J9,q9⟩
   have fin:∀{H':Hp} {s':Shared},Inv X' ([] ++ pS fp s7.heap) (some va::some vb::dG cp σ) H' s'->(∃m',m'<n/\W (i+ 1) m' H')->∃m,m<n/\∃i o o' H',Inv X' [] (o::o'::dG cp σ) H' s'/\tn i s'.heap/\(∀b∈fp,H' b=none)/\W i m H':=fun{H' s'} K' ⟨m',hm,w'⟩=>by
    refine⟨m',hm,i+ 1,some va,some vb,H',K'.unpinned,T.keep _ _ _ st7 fun b hb ob e=>(K'.pin (b,ob) (List.mem_append_right _ (List.mem_append_right _ (pU hb e)))).1,fun b hb=> ?_,w'⟩
    obtain⟨ob,e,d⟩:=T.obj _ _ st7 b hb
    exact(K'.pin (b,ob) (List.mem_append_right _ (List.mem_append_right _ (pU hb e)))).2.1
   cases ok with
   |false=>
    rw[if_neg Bool.false_ne_true]at q9|-
    exact fin J9 (hN' _ q9)
   |true=>
    rw[if_pos rfl]at q9|-
    have z10:=pE _ s9 _ H9 _ J9 q9
    rw[eA,eP,ew,ee,ex]at z10
    refine aS z10 ?_
    rintro u10 s10 ⟨y,H10,J10,r10,n10⟩
    obtain⟨ys,m',hD,hz,hm,w'⟩:=hN y H10 n10
    have z11:=kD (X:=X') _ s10 _ H10 (.ref s2.heap.objs.size) [y] (.ref s2.heap.objs.size) [u10] (fun _ H'=>H'=upd H10 s2.heap.objs.size (.lst (ys++ [y]))) J10 rfl (.cons r10 .nil) ⟨_,ys,y,rfl,rfl,hD,hz,rfl⟩
    rw[eA,eP,ew,ex]at z11
    refine aS z11 ?_
    rintro u11 s11 ⟨y',H11,J11,r11,e11⟩
    subst e11
    exact fin J11 ⟨m',hm,w'⟩
 exact codeAny_compStart_list loop (T.self _ 0 _ _ _ st3 loop)
theorem a5z(c:kO X scope cl cp)(hcalm:X.calm=true)(hg:∀C fp pins s H,PG (fO X scope cl C (x::x2::cp.map (·.2)) fp pins s H) tgt tg)(hi:PI X tgt iter wi)
 (ht:∀C fp pins s H,mX (fO X scope cl C (x::x2::cp.map (·.2)) fp pins s H) ifs tt)(he:∀C fp pins s H,PE (fO X scope cl C (x::x2::cp.map (·.2)) fp pins s H) elt te)
 (hs:∀v,foldedSetIterable iter X.env v=pure v:=by intro _;rfl):PE X (.ListComp elt [⟨tgt,iter,ifs,0⟩] scope pos) (a3Q cp wi tg tt te):=by
 intro pins s σ H Q I h
 rw[eval_ListComp]
 refine wpAny_comprehension_free (use:=none) (g:=⟨tgt,iter,ifs,0⟩) (gs:=[]) (cl:=cl) rfl hs c.clos c.kind c.names ?_
 refine aS (hi pins s σ H _ I h) fun v s1 h1=>aS h1 fun itv s2 h2=> ?_
 obtain⟨it,fp,tn,J,H2,e,I2,T,st2,f2,q⟩:=h2
 subst e
 refine aS (a6m (iter:=iter) (pos:=pos) (R:=fun C=>compPost (model X.prog X.w) X.A X.xe none (EP X pins σ Q) (.ref s2.heap.objs.size) C) c hcalm hg ht he I2 T st2 f2 (q _ (I2.hok.fresh (Nat.le_refl _))) ?_) fun acc s3 h3=>aS h3 fun cenv s4 h4=> ?_
 ·rintro C H' s' ⟨m,hn⟩ _ _ _ _ _ hI hq
  exact⟨m,hn,fun h'' sb=>⟨.ref s2.heap.objs.size,H',hI h'' sb,rfl,hq⟩⟩
 ·obtain⟨e,h4⟩:=h4
  subst e
  exact h4
theorem a8M{C:Addr}{fp:List Addr}{pins:List (Addr×Obj)}{s:Shared}{H:Hp}{p1 p2:Pos}(hx:scope.names.lookup x=some .local)(hx2:scope.names.lookup x2=some .local)(hnd:(x::x2::cp.map (·.2)).Nodup):qS (fO X scope cl C (x::x2::cp.map (·.2)) fp pins s H) [.Name x p1,.Name x2 p2] (oB (iT 0) (oB (iT 1) uC)):=
 lK (fH hnd rfl (.inl (lookup_relabel_local hx)) (.inr (lookup_relabel_local hx))) (lK (fH hnd rfl (.inl (lookup_relabel_local hx2)) (.inr (lookup_relabel_local hx2))) sM)
theorem a7j{k:Nat}{px px2 pt:Pos}(c:kO X scope cl cp)(hcalm:X.calm=true)(hx:scope.names.lookup x=some .local)(hx2:scope.names.lookup x2=some .local)(hnd:(x::x2::cp.map (·.2)).Nodup)(hi:PI X (.Tuple [.Name x px,.Name x2 px2] k pt) iter wi)
 (ht:∀C fp pins s H,mX (fO X scope cl C (x::x2::cp.map (·.2)) fp pins s H) ifs tt)(he:∀C fp pins s H,PE (fO X scope cl C (x::x2::cp.map (·.2)) fp pins s H) elt te)
 (hs:∀v,foldedSetIterable iter X.env v=pure v:=by intro _;rfl):PE X (.ListComp elt [⟨.Tuple [.Name x px,.Name x2 px2] k pt,iter,ifs,0⟩] scope pos) (a3Q cp wi (xC X.K 2 (oB (iT 0) (oB (iT 1) uC))) tt te):=
 a5z c hcalm (fun C fp pins s H=>uK hcalm (a8M hx hx2 hnd)) hi ht he hs
end
def eI(cs:List Str):List Str:=cs.foldl (fun acc c=>if c∈acc then acc else acc++ [c]) []
theorem wC(cs:List Str)(c:Str):eI (cs++ [c])=if c∈eI cs then eI cs else eI cs++ [c]:=by
 unfold eI
 rw[List.foldl_append]
 rfl
theorem a8v:∀n (cs:List Str),cs.length=n->(eI cs).length<=n:=by
 intro n
 induction n with
 |zero=>intro cs h;rw[List.length_eq_zero_iff.mp h];exact Nat.le_refl 0
 |succ n ih=>
  intro cs h
  rcases List.eq_nil_or_concat cs with rfl|⟨l,x,e⟩
  ·simp at h
  ·rw[List.concat_eq_append]at e
   subst e
   rw[List.length_append]at h
   have h':l.length+ 1=n+ 1:=h
   have:=ih l (by omega)
   rw[wC]
   split
   ·omega
   ·rw[List.length_append];show(eI l).length+ 1<=_;omega
section
variable{prog:Program}{w:World}{A:Around}{R:Result->Shared->Prop}
theorem a62(c:Str)(t:Tok):(strKind prog w).is c (.str c t)=true:=by
 show(Value.str c t).isStr c=true
 simp[Value.isStr]
abbrev kR(cs:List Str):Str->Bool:=fun k=>(eI cs).any fun x=>decide (x=k)
theorem a76(hh:A.handled=none){it l S:Addr}{items:List Value}{cs:List Str}(hli:l≠it)(hlS:l≠S)(hSi:S≠it)(hv:∀(i:Nat) (c:Str),cs[i]?=some c->∃t,items[i]?=some (Value.str c t))(hl:items.length=cs.length)(hsz:cs.length+ 1<scanBound):
 ∀(k i:Nat) (s:Shared),cs.length- i=k->i<=cs.length->s.heap.IsListIter it l i->s.heap.IsList l items.toArray->s.heap.SetOf (strKind prog w) S (kR (cs.take i)) (eI (cs.take i)).length->
  (∀h' tk,h'.SetOf (strKind prog w) S (kR cs) (eI cs).length->(∀b o,b≠it->b≠S->s.heap.get? b=some o->h'.get? b=some o)->R (.ok (.ret .none)) {s with heap:=h',toks:=tk})->
  codeAny (model prog w) A (.builtin "set.update.loop" ⟨[.ref S,.ref it],[]⟩) R s:=by
 intro k
 induction k with
 |zero=>
  intro i s hk hi hit hls hS hR
  have hin:i=cs.length:=by omega
  subst hin
  refine codeAny_builtin F.entry_set_update_loop ?_
  rw[Around.under_plainId F.plain_set_update_loop _]
  show wpAny _ A.in1 (pyNext (.ref it)>>=_) _ _ s
  refine wpAny_bind (wpAny_pyNext_list_end hh hit hls (by simp[hl]) fun h' hx=> ?_)
  refine wpAny_pure (hR h' s.toks ?_ fun b o hb _ x=>hx b o hb x)
  rw[List.take_length]at hS
  obtain⟨o,es,ep,t,ho,r⟩:=hS
  exact⟨o,es,ep,t,hx S o hSi ho,r⟩
 |succ k ih=>
  intro i s hk hi hit hls hS hR
  have hlt:i<cs.length:=by omega
  obtain⟨c,hc⟩:∃c,cs[i]?=some c:=⟨_,List.getElem?_eq_getElem hlt⟩
  obtain⟨t,hx⟩:=hv i c hc
  refine codeAny_builtin F.entry_set_update_loop ?_
  rw[Around.under_plainId F.plain_set_update_loop _]
  show wpAny _ A.in1 (pyNext (.ref it)>>=_) _ _ s
  refine wpAny_bind (wpAny_pyNext_list_item hit hls (x:=.str c t) (by simpa using hx) fun h1 hit1 hs1=> ?_)
  show wpAny _ A.in1 (holding [Value.str c t] (setAdd S (Value.str c t))>>=_) _ _ _
  refine wpAny_bind (wpAny_holding ?_)
  unfold setAdd
  refine wpAny_holding (wpAny_bind (wpAny_pyHash_str ?_))
  have hS1:Heap.SetOf (strKind prog w) h1 S (kR (cs.take i)) (eI (cs.take i)).length:=by
   obtain⟨o,es,ep,t,ho,r⟩:=hS
   exact⟨o,es,ep,t,(hs1.2 S hSi).trans ho,r⟩
  have ln:=a8v _ (cs.take i) rfl
  rw[List.length_take]at ln
  have et:cs.take (i+ 1)=cs.take i++ [c]:=by rw[List.take_add_one,hc];rfl
  refine wpAny_setAddHashed_of (knd:=strKind prog w) (k:=c) (x:=.str c t) (a62 c t) rfl hS1 (by omega) fun h2 hs2 hS2=> ?_
  have hS3:Heap.SetOf (strKind prog w) h2 S (kR (cs.take (i+ 1))) (eI (cs.take (i+ 1))).length:=by
   refine SetOf_congr hS2 (fun k'=> ?_) ?_
   ·show(((eI (cs.take i)).any fun x=>decide (x=k'))||decide (k'=c))=(eI (cs.take (i+ 1))).any fun x=>decide (x=k')
    rw[et,wC]
    by_cases hm:c∈eI (cs.take i)
    ·rw[if_pos hm]
     by_cases e:k'=c
     ·rw[e,List.any_eq_true.mpr ⟨c,hm,decide_eq_true rfl⟩];rfl
     ·rw[decide_eq_false e,Bool.or_false]
    ·rw[if_neg hm,List.any_append]
     congr 1
     simp[eq_comm]
   ·rw[et,wC]
    by_cases hm:c∈eI (cs.take i)
    ·rw[if_pos hm,if_pos (show kR (cs.take i) c=true from List.any_eq_true.mpr ⟨c,hm,decide_eq_true rfl⟩)]
    ·rw[if_neg hm,if_neg (fun h=>hm (by obtain⟨x,h1,h2⟩:=List.any_eq_true.mp h;rw[<- of_decide_eq_true h2];exact h1)),List.length_append]
     rfl
  have oth:∀b o,b≠it->b≠S->s.heap.get? b=some o->h2.get? b=some o:=fun b o e1 e2 x=>(hs2.2 b e2).trans ((hs1.2 b e1).trans x)
  show wpAny _ A.in1 (again _) _ _ _
  refine wpAny_pure ⟨plainId_quiet F.plain_set_update_loop _,?_⟩
  show codeAny _ A (.builtin "set.update.loop" ⟨[.ref S,.ref it],[]⟩) R _
  refine ih (i+ 1) _ (by omega) hlt (hit1.at fun o x=>(hs2.2 it hSi.symm).trans x) (hls.at fun o x=>oth l o hli hlS x) hS3 fun h3 tk3 hS4 hk3=>hR h3 tk3 hS4 fun b o e1 e2 x=>hk3 b o e1 e2 (oth b o e1 e2 x)
end
section
variable{prog:Program}{w:World}{A:Around}{E:Value->Shared->Prop}{s:Shared}
theorem a6u{Q:Value->Shared->Prop}(hh:A.handled=none){l:Addr}{items:List Value}{cs:List Str}(hl:s.heap.IsList l items.toArray)(hv:∀(i:Nat) (c:Str),cs[i]?=some c->∃t,items[i]?=some (Value.str c t))(hlen:items.length=cs.length)(hsz:cs.length+ 1<scanBound)
 (hQ:∀h' tk,h'.SetOf (strKind prog w) s.heap.objs.size (kR cs) (eI cs).length->(∀b o,s.heap.get? b=some o->h'.get? b=some o)->Q (.ref s.heap.objs.size) {s with heap:=h',toks:=tk}):
 wpAny (model prog w) A (call (.type "set") [.ref l]) Q E s:=by
 obtain⟨c,tl,hmro⟩:=F.called_set.mro
 have hmade:=F.called_set.made
 have hsub:=F.called_set.sub
 refine wpAny_call (codeAny_of_tree ?_)
 refine wpAny_pure ⟨Code.quiet_builtin _ (by decide+kernel),codeAny_builtin F.entry_type_call ?_⟩
 rw[Around.under_plain (weight_type_call_type "set" [.ref l] []) rfl]
 have h1:=F.called_set.notType
 have h2:=F.called_set.canCreate
 have hct:=F.typeCall_set_1 (.ref l)
 unfold Builtin.«type.__call__»
 refine wpAny_ite_false rfl ?_
 refine wpAny_ite_false rfl ?_
 refine wpAny_bind (wpAny_of_eq hct ?_)
 refine wpAny_bind (wpAny_of_eq hmro ?_)
 refine wpAny_ite_false rfl ?_
 refine wpAny_bind (wpAny_of_eq hmade ?_)
 refine wpAny_bind (wpAny_pure ?_)
 refine wpAny_bind (wpAny_holding (wpAny_call (codeAny_mono (code_set_new_1 (E:=E) (.ref l) (Q₁:=fun obj s₁=>∃led,obj= .ref s.heap.objs.size/\s₁={s with heap:=s.heap.push {cls:=.type "set",data:=.set #[] 0 (SetTable.fresh 0 0 led)}}) fun led=>⟨led,rfl,rfl⟩) fun r s₁ hr=> ?_)))
 rcases r with e|fl
 ·exact hr
 cases fl with
 |ret v=>
  obtain⟨led,rfl,rfl⟩:=hr
  have hS:(s.heap.push {cls:=.type "set",data:=.set #[] 0 (SetTable.fresh 0 0 led)}).get? s.heap.objs.size=some {cls:=.type "set",data:=.set #[] 0 (SetTable.fresh 0 0 led)}:=Heap.get?_push_size _ rfl
  have hT:(⟨s.heap.push {cls:=.type "set",data:=.set #[] 0 (SetTable.fresh 0 0 led)},s.gens,s.drawn,s.toks,s.os⟩:Shared).TypeIs (.ref s.heap.objs.size) "set":=⟨_,hS,rfl⟩
  have hli:=F.called_set.init.lookup
  have hbi:=F.called_set.init.bind (.ref s.heap.objs.size)
  refine wpAny_bind (wpAny_isInstance hT hsub ?_)
  refine wpAny_ite_false rfl ?_
  refine wpAny_bind (wpAny_holding ?_)
  refine wpAny_bind (wpAny_specialOf hT hli ?_)
  refine wpAny_holding (wpAny_bind (wpAny_of_eq hbi ?_))
  refine wpAny_bind (wpAny_call (codeAny_mono (R:=wants (fun r s₂=>r= .none/\∃h' tk,s₂={s with heap:=h',toks:=tk} /\h'.SetOf (strKind prog w) s.heap.objs.size (kR cs) (eI cs).length/\∀b o,s.heap.get? b=some o->h'.get? b=some o) E) (codeAny_call_builtin F.called_set.init.plain F.entry_set_init (check_set_init_1 hT ?_)) fun r2 s2 h2=> ?_))
  ·obtain⟨ol,hol,hcl,nl,hdl⟩:=hl
   have hol':=Heap.get?_push_of_some {cls:=.type "set",data:=.set #[] 0 (SetTable.fresh 0 0 led)} hol
   have hsls:=F.sub_list_set
   have hslf:=F.sub_list_frozenset
   unfold Builtin.«set.__init__»
   obtain⟨hp,g,d,tk,os⟩:=s
   refine wpAny_bind (wpAny_ite_true rfl (wpAny_pure ?_))
   show wpAny _ _ (typeNameOfCut 200 (.ref hp.objs.size)>>=_) _ _ _
   refine wpAny_bind ?_
   unfold typeNameOfCut
   refine wpAny_bind ?_
   unfold shownTypeOf
   refine wpAny_bind (wpAny_typeOf hT ?_)
   refine wpAny_ite_false rfl (wpAny_pure ?_)
   show wpAny _ _ (typeNameCut 200 (.type "set")) _ _ _
   refine wpAny_pure ?_
   show wpAny _ _ (checkCount _ 0 1 1>>=_) _ _ _
   refine wpAny_bind (wpAny_pure ?_)
   show wpAny _ _ (Builtin.Frozenset.addrOf (.ref hp.objs.size)>>=_) _ _ _
   refine wpAny_bind (wpAny_pure ?_)
   show wpAny _ _ (setUsed hp.objs.size>>=_) _ _ _
   refine wpAny_bind ?_
   unfold setUsed
   refine wpAny_bind (wpAny_setState_of hS rfl rfl ?_)
   refine wpAny_pure ?_
   refine wpAny_ite_false rfl ?_
   show wpAny _ _ (Builtin.Frozenset.updateFrom "set.__init__" hp.objs.size (.ref l)>>=_) _ _ _
   refine wpAny_bind ?_
   unfold Builtin.Frozenset.updateFrom
   have hTl:(⟨hp.push {cls:=.type "set",data:=.set #[] 0 (SetTable.fresh 0 0 led)},g,d,tk,os⟩:Shared).TypeIs (.ref l) "list":=⟨_,hol',hcl⟩
   have hl1:(hp.push {cls:=.type "set",data:=.set #[] 0 (SetTable.fresh 0 0 led)}).IsList l items.toArray:=⟨_,hol',hcl,nl,hdl⟩
   refine wpAny_bind ?_
   unfold Builtin.Frozenset.isAnySet
   show wpAny _ _ (isInstance (.ref l) (.type "set")>>=_) _ _ _
   refine wpAny_bind (wpAny_isInstance hTl hsls ?_)
   show wpAny _ _ (isInstance (.ref l) (.type "frozenset")) _ _ _
   refine wpAny_isInstance hTl hslf ?_
   refine wpAny_ite_false rfl ?_
   refine wpAny_bind (wpAny_typeOf hTl ?_)
   refine wpAny_ite_false rfl ?_
   refine wpAny_bind (wpAny_pyIter_list hl1 ?_)
   refine wpAny_bind (wpAny_runValue ?_)
   have lth:l<hp.objs.size:=Heap.lt_size hol
   have hsz1:(hp.push {cls:=.type "set",data:=.set #[] 0 (SetTable.fresh 0 0 led)}).objs.size=hp.objs.size+ 1:=Heap.size_push _ _
   refine a76 (A:=A.in1.in1) (cs:=cs) (items:=items) hh (it:=(hp.push {cls:=.type "set",data:=.set #[] 0 (SetTable.fresh 0 0 led)}).objs.size) (l:=l) (S:=hp.objs.size) (Nat.ne_of_lt (by rw[hsz1];exact Nat.lt_succ_of_lt lth)) (Nat.ne_of_lt lth) (Nat.ne_of_lt (by rw[hsz1];exact Nat.lt_succ_self _)) hv hlen hsz cs.length 0 _ (by omega) (Nat.zero_le _) ?_ ?_ ?_ fun h' tk' hS' hk'=> ?_
   ·exact⟨_,Heap.get?_push_size _ rfl,rfl,rfl⟩
   ·exact hl1.at fun o x=>Heap.get?_push_of_some _ x
   ·refine⟨_,#[],0,SetTable.fresh 0 0 led,Heap.get?_push_of_some _ hS,⟨rfl,rfl,rfl⟩,rfl,?_,fun k=> ?_,by decide,rfl,rfl⟩
    ·intro e he;simp at he
    ·constructor
     ·intro h;simp[eI]at h
     ·rintro⟨e,he,_⟩;simp at he
   ·refine wpAny_pure ?_
    refine wpAny_pure ?_
    refine⟨rfl,h',tk',rfl,hS',fun b o e=> ?_⟩
    have ltb:b<hp.objs.size:=Heap.lt_size e
    exact hk' b o (Nat.ne_of_lt (by rw[hsz1];exact Nat.lt_succ_of_lt ltb)) (Nat.ne_of_lt ltb) (Heap.get?_push_of_some _ (Heap.get?_push_of_some _ e))
  ·rcases r2 with e|fl
   ·exact h2
   cases fl with
   |ret v=>
    obtain⟨rfl,h',tk,rfl,h3,h4⟩:=h2
    refine wpAny_pure ?_
    refine wpAny_ite_false rfl ?_
    exact wpAny_pure (hQ h' tk h3 h4)
   |_=>exact h2
 |_=>exact hr
end
def uG(P:Program)(w:World)(D:Addr)(S:Str->Bool)(n:Nat):HO:=.ext fun h=>h.SetOf (strKind P w) D S n
section
variable{X:Cx}
theorem a9v(hc:X.calm=true):iE X (.type "set") (fun xs H Q=>∃a cs,xs= [.ref a] /\aO X.K H a (cs.map V.str)/\cs.length<=1000/\∀d,H d=none->Q (.ref d) (upd H d (uG X.prog X.w d (kR cs) (eI cs).length))):=by
 intro pins s σ H xs us Q I r h
 obtain⟨a,cs,rfl,ha,h1000,q⟩:=h
 obtain⟨u,rfl,rx⟩:=mN r
 cases rx
 obtain⟨its,r',pl,hz⟩:=I.list ha
 have hlen:its.length=cs.length:=by rw[<- r'.length,List.length_map]
 refine a6u (I.ok.hd hc) pl.isList (fun i c e=> ?_) hlen (by have:scanBound=scanBound:=rfl;unfold scanBound;omega) fun h' tk hS hk=> ?_
 ·obtain⟨u,e2,ru⟩:=bE.get r' (show(cs.map V.str)[i]?=some (.str c)by rw[List.getElem?_map,e];rfl)
  obtain⟨t,rfl⟩:=ru
  exact⟨t,e2⟩
 ·refine⟨.ref s.heap.objs.size,_,I.laid (t':=tk) (o:=uG X.prog X.w s.heap.objs.size (kR cs) (eI cs).length) hk (Nat.le_refl _) ⟨hS,?_,fun h1 h2 hs he=> ?_⟩,rfl,q _ (I.hok.fresh (Nat.le_refl _))⟩
  ·obtain⟨o,_,_,_,ho,_⟩:=hS
   exact⟨o,ho⟩
  ·obtain⟨o,es,ep,t,ho,r⟩:=hs
   exact⟨o,es,ep,t,he o ho,r⟩
theorem a5S:iE X (.builtin "len") (fun xs H Q=>∃d S n,xs= [.ref d] /\H d=some (uG X.prog X.w d S n)/\Q (.int n) H):=by
 intro pins s σ H xs us Q I r h
 obtain⟨d,S,n,rfl,hd,q⟩:=h
 obtain⟨u,rfl,rx⟩:=mN r
 cases rx
 obtain⟨⟨o,es,ep,t,ho,hx,hdt,_,_,hb,hf,hn⟩,_,_⟩:=I.hok d _ hd
 subst hn
 refine call_len_set ho hx hdt hf (by unfold scanBound at hb;omega) ⟨.int _,H,I.tok _,⟨_,rfl⟩,q⟩
end
theorem a6p:bootBuiltins "set"=some (.type "set"):=by kernel_rfl
section
variable{X:Cx}{pins:List (Addr×Obj)}{σ:St}{H:Hp}{s:Shared}{h':Heap}
theorem Inv.turned2{t':Nat}{it e:Addr}(I:Inv X pins σ H s)(k:∀b o,b≠e->b≠it->s.heap.get? b=some o->h'.get? b=some o)(fi:fF X pins H it)(fe:fF X pins H e):Inv X pins σ H {s with heap:=h',toks:=t'}:=by
 obtain⟨hn,hL,_,h1,h2,h3⟩:=fi
 obtain⟨gn,gL,_,g1,g2,g3⟩:=fe
 have nit:∀b u,H b=some u->b≠it/\b≠e:=fun b u q=>⟨(fun z=>by{rw[z,hn]at q;cases q}),(fun z=>by{rw[z,gn]at q;cases q})⟩
 refine I.step (g':=s.gens) (d':=s.drawn) (ch:=[it,e]) (fun b hb=> ?_) (fun b o _ _ hc q _=>k b o (fun z=>hc (by simp[z])) (fun z=>hc (by simp[z])) q) (fun b o _ _ hc q _=>⟨o.slots,k b o (fun z=>hc (by simp[z])) (fun z=>hc (by simp[z])) q⟩) (fun _ _ _ _ n=>n)
  (fun b o hc q=>⟨o,k b o (fun z=>hc (by simp[z])) (fun z=>hc (by simp[z])) q⟩) (fun _ _ q=>q) (fun _ _ _ q=>q) (fun b ps q=>⟨#[],by rw[q];simp⟩) (fun m hm=> ?_) (fun b u qb=> ?_) I.bare
 ·simp only[List.mem_cons,List.not_mem_nil,or_false]at hb
  rcases hb with rfl|rfl
  ·exact⟨h1,hL,h2,h3⟩
  ·exact⟨g1,gL,g2,g3⟩
 ·obtain⟨o,es,ep,ho,r⟩:=hm
  exact⟨o,es,ep,k _ o (Ne.symm gL) (Ne.symm hL) ho,r⟩
 ·have key:∀c v,c≠it/\c≠e->s.heap.get? c=some v->h'.get? c=some v:=fun c v n q=>k c v n.2 n.1 q
  refine(I.hok b u qb).stay (fun c v hc q=>key c v ?_ q) (fun _ q=>q) fun _ _ q=>q
  rcases hc with z|z
  ·rw[z];exact nit b u qb
  ·exact nit c _ z
end
noncomputable def xO (K:Fg) (a:Addr):It:=
 ⟨fun i H=>∃xs x,aO K H a xs/\xs[i]?=some x,fun i H x H'=>∃p y,H p=none/\x= .ref p/\H'=upd H p (.tup [.int (i:Int),y])/\∀xs,aO K H a xs->xs[i]?=some y,fun i H=>∃xs,aO K H a xs/\xs.length<=i⟩
theorem a4u{P:Program}{w:World}{K:Fg}{elts:List Expr}{x1:Nat}{tpos:Pos}(a it e:Addr)(ne:e≠it):mK P w K (.Tuple elts x1 tpos) (xO K a) [e,it] e (fun i h=>(∃old,IsEnum h e it (i:Int) old)/\h.IsListIter it a i) where
 mem:=by simp
 obj:=fun i h st b hb=>by
  obtain⟨⟨old,q⟩,o,q2,c,d⟩:=st
  simp only[List.mem_cons,List.not_mem_nil,or_false]at hb
  rcases hb with rfl|rfl
  ·exact⟨_,q,fun v z=>by
    have z':Data.fields _=Data.cell v:=z
    cases z'⟩
  ·exact⟨o,q2,fun v z=>by rw[d]at z;cases z⟩
 keep:=fun i h h' st k=>by
  obtain⟨⟨old,q⟩,o,q2,r⟩:=st
  exact⟨⟨old,k e (by simp) _ q⟩,o,k it (by simp) _ q2,r⟩
 item:=by
  intro X hP hw hK hc i pins s σ H E I hf st hg
  subst hP hw hK
  obtain⟨xs,x,hq,hx⟩:=hg
  obtain⟨⟨old,st⟩,sti⟩:=st
  obtain⟨its,rv,p,hz⟩:=I.list hq
  obtain⟨u,hu,ru⟩:=rv.get hx
  have fe:=hf e (by simp)
  have fi:=hf it (by simp)
  have hpn:H s.heap.objs.size=none:=I.hok.fresh (Nat.le_refl _)
  have hie:e≠s.heap.objs.size:=Nat.ne_of_lt (Heap.lt_size st)
  have hii:it≠s.heap.objs.size:=by obtain⟨o,q,_⟩:=sti;exact Nat.ne_of_lt (Heap.lt_size q)
  refine wpAny_pyNext_enum_item st sti p.isList (x:=u) (by simpa using hu) ne fun h' st' sti' htup hsz kk=> ?_
  have I1:Inv X pins σ (upd H s.heap.objs.size (.tup [.int (i:Int),x])) {s with heap:=s.heap.push {cls:=.type "tuple",data:=.seq #[.int (i:Int) s.toks,u]},toks:=s.toks+ 1}:=by
   refine I.laid (t':=s.toks+ 1) (o:=.tup [.int (i:Int),x]) (fun b ob q=>Heap.get?_push_of_some _ q) (Nat.le_refl _) ?_
   refine⟨by show 2<=sizeLine;exact sl,[.int (i:Int) s.toks,u],.cons ⟨_,rfl⟩ (.cons ru .nil),_,Heap.get?_push_size _ rfl,rfl,0,rfl⟩
  have g0:∀b,b≠s.heap.objs.size->H b=none->upd H s.heap.objs.size (.tup [.int (i:Int),x]) b=none:=fun b n h0=>by rw[aG n];exact h0
  have fe':fF X pins (upd H s.heap.objs.size (.tup [.int (i:Int),x])) e:=⟨g0 e hie fe.1,fe.2⟩
  have fi':fF X pins (upd H s.heap.objs.size (.tup [.int (i:Int),x])) it:=⟨g0 it hii fi.1,fi.2⟩
  have I2:Inv X pins σ (upd H s.heap.objs.size (.tup [.int (i:Int),x])) {s with heap:=h',toks:=s.toks+ 1}:=by
   have kp:∀b ob,b≠e->b≠it->(s.heap.push {cls:=.type "tuple",data:=.seq #[.int (i:Int) s.toks,u]}).get? b=some ob->h'.get? b=some ob:=fun b ob hb hb2 q=>by
    rcases Heap.get?_push_cases q with⟨rfl,rfl⟩|q
    ·exact htup
    ·exact kk b ob hb hb2 q
   exact Inv.turned2 (s:={s with heap:=s.heap.push {cls:=.type "tuple",data:=.seq #[.int (i:Int) s.toks,u]},toks:=s.toks+ 1}) (h':=h') (t':=s.toks+ 1) I1 kp fi' fe'
  refine⟨_,rfl,wpAny_letOwnedTupleGo_enum (s:={s with heap:=h',toks:=s.toks+ 1}) st' fun h'' st'' sb=> ?_⟩
  have I3:Inv X pins σ (upd H s.heap.objs.size (.tup [.int (i:Int),x])) {s with heap:=h'',toks:=s.toks+ 1}:=
   Inv.turned (s:={s with heap:=h',toks:=s.toks+ 1}) (h':=h'') (t':=s.toks+ 1) (it:=e) I2 (fun b ob hb q=>sb.extBut b ob hb q) fe'.1 fe.2.1 fe.2.2.2.1 fe.2.2.2.2.1 fe.2.2.2.2.2
  refine⟨.ref s.heap.objs.size,_,I3,rfl,⟨s.heap.objs.size,x,hpn,rfl,rfl,fun ys hy=>by rw[I.list_inj hy hq];exact hx⟩,⟨⟨u,?_⟩,sti'.extBut sb.extBut ne.symm⟩,fun b hb=> ?_⟩
  ·have q:IsEnum h'' e it ((i:Int)+ 1) u:=st''
   rw[show ((i+ 1:Nat):Int)=(i:Int)+ 1 by omega]
   exact q
  ·simp only[List.mem_cons,List.not_mem_nil,or_false]at hb
   rcases hb with rfl|rfl
   ·exact fe'.1
   ·exact fi'.1
 done:=by
  intro X hP hw hK hc i pins s σ H E I hf st hg
  subst hP hw hK
  obtain⟨xs,hq,hx⟩:=hg
  obtain⟨⟨old,st⟩,sti⟩:=st
  obtain⟨its,rv,p,hz⟩:=I.list hq
  have hl:xs.length=its.length:=Paired.length rv
  obtain⟨f0,f1,f2,f3,f4,f5⟩:=hf it (by simp)
  exact a6O (I.ok.hd hc) (.inl ⟨old,st⟩) sti p.isList (by simp;omega) fun h' eb=>⟨rfl,I.turned (t':=s.toks) (fun b o hb e=>eb b o hb e) f0 f1 f3 f4 f5⟩
 self:=fun A i s Q E st h=>by
  obtain⟨⟨old,st⟩,_⟩:=st
  exact wpAny_pyIter_enum st h
def a8y(K:Fg)(tl:TE):TI:=fun σ H R=>tl σ H fun x H1=>∃a xs,x= .ref a/\aO K H1 a xs/\R (xO K a) H1
section
variable{X:Cx}{elts:List Expr}{x1:Nat}{tpos:Pos}{e:Expr}{te:TE}{x':Str}{p' pos':Pos}
theorem a3S(he:PE X e te)(hg':Gl X x')(hm':X.mg x'=none)(hv':bootBuiltins x'=some (.type "enumerate"))(hn':x'≠ "__name__":=by decide)(hdb':(x'==("__debug__":Str))=false:=by decide)(h1:starEach [e] X.env= [(false,eval e X.env)]:=by rfl):
 PI X (.Tuple elts x1 tpos) (.Call (.Name x' p') [e] [] pos') (a8y X.K te):=by
 intro pins s σ H R I h
 refine wpAny_Call_Name_kw (mJ I hg' hm' hv' ?_ hn' hdb')
 refine PyProof.Rows.callWith_type1 ?_ h1 rfl
 rw[h1]
 refine Calls.spliced_cons (aS (he pins s σ H _ I h) ?_)
 rintro u s1 ⟨v,H1,I1,rv,q,ys,ex,hq,k⟩
 subst ex
 cases rv
 refine Calls.spliced_nil ?_
 obtain⟨its,r',pl,hz⟩:=I1.list hq
 refine call_enumerate_list pl.isList fun h' st sti hsz kk=> ?_
 have nit:∀{b:Addr},s1.heap.objs.size<=b->fF X pins H1 b:=fun hb=>I1.fpOk hb (I1.hok.fresh hb)
 refine wpAny_pyIter_enum (s:={s1 with heap:=h'}) st ?_
 refine⟨s1.heap.objs.size+ 1,[s1.heap.objs.size+ 1,s1.heap.objs.size],_,_,H1,rfl,I1.kept (t':=s1.toks) kk,a4u q s1.heap.objs.size (s1.heap.objs.size+ 1) (Nat.succ_ne_self _),⟨⟨_,st⟩,sti⟩,fun b hb=> ?_,k⟩
 simp only[List.mem_cons,List.not_mem_nil,or_false]at hb
 rcases hb with rfl|rfl
 ·exact nit (by omega)
 ·exact nit (Nat.le_refl _)
end
theorem a51:bootBuiltins "enumerate"=some (.type "enumerate"):=by kernel_rfl
theorem a8R{K:Fg}{cp:List (Nat×Str)}{tt:TT}{te:TE}{σ:St}{a:Addr}{xs:List V}{D:Addr}{Q:VK}{H1:Hp}(Pv:Nat->List V->Hp->Prop)(h0:Pv 0 [] (upd H1 D (.lst [])))
 (hl:∀i ys H,H D=some (.lst ys)->Pv i ys H->aO K H a xs)
 (hs:∀i x ys H p,xs[i]?=some x->H D=some (.lst ys)->Pv i ys H->H p=none->tt (some (.int (i:Int))::some x::dG cp σ) (upd H p (.tup [.int (i:Int),x])) fun b H4=>if b=true then te (some (.int (i:Int))::some x::dG cp σ) H4 (kU D Pv i ys) else∃ys',H4 D=some (.lst ys')/\Pv (i+ 1) ys' H4)
 (hd:∀ys H,H D=some (.lst ys)->Pv xs.length ys H->Q (.ref D) H):yN cp (xC K 2 (oB (iT 0) (oB (iT 1) uC))) tt te σ (xO K a) D Q H1:=by
 refine⟨fun i m H=>m=xs.length- i/\i<=xs.length/\∃ys,H D=some (.lst ys)/\Pv i ys H,⟨xs.length,by simp,Nat.zero_le _,[],aJ,h0⟩,?_⟩
 rintro i m H ⟨rfl,hi,ys,hD,p⟩
 by_cases hlt:i<xs.length
 ·refine .inr ⟨⟨xs,xs[i],hl i ys H hD p,by simp[hlt]⟩,kU D Pv i ys,fun H4=>∃ys',H4 D=some (.lst ys')/\Pv (i+ 1) ys' H4,fun y H5 ⟨h1,h2,h3⟩=>⟨ys,xs.length- (i+ 1),h1,h2,by omega,rfl,hlt,_,aJ,h3⟩,fun H4 ⟨ys',h1,h2⟩=>⟨xs.length- (i+ 1),by omega,rfl,hlt,ys',h1,h2⟩,fun v H' o o' y=> ?_⟩
  obtain⟨pa,y',hn,ex,eh,hy⟩:=y
  subst ex eh
  exact⟨pa,_,rfl,bW.of aJ,rfl,_,_,rfl,_,_,rfl,rfl,_,_,rfl,hs i y' ys H pa (hy xs (hl i ys H hD p)) hD p hn⟩
 ·have e:i=xs.length:=by omega
  subst e
  exact .inl ⟨⟨xs,hl _ ys H hD p,Nat.le_refl _⟩,hd ys H hD p⟩
def a36:V->List V->Hp->VK->Prop:=fun x vs H Q=>∃(z y:Str) (i:Nat) (r:List Nat),x= .str z/\vs= [.str y] /\(y.length==0)=false/\z.length<=1000/\Builtin.Str.occurrences z y 0 z.length 1=i::r/\∀p,H p=none->Q (.ref p) (upd H p (.tup [.str (Builtin.Str.strSub z 0 i),.str y,.str (Builtin.Str.strSub z (i+ y.length) z.length)]))
theorem a7a{X:Cx}:wF X "str.partition" a36:=by
 intro pins s σ H x vs v us Q I rx rv h
 obtain⟨z,y,i,r,rfl,rfl,hy,hz,ho,q⟩:=h
 obtain⟨t,rfl⟩:=rx
 obtain⟨u,rfl,ru⟩:=rv.one
 obtain⟨t',rfl⟩:=ru
 have hszl:(1010:Nat)<=sizeLine:=by decide
 refine call_meets F.slot_str_partition (typeIs_str _ _ _) F.entry_str_partition (F.args_str_partition_2 _ _) (meets_str_partition z y t t' hy (by omega)) ?_
 rw[ho]
 refine⟨.ref s.heap.objs.size,_,I.laid (t':=s.toks+ 1+ 1) (o:=.tup [.str (Builtin.Str.strSub z 0 i),.str y,.str (Builtin.Str.strSub z (i+ y.length) z.length)]) (fun b ob q=>Heap.get?_push_of_some _ q) (Nat.le_refl _) ?_,rfl,q _ (I.hok.fresh (Nat.le_refl _))⟩
 exact⟨by show 3<=sizeLine;omega,_,.cons ⟨_,rfl⟩ (.cons ⟨_,rfl⟩ (.cons ⟨_,rfl⟩ .nil)),_,Heap.get?_push_size _ rfl,rfl,0,rfl⟩
section
variable{K:Fg}{mg:Str->Option Value}
theorem na{C:Addr}{a:Str}(h:PySem.W.findIn K (.ref C) a=some none):bV K C a:=h
theorem xG{h:Heap}{x a b:Str}{p:Addr}{t0 t1:Tok}{od:Option Addr}{m:Nat}{sl':Array (Option Value)}(X:K.In h)(G:h.Ns mainGlobals mg)(i:PySem.W.nsIn K mainGlobals x=some (some (.ref p)))(j:K.lookup p=some ⟨.type "tuple",od,.seq #[Value.str a t0,Value.str b t1] m,sl'⟩):∃p,mg x=some (.ref p)/\∀H,bW K H p [V.str a,V.str b]:=
 ⟨p,PySem.W.mg_of X G i,fun H=> .inr ⟨_,_,_,j,rfl,rfl,sl (by simp),.cons ⟨_,rfl⟩ (.cons ⟨_,rfl⟩ .nil)⟩⟩
theorem a6M{h:Heap}{cls m qual:Str}{st:Stmt}{C f c p:Addr}{oc wo:Value}{od an wd:Option Addr}{osl ws:Array (Option Value)}{kV doc pm ct:Value}{vs:Array Value}(X:K.In h)(G:h.Ns mainGlobals mg)(n:PySem.W.nsIn K mainGlobals cls=some (some (.ref C)))(a:PySem.W.findIn K (.ref C) m=some (some (.ref f)))(i:PySem.W.isFn K (.ref f)=true)
 (l:K.lookup f=some ⟨oc,od,.func (PySem.W.fnOf m qual (jE st) (eG st) (aN st) .none kV doc pm an (.ref c) ct),osl⟩)(hc:PySem.W.codeIn K (.ref c) qual=true)(k:PySem.W.keepIn K (.ref f)=true)(w:K.lookup c=some ⟨wo,wd,.fields vs,ws⟩)(t:vs[11]?=some (.ref p))(hd:PySem.W.codeHdIn K c p=true):jP K mg cls m qual st (c,p):=a5d X G n a i l hc k hd
end
end L2
namespace My
open PySem L2
def aY(i:Nat):Stmt:=PySem.Challenge.pw_lazycols_k45_rows_beside.main.body.getD i (.Pass ⟨0,0,0,0⟩)
abbrev zU:Stmt:=aY 15
abbrev a0L:Stmt:=aY 16
abbrev a1Y:Stmt:=aY 17
abbrev a2i:Stmt:=aY 18
abbrev a3A:Stmt:=aY 19
abbrev a2f:Stmt:=aY 20
abbrev a3g:Stmt:=aY 24
abbrev a3h:Stmt:=aY 25
abbrev a3i:Stmt:=aY 26
abbrev a3K:Stmt:=aY 27
abbrev a28:Stmt:=aY 33
abbrev a1c:Stmt:=aY 34
abbrev a2O:Stmt:=aY 35
abbrev a1K:Stmt:=aY 38
abbrev a3v:Stmt:=aY 39
abbrev a3C:Stmt:=aY 49
abbrev a16:Stmt:=aY 50
abbrev a2s:Stmt:=aY 58
abbrev a2b:Stmt:=aY 59
abbrev a0x:Stmt:=aY 60
abbrev a3t:Stmt:=aY 61
abbrev qT:Stmt:=aY 62
abbrev a2L:Stmt:=aY 63
abbrev oO:Stmt:=aY 64
abbrev jH:Stmt:=aY 65
abbrev a3E:Stmt:=bL (aY 28) 0
abbrev uS:Stmt:=bL (aY 28) 1
abbrev a3b:Stmt:=bL (aY 29) 0
abbrev rZ:Stmt:=bL (aY 29) 1
abbrev qY:Stmt:=bL (aY 29) 2
abbrev a11:Stmt:=bL (aY 36) 0
abbrev a08:Stmt:=bL (aY 36) 1
abbrev a7S:Stmt:=bL (aY 36) 2
abbrev a35:Stmt:=bL (aY 36) 3
abbrev sQ:Stmt:=bL (aY 36) 4
abbrev a9s:Stmt:=bL (aY 36) 5
abbrev a0l:Stmt:=bL (aY 36) 7
abbrev a1r:Stmt:=bL (aY 36) 11
abbrev zN:Stmt:=bL (aY 36) 13
abbrev a3m:Stmt:=bL (aY 40) 0
abbrev a0c:Stmt:=bL (aY 40) 1
abbrev a9o:Stmt:=bL (aY 41) 0
abbrev yX:Stmt:=bL (aY 41) 1
abbrev a4N:Stmt:=bL (aY 41) 2
abbrev a30:Stmt:=bL (aY 41) 3
abbrev tX:Stmt:=bL (aY 41) 4
abbrev tQ:Stmt:=bL (aY 41) 5
abbrev nI:Stmt:=bL (aY 41) 6
abbrev tF:Stmt:=bL (aY 41) 7
abbrev tJ:Stmt:=bL (aY 41) 9
abbrev a2c:Stmt:=bL (aY 42) 0
abbrev a0F:Stmt:=bL (aY 42) 1
abbrev a3M:Stmt:=bL (aY 42) 2
abbrev a0f:Stmt:=bL (aY 42) 3
abbrev a3o:Stmt:=bL (aY 42) 4
abbrev a04:Stmt:=bL (aY 43) 0
abbrev rN:Stmt:=bL (aY 43) 1
abbrev a0d:Stmt:=bL (aY 43) 2
abbrev sD:Stmt:=bL (aY 43) 3
abbrev zX:Stmt:=bL (aY 43) 4
abbrev qG:Stmt:=bL (aY 43) 5
abbrev a3f:Stmt:=bL (aY 45) 0
abbrev a1x:Stmt:=bL (aY 45) 1
abbrev a1L:Stmt:=bL (aY 45) 2
abbrev a1A:Stmt:=bL (aY 45) 3
abbrev a1k:Stmt:=bL (aY 45) 4
abbrev tK:Stmt:=bL (aY 45) 5
abbrev a05:Stmt:=bL (aY 46) 0
abbrev a3G:Stmt:=bL (aY 46) 1
abbrev a2e:Stmt:=bL (aY 47) 0
abbrev a3l:Stmt:=bL (aY 47) 1
abbrev a1p:Stmt:=bL (aY 54) 0
abbrev a3n:Stmt:=bL (aY 54) 1
abbrev a1O:Stmt:=bL (aY 55) 0
abbrev a2M:Stmt:=bL (aY 55) 1
abbrev pB:Stmt:=bL (aY 55) 2
abbrev gQ:Stmt:=bL (aY 55) 3
abbrev a0N:Stmt:=bL (aY 55) 4
abbrev a2h:Stmt:=bL (aY 55) 5
abbrev a1F:Stmt:=bL (aY 56) 0
abbrev a3N:Stmt:=bL (aY 56) 1
abbrev a1Z:Stmt:=bL (aY 56) 2
abbrev a2d:Stmt:=bL (aY 56) 3
abbrev a5F:Stmt:=bL (aY 56) 8
abbrev a1I:Stmt:=bL (aY 56) 9
abbrev a0Y:Stmt:=bL (aY 56) 11
abbrev a3J:Stmt:=bL (aY 56) 12
abbrev qW:Stmt:=bL (aY 56) 13
abbrev a3w:Stmt:=bL (aY 56) 16
abbrev a0j:Stmt:=bL (aY 56) 17
abbrev zP:Stmt:=bL (aY 56) 18
abbrev a2o:Stmt:=bL (aY 56) 19
abbrev a18:Stmt:=bL (aY 56) 20
abbrev a0A:Stmt:=bL (aY 56) 21
abbrev a2G:Stmt:=bL (aY 56) 22
structure qC(K:Fg)(mg:Str->Option Value)(C:Addr):Prop where
 c:mg "Rule"=some (.ref C)
 cl:cW K C
 mks:PySem.W.makesIn K C=true
 kc:PySem.W.keepIn K (.ref C)=true
 hc:PySem.W.findIn K (.ref C) "__class__"=some (some (.builtin "object.__class__"))
 n_function:bV K C "function"
 m_init:aZ K C "__init__" "Rule.__init__" a3E
 v_init:ClsM K C "__init__"
 m_reckon:aZ K C "reckon" "Rule.reckon" uS
structure lS(K:Fg)(mg:Str->Option Value)(C:Addr):Prop where
 c:mg "Cells"=some (.ref C)
 cl:cW K C
 mks:PySem.W.makesIn K C=true
 kc:PySem.W.keepIn K (.ref C)=true
 hc:PySem.W.findIn K (.ref C) "__class__"=some (some (.builtin "object.__class__"))
 n_function:bV K C "function"
 n_names:bV K C "names"
 m_init:aZ K C "__init__" "Cells.__init__" a3b
 m_leans:aZ K C "leans" "Cells.leans" rZ
 m_gather:aZ K C "gather" "Cells.gather" qY
 m_reckon:aZ K C "reckon" "Rule.reckon" uS
 isl:PySem.W.kitOne K (.ref C) (.type "list")=some false
 own:PySem.W.mroIn K C (.type "object")=some true/\PySem.W.specialIn K (.builtin "object.__class__") "__get__"=some (some (.builtin "getset_descriptor.__get__"))/\PySem.W.takesIn K (.builtin "object.__class__")=some true
structure cI(K:Fg)(mg:Str->Option Value)(C:Addr):Prop where
 c:mg "Table"=some (.ref C)
 cl:cW K C
 mks:PySem.W.makesIn K C=true
 kc:PySem.W.keepIn K (.ref C)=true
 hc:PySem.W.findIn K (.ref C) "__class__"=some (some (.builtin "object.__class__"))
 n_row_numbers:bV K C "row_numbers"
 n_fresh_number:bV K C "fresh_number"
 n_kept:bV K C "kept"
 m_init:aZ K C "__init__" "Table.__init__" a11
 m_many:aZ K C "many" "Table.many" a08
 m_numbers:aZ K C "numbers" "Table.numbers" a7S
 m_columns:aZ K C "columns" "Table.columns" a35
 m_give:aZ K C "give" "Table.give" sQ
 m_drop:aZ K C "drop" "Table.drop" a9s
 m_at:aZ K C "at" "Table.at" a0l
 m_number_at:aZ K C "number_at" "Table.number_at" a1r
 m_check_column:aZ K C "check_column" "Table.check_column" zN
structure lO(K:Fg)(mg:Str->Option Value)(C:Addr):Prop where
 c:mg "Spot"=some (.ref C)
 cl:cW K C
 mks:PySem.W.makesIn K C=true
 kc:PySem.W.keepIn K (.ref C)=true
 hc:PySem.W.findIn K (.ref C) "__class__"=some (some (.builtin "object.__class__"))
 n_sheet:bV K C "sheet"
 n_name:bV K C "name"
 n_column:bV K C "column"
 n_place:bV K C "place"
 m_init:aZ K C "__init__" "Spot.__init__" a3m
 m_told:aZ K C "told" "Spot.told" a0c
structure a8V(K:Fg)(mg:Str->Option Value)(C:Addr):Prop where
 c:mg "View"=some (.ref C)
 cl:cW K C
 mks:PySem.W.makesIn K C=true
 kc:PySem.W.keepIn K (.ref C)=true
 hc:PySem.W.findIn K (.ref C) "__class__"=some (some (.builtin "object.__class__"))
 m_columns:aZ K C "columns" "View.columns" a9o
 m_rows:aZ K C "rows" "View.rows" yX
 m_value_at:aZ K C "value_at" "View.value_at" a4N
 m_spots_at:aZ K C "spots_at" "View.spots_at" a30
 m_many:aZ K C "many" "View.many" tX
 m_look:aZ K C "look" "View.look" tQ
 m_shown:aZ K C "shown" "View.shown" nI
 m_spots:aZ K C "spots" "View.spots" tF
 m_asked_row:aZ K C "asked_row" "View.asked_row" tJ
structure fM(K:Fg)(mg:Str->Option Value)(C:Addr):Prop where
 c:mg "Whole"=some (.ref C)
 cl:cW K C
 mks:PySem.W.makesIn K C=true
 kc:PySem.W.keepIn K (.ref C)=true
 hc:PySem.W.findIn K (.ref C) "__class__"=some (some (.builtin "object.__class__"))
 n_sheet:bV K C "sheet"
 n_name:bV K C "name"
 m_init:aZ K C "__init__" "Whole.__init__" a2c
 m_columns:aZ K C "columns" "Whole.columns" a0F
 m_rows:aZ K C "rows" "Whole.rows" a3M
 m_value_at:aZ K C "value_at" "Whole.value_at" a0f
 m_spots_at:aZ K C "spots_at" "Whole.spots_at" a3o
 m_many:aZ K C "many" "View.many" tX
 m_look:aZ K C "look" "View.look" tQ
 m_shown:aZ K C "shown" "View.shown" nI
 m_spots:aZ K C "spots" "View.spots" tF
 m_asked_row:aZ K C "asked_row" "View.asked_row" tJ
structure gG(K:Fg)(mg:Str->Option Value)(C:Addr):Prop where
 c:mg "Beside"=some (.ref C)
 cl:cW K C
 mks:PySem.W.makesIn K C=true
 kc:PySem.W.keepIn K (.ref C)=true
 hc:PySem.W.findIn K (.ref C) "__class__"=some (some (.builtin "object.__class__"))
 n_view:bV K C "view"
 n_key:bV K C "key"
 n_sheet:bV K C "sheet"
 n_name:bV K C "name"
 n_theirs:bV K C "theirs"
 m_init:aZ K C "__init__" "Beside.__init__" a04
 m_columns:aZ K C "columns" "Beside.columns" rN
 m_value_at:aZ K C "value_at" "Beside.value_at" a0d
 m_spots_at:aZ K C "spots_at" "Beside.spots_at" sD
 m_is_theirs:aZ K C "is_theirs" "Beside.is_theirs" zX
 m_matching:aZ K C "matching" "Beside.matching" qG
 m_rows:aZ K C "rows" "View.rows" yX
 m_many:aZ K C "many" "View.many" tX
 m_look:aZ K C "look" "View.look" tQ
 m_shown:aZ K C "shown" "View.shown" nI
 m_spots:aZ K C "spots" "View.spots" tF
 m_asked_row:aZ K C "asked_row" "View.asked_row" tJ
structure bU(K:Fg)(mg:Str->Option Value)(C:Addr):Prop where
 c:mg "Board"=some (.ref C)
 cl:cW K C
 mks:PySem.W.makesIn K C=true
 kc:PySem.W.keepIn K (.ref C)=true
 hc:PySem.W.findIn K (.ref C) "__class__"=some (some (.builtin "object.__class__"))
 n_given:bV K C "given"
 n_rules:bV K C "rules"
 n_memory:bV K C "memory"
 n_order:bV K C "order"
 m_init:aZ K C "__init__" "Board.__init__" a3f
 m_has_column:aZ K C "has_column" "Board.has_column" a1x
 m_content:aZ K C "content" "Board.content" a1L
 m_set_column:aZ K C "set_column" "Board.set_column" a1A
 m_empty_column:aZ K C "empty_column" "Board.empty_column" a1k
 m_outcome:aZ K C "outcome" "Board.outcome" tK
structure rL(K:Fg)(mg:Str->Option Value)(C:Addr):Prop where
 c:mg "TableTold"=some (.ref C)
 cl:cW K C
 mks:PySem.W.makesIn K C=true
 kc:PySem.W.keepIn K (.ref C)=true
 hc:PySem.W.findIn K (.ref C) "__class__"=some (some (.builtin "object.__class__"))
 n_boards:bV K C "boards"
 n_name:bV K C "name"
 n_size:bV K C "size"
 m_init:aZ K C "__init__" "TableTold.__init__" a05
 m_take:aZ K C "take" "TableTold.take" a3G
structure nY(K:Fg)(mg:Str->Option Value)(C:Addr):Prop where
 c:mg "ColumnSet"=some (.ref C)
 cl:cW K C
 mks:PySem.W.makesIn K C=true
 kc:PySem.W.keepIn K (.ref C)=true
 hc:PySem.W.findIn K (.ref C) "__class__"=some (some (.builtin "object.__class__"))
 n_board:bV K C "board"
 n_column:bV K C "column"
 n_after:bV K C "after"
 n_before:bV K C "before"
 m_init:aZ K C "__init__" "ColumnSet.__init__" a2e
 m_take:aZ K C "take" "ColumnSet.take" a3l
structure lF(K:Fg)(mg:Str->Option Value)(C:Addr):Prop where
 c:mg "Trial"=some (.ref C)
 cl:cW K C
 mks:PySem.W.makesIn K C=true
 kc:PySem.W.keepIn K (.ref C)=true
 hc:PySem.W.findIn K (.ref C) "__class__"=some (some (.builtin "object.__class__"))
 n_finder:bV K C "finder"
 n_looked:bV K C "looked"
 n_lacking:bV K C "lacking"
 m_init:aZ K C "__init__" "Trial.__init__" a1p
 m_look:aZ K C "look" "Trial.look" a3n
structure eW(K:Fg)(mg:Str->Option Value)(C:Addr):Prop where
 c:mg "Finder"=some (.ref C)
 cl:cW K C
 mks:PySem.W.makesIn K C=true
 kc:PySem.W.keepIn K (.ref C)=true
 hc:PySem.W.findIn K (.ref C) "__class__"=some (some (.builtin "object.__class__"))
 n_boards:bV K C "boards"
 n_found:bV K C "found"
 n_looked:bV K C "looked"
 m_init:aZ K C "__init__" "Finder.__init__" a1O
 m_value_of:aZ K C "value_of" "Finder.value_of" a2M
 m_attempt:aZ K C "attempt" "Finder.attempt" pB
 m_gathered:aZ K C "gathered" "Finder.gathered" gQ
 m_settle:aZ K C "settle" "Finder.settle" a0N
 m_knows:aZ K C "knows" "Finder.knows" a2h
structure cU(K:Fg)(mg:Str->Option Value)(C:Addr):Prop where
 c:mg "Sheet"=some (.ref C)
 cl:cW K C
 mks:PySem.W.makesIn K C=true
 kc:PySem.W.keepIn K (.ref C)=true
 hc:PySem.W.findIn K (.ref C) "__class__"=some (some (.builtin "object.__class__"))
 n_boards:bV K C "boards"
 n_changes:bV K C "changes"
 n_finder:bV K C "finder"
 m_init:aZ K C "__init__" "Sheet.__init__" a1F
 m_table:aZ K C "table" "Sheet.table" a3N
 m_give:aZ K C "give" "Sheet.give" a1Z
 m_rule:aZ K C "rule" "Sheet.rule" a2d
 m_tables:aZ K C "tables" "Sheet.tables" a5F
 m_columns:aZ K C "columns" "Sheet.columns" a1I
 m_many:aZ K C "many" "Sheet.many" a0Y
 m_cell:aZ K C "cell" "Sheet.cell" a3J
 m_stretch:aZ K C "stretch" "Sheet.stretch" qW
 m_make:aZ K C "make" "Sheet.make" a3w
 m_board_of:aZ K C "board_of" "Sheet.board_of" a0j
 m_board_with:aZ K C "board_with" "Sheet.board_with" zP
 m_board_for:aZ K C "board_for" "Sheet.board_for" a2o
 m_check_cell:aZ K C "check_cell" "Sheet.check_cell" a18
 m_check_leans:aZ K C "check_leans" "Sheet.check_leans" a0A
 m_check_ring:aZ K C "check_ring" "Sheet.check_ring" a2G
structure aW(K:Fg)(mg:Str->Option Value):Prop where
 len:mg "len"=none
 isinstance:mg "isinstance"=none
 int:mg "int"=none
 bool:mg "bool"=none
 str:mg "str"=none
 all:mg "all"=none
 range:mg "range"=none
 abs:mg "abs"=none
 list:mg "list"=none
 tuple:mg "tuple"=none
 max:mg "max"=none
 enumerate:mg "enumerate"=none
 reversed:mg "reversed"=none
 set:mg "set"=none
 ValueError:mg "ValueError"=none
 g_LETTERS:∃t,mg "LETTERS"=some (.str ("abcdefghijklmnopqrstuvwxyz":Str) t)
 g_MOST_LETTERS:∃t,mg "MOST_LETTERS"=some (.int 8 t)
 g_ODD:∃p,mg "ODD"=some (.ref p)/\∀H,bW K H p [V.str ("fault":Str),V.str ("odd":Str)]
 g_MOST_NAMES:∃t,mg "MOST_NAMES"=some (.int 6 t)
 g_LACKS:∃p,mg "LACKS"=some (.ref p)/\∀H,bW K H p [V.str ("fault":Str),V.str ("lacks":Str)]
 g_MOST_ROWS:∃t,mg "MOST_ROWS"=some (.int 30 t)
 g_MOST_COLUMNS:∃t,mg "MOST_COLUMNS"=some (.int 8 t)
 g_MOST_TABLES:∃t,mg "MOST_TABLES"=some (.int 4 t)
 g_UNKNOWN:∃p,mg "UNKNOWN"=some (.ref p)/\∀H,bW K H p [V.str ("fault":Str),V.str ("unknown":Str)]
 d_is_whole:dM K mg "is_whole" zU
 d_is_number:dM K mg "is_number" a0L
 d_is_name:dM K mg "is_name" a1Y
 d_is_fault:dM K mg "is_fault" a2i
 d_is_value:dM K mg "is_value" a3A
 d_settled:dM K mg "settled" a2f
 d_check_name:dM K mg "check_name" a3g
 d_checked_names:dM K mg "checked_names" a3h
 d_each_once:dM K mg "each_once" a3i
 d_look_in_turn:dM K mg "look_in_turn" a3K
 d_check_size:dM K mg "check_size" a28
 d_check_place:dM K mg "check_place" a1c
 d_check_values:dM K mg "check_values" a2O
 d_check_column:dM K mg "check_column" a1K
 d_behind_point:dM K mg "behind_point" a3v
 d_ring_from:dM K mg "ring_from" a3C
 d_way_to:dM K mg "way_to" a16
 d_law_cell_at:dM K mg "_law_cell_at" a2s
 d_law_value:dM K mg "_law_value" a2b
 d_law_values:dM K mg "_law_values" a0x
 d_law_twice:dM K mg "_law_twice" a3t
 d_law_matches:dM K mg "_law_matches" qT
 d_law_beside:dM K mg "_law_beside" a2L
 d_law_column:dM K mg "_law_column" oO
 d_law:dM K mg "law" jH
 notabs:PySem.W.noTabs K=true
 t_Rule:∃C,qC K mg C
 t_Cells:∃C,lS K mg C
 t_Table:∃C,cI K mg C
 t_Spot:∃C,lO K mg C
 t_View:∃C,a8V K mg C
 t_Whole:∃C,fM K mg C
 t_Beside:∃C,gG K mg C
 t_Board:∃C,bU K mg C
 t_TableTold:∃C,rL K mg C
 t_ColumnSet:∃C,nY K mg C
 t_Trial:∃C,lF K mg C
 t_Finder:∃C,eW K mg C
 t_Sheet:∃C,cU K mg C
structure Tbs(h:Heap)(K:Fg)(mg:Str->Option Value):Prop where
 bs:∃z_law z_Finder_gathered:Addr×Addr,yT K mg "law" jH z_law/\jP K mg "Finder" "gathered" "Finder.gathered" gQ z_Finder_gathered/\z_law.2≠z_Finder_gathered.2/\h.get? z_Finder_gathered.2=some (PySem.W.tabObj #[])
abbrev rF:Str:= "abcdefghijklmnopqrstuvwxyz"
def oY(c:Nat):Bool:= !(Builtin.Str.occurrences rF ⟨#[c]⟩ 0 rF.length 1).isEmpty
def lG(t:Str):Bool:=decide ((1:Int)<=t.length)&&decide ((t.length:Int)<=8)&&t.cps.toList.all oY
noncomputable def nV:PyData->Bool
 | .int _=>true
 |_=>false
def fR:PyData->Bool
 | .int i=>decide ((if i<0 then-i else i)<10^ (60:Int).toNat)
 |_=>false
def fE:PyData->Bool
 | .str t=>lG t
 |_=>false
def hV:PyData->Bool
 | .tuple [.str z,d]=>decide (z= "fault")&&fE d
 |_=>false
def jS(d:PyData):Bool:=fR d||hV d
def tP(d:PyData):Prop:=∀t,d= .str t->t.length<=1000
def lR(d:PyData):Prop:=∀ds,d= .tuple ds->∀e∈ds,tP e
theorem lH{t:Str}(h:t.length<=1000):tP (.str t):=fun z e=>by cases e;exact h
theorem a3c{d:PyData}(h:iN d≠ .tup):lR d:=fun z e=>by subst e;exact absurd rfl h
theorem a6Y{ds:List PyData}(h:∀e∈ds,tP e):lR (.tuple ds):=fun z e=>by cases e;exact h
section
variable{P:Program}{w:World}{K:Fg}{mg:Str->Option Value}{base:Heap}
def rT(K:Fg):Sp:=fun vs H Q _=>∃x d,vs= [x] /\Dt K H x d/\Q (.bl (nV d)) H
theorem a5q:aV ["thing"] ["thing"] (aN zU):=⟨rfl,rfl,rfl,by decide+kernel,rfl,by decide+kernel,by decide+kernel⟩
theorem uV(T:aW K mg):bI P w K mg base aC 1 "is_whole" ["thing"] (rT K):=by
 refine T.d_is_whole.known a5q (fun _ _ _ _ _ _ us hl=>eD (fun _=>rfl) us hl) (fun vs H Q E h=> ?_) (fun f cdv A outer s H vs Q E hr h=> ?_)
 ·obtain⟨x,a,rfl,_⟩:=h
  rfl
 ·obtain⟨x,d,rfl,hd,q⟩:=h
  refine⟨_,(aI (bA (pF (cT jJ rfl T.isinstance iM (aA (pv 0) (aA (iB T.int a6N) aE))) (pR (a4m (cT jJ rfl T.isinstance iM (aA (pv 0) (aA (iB T.bool a6h) aE)))))))),?_⟩
  refine⟨_,rfl,x,"int",d,_,rfl,hd,a65 K _,_,rfl,?_⟩
  refine dL (fun h1=> ?_) (fun h1=> ?_)
  ·refine⟨_,rfl,x,"bool",d,_,rfl,hd,a52 K _,_,rfl,?_⟩
   have e:(!decide (iN d=Kd.bl))=nV d:=by cases d<;>simp[iN,nV]at h1|-
   show Q (.bl (!decide (iN d=Kd.bl))) H
   rw[e]
   exact q
  ·have e:false=nV d:=by cases d<;>simp[iN,nV]at h1|-
   show Q (.bl false) H
   rw[e]
   exact q
def lM(K:Fg):Sp:=fun vs H Q _=>∃x d,vs= [x] /\Dt K H x d/\tP d/\∀H',aD H H'->Q (.bl (fE d)) H'
theorem a5X:aV ["thing"] ["thing"] (aN a1Y):=⟨rfl,rfl,rfl,by decide+kernel,rfl,by decide+kernel,by decide+kernel⟩
theorem mC(T:aW K mg):bI P w K mg base aC 1 "is_name" ["thing"] (lM K):=by
 refine T.d_is_name.known a5X (fun _ _ _ _ _ _ us hl=>eD (fun _=>rfl) us hl) (fun vs H Q E h=> ?_) (fun f cdv A outer s H vs Q E hr h=> ?_)
 ·obtain⟨x,a,rfl,_⟩:=h
  rfl
 ·obtain⟨x,d,rfl,hd,hsh,q⟩:=h
  refine⟨_,(aH (bM (PW.pt (gB (dI (cM (cT jJ rfl T.isinstance iM (aA (pv 0) (aA (iB T.str vJ) aE))) (fun _=>rfl))) (gY (dI (vV mG mG bJ (cT iL rfl T.len gI (aA (pv 0) aE)) (oC T.g_MOST_LETTERS)))))) (aI (bA lJ)) bP)
   (aI (bA (cT (a3O rfl) rfl T.all a1s (aA (kY vB rfl rfl (by decide) (a9k (pv 0)) (fun _ _ _ _ _=>jT) (fun _ _ _ _ _=>(nE a37 (pv 0) (a7k T.g_LETTERS) (by with_unfolding_all rfl)))) aE))))),?_⟩
  refine⟨_,rfl,x,"str",d,_,rfl,hd,vF K _,_,rfl,?_⟩
  by_cases hk:iN d= .str
  ·obtain⟨t,rfl⟩:∃t,d= .str t:=by cases d<;>simp[iN]at hk|-
   cases hd
   have ht:t.length<=1000:=hsh t rfl
   refine bK ?_
   refine⟨_,rfl,_,_,rfl,⟨sl ht,rfl⟩,_,_,rfl,rfl,_,rfl,?_⟩
   refine dL (fun h1=> ?_) (fun h1=> ?_)
   ·refine⟨_,_,rfl,rfl,_,rfl,?_⟩
    refine dL (fun h2=> ?_) (fun h2=> ?_)
    ·have e:fE (.str t)=false:=by
      show lG t=false
      unfold lG
      have:decide ((t.length:Int)<=8)=false:=by simpa using h2
      rw[this,Bool.and_false,Bool.false_and]
     rw[<- e]
     exact q H (aD.refl H)
    ·have h8:t.cps.size<=8:=by
      have:(t.length:Int)<=8:=by simpa using h2
      show t.length<=8
      omega
     refine⟨_,rfl,t,rfl,fun D hD=> ?_⟩
     refine a9b (x:=t) (fun i ys H2=>ys=(t.cps.toList.take i).map (fun c=>V.bl (oY c))/\aD H H2) ⟨rfl,aD.new hD⟩ ?_ ?_
     ·rintro i c ys H2 hc h2D ⟨rfl,s2⟩
      have hi:i<t.cps.size:=(Array.getElem?_eq_some_iff.mp hc).1
      refine⟨_,rfl,_,_,rfl,rfl,h2D,?_,?_,s2.on hD⟩
      ·rw[List.length_map,List.length_take,Array.length_toList]
       exact cQ (by omega)
      ·rw[List.take_add_one,List.map_append,Array.getElem?_toList,hc]
       rfl
     ·rintro ys H2 h2D ⟨rfl,s2⟩
      refine⟨D,t.cps.toList.map oY,rfl,aO.of ?_,?_⟩
      ·rw[h2D,List.take_of_length_le (by simp),List.map_map]
       rfl
      ·have e:fE (.str t)=(t.cps.toList.map oY).all id:=by
        show lG t=_
        unfold lG
        have e1:decide ((1:Int)<=t.length)=true:=h1
        have e2:decide ((t.length:Int)<=8)=true:=by simpa using h2
        rw[e1,e2,Bool.true_and,Bool.true_and,List.all_map]
        rfl
       rw[<- e]
       exact q H2 s2
   ·refine⟨_,rfl,?_⟩
    refine cD ?_
    have e:fE (.str t)=false:=by
     show lG t=false
     unfold lG
     have:decide ((1:Int)<=t.length)=false:=by simpa using h1
     rw[this,Bool.false_and,Bool.false_and]
    rw[<- e]
    exact q H (aD.refl H)
  ·rw[decide_eq_false hk]
   refine cD (cD ?_)
   have e:fE d=false:=by cases d<;>simp[iN]at hk<;>rfl
   rw[<- e]
   exact q H (aD.refl H)
def a2p(K:Fg):Sp:=fun vs H Q _=>∃x d,vs= [x] /\Dt K H x d/\Q (.bl (fR d)) H
theorem a64:aV ["thing"] ["thing"] (aN a0L):=⟨rfl,rfl,rfl,by decide+kernel,rfl,by decide+kernel,by decide+kernel⟩
theorem a6G(T:aW K mg):bI P w K mg base aC 2 "is_number" ["thing"] (a2p K):=by
 have G_is_whole:bI P w K mg base aC 1 "is_whole" ["thing"] (rT K):=uV T
 refine T.d_is_number.known a64 (fun _ _ _ _ _ _ us hl=>eD (fun _=>rfl) us hl) (fun vs H Q E h=> ?_) (fun f cdv A outer s H vs Q E hr h=> ?_)
 ·obtain⟨x,a,rfl,_⟩:=h
  rfl
 ·obtain⟨x,d,rfl,hd,q⟩:=h
  refine⟨_,(aI (bA (pF (bQ G_is_whole (hr.mono (by decide)) aM (aA (pv 0) aE)) (pR (nE vP (cT a3Z rfl T.abs a7p (aA (pv 0) aE)) (bY zJ bJ bJ) (cH _)))))),?_⟩
  refine⟨_,rfl,x,d,rfl,hd,_,rfl,?_⟩
  refine dL (fun h1=> ?_) (fun h1=> ?_)
  ·obtain⟨i,rfl⟩:∃i,d= .int i:=by cases d<;>simp[nV]at h1|-
   cases hd
   exact⟨_,rfl,i,rfl,_,_,rfl,rfl,⟨by decide,by decide,by decide⟩,_,_,rfl,rfl,q⟩
  ·have e:fR d=false:=by cases d<;>simp[nV]at h1<;>rfl
   show Q (.bl false) H
   rw[<- e]
   exact q
def rM(K:Fg):Sp:=fun vs H Q _=>∃x d,vs= [x] /\Dt K H x d/\lR d/\∀H',aD H H'->Q (.bl (hV d)) H'
theorem a7o:aV ["thing"] ["thing"] (aN a2i):=⟨rfl,rfl,rfl,by decide+kernel,rfl,by decide+kernel,by decide+kernel⟩
theorem a6v{ds:List PyData}(h:ds.length≠2):hV (.tuple ds)=false:=by
 match ds,h with
 | [],_=>rfl
 | [a],_=>cases a<;>rfl
 | [a,b],h=>exact absurd rfl h
 |a::b::c::r,_=>cases a<;>rfl
theorem sP(T:aW K mg):bI P w K mg base aC 2 "is_fault" ["thing"] (rM K):=by
 have G_is_name:bI P w K mg base aC 1 "is_name" ["thing"] (lM K):=mC T
 refine T.d_is_fault.known a7o (fun _ _ _ _ _ _ us hl=>eD (fun _=>rfl) us hl) (fun vs H Q E h=> ?_) (fun f cdv A outer s H vs Q E hr h=> ?_)
 ·obtain⟨x,a,rfl,_⟩:=h
  rfl
 ·obtain⟨x,d,rfl,hd,hsh,q⟩:=h
  refine⟨_,(aH (bM (PW.pt (gB (dI (cM (cT jJ rfl T.isinstance iM (aA (pv 0) (aA (iB T.tuple tY) aE))) (fun _=>rfl))) (gY (cE uZ (cT iL rfl T.len gI (aA (pv 0) aE)) bJ (cH _))))) (aI (bA lJ)) bP)
   (aI (bA (pF (cT jJ rfl T.isinstance iM (aA (cJ fB (pv 0) bJ (fun _ _=>rfl)) (aA (iB T.str vJ) aE))) (pF (nE oN (cJ fB (pv 0) bJ (fun _ _=>rfl)) cF (cH _)) (pR (bQ G_is_name (hr.mono (by decide)) aM (aA (cJ fB (pv 0) bJ (fun _ _=>rfl)) aE)))))))),?_⟩
  refine⟨_,rfl,x,"tuple",d,_,rfl,hd,tH K _,_,rfl,?_⟩
  by_cases hk:iN d= .tup
  ·obtain⟨ds,rfl⟩:∃ds,d= .tuple ds:=by cases d<;>simp[iN]at hk|-
   cases hd with
   | @tup a xs _ hq hall=>
    refine bK ?_
    refine⟨_,rfl,_,_,rfl,.inr ⟨_,hq,rfl⟩,rfl,_,rfl,?_⟩
    have hl:=hall.length
    refine dL (fun h1=> ?_) (fun h1=> ?_)
    ·have h1':xs.length≠2:=by
      intro z
      rw[z]at h1
      exact absurd h1 (by decide)
     have e:=a6v (ds:=ds) (by rw[<- hl];exact h1')
     rw[<- e]
     exact q H (aD.refl H)
    ·have h1':xs.length=2:=by
      have z:¬(!decide (V.int (xs.length:Int)=V.int 2))=true:=h1
      have z2:(xs.length:Int)=2:=by simpa using z
      omega
     match xs,ds,hall,h1',hl with
     | [y,z],_,.cons (d:=d1) h2 (.cons (d:=d2) h3 .nil),_,_=>
      have a0:cO [y,z] 0=some y:=rfl
      have a1:cO [y,z] 1=some z:=rfl
      refine⟨_,rfl,_,_,_,_,rfl,rfl,hq,a0,y,"str",d1,_,rfl,h2,vF K _,_,rfl,?_⟩
      refine dL (fun h4=> ?_) (fun h4=> ?_)
      ·obtain⟨t,rfl⟩:∃t,d1= .str t:=by cases d1<;>simp[iN]at h4|-
       cases h2
       refine⟨_,rfl,_,_,_,_,rfl,rfl,hq,a0,rfl,_,rfl,?_⟩
       refine dL (fun h5=> ?_) (fun h5=> ?_)
       ·have h5':t= "fault":=by
         have z5:V.str t=V.str "fault":=by simpa using h5
         exact V.str.inj z5
        refine⟨_,rfl,_,_,_,_,rfl,rfl,hq,a1,z,d2,rfl,h3,hsh _ rfl _ (List.mem_cons_of_mem _ List.mem_cons_self),fun H' s'=> ?_⟩
        ·have e:hV (.tuple [.str t,d2])=fE d2:=by
          show(decide (t= "fault")&&fE d2)=fE d2
          rw[decide_eq_true h5',Bool.true_and]
         rw[<- e]
         exact q H' s'
       ·have h5':t≠ "fault":=fun z5=>h5 (by rw[z5];rfl)
        have e:hV (.tuple [.str t,d2])=false:=by
         show(decide (t= "fault")&&fE d2)=false
         rw[decide_eq_false h5',Bool.false_and]
        show Q (.bl false) H
        rw[<- e]
        exact q H (aD.refl H)
      ·have e:hV (.tuple [d1,d2])=false:=by cases d1<;>simp[iN]at h4<;>rfl
       show Q (.bl false) H
       rw[<- e]
       exact q H (aD.refl H)
  ·rw[decide_eq_false hk]
   refine cD (cD ?_)
   have e:hV d=false:=by cases d<;>simp[iN]at hk<;>rfl
   rw[<- e]
   exact q H (aD.refl H)
def wV(K:Fg):Sp:=fun vs H Q _=>∃x d,vs= [x] /\Dt K H x d/\lR d/\∀H',aD H H'->Q (.bl (jS d)) H'
theorem a6y:aV ["thing"] ["thing"] (aN a3A):=⟨rfl,rfl,rfl,by decide+kernel,rfl,by decide+kernel,by decide+kernel⟩
theorem a1E(T:aW K mg):bI P w K mg base aC 3 "is_value" ["thing"] (wV K):=by
 have G_is_number:bI P w K mg base aC 2 "is_number" ["thing"] (a2p K):=a6G T
 have G_is_fault:bI P w K mg base aC 2 "is_fault" ["thing"] (rM K):=sP T
 refine T.d_is_value.known a6y (fun _ _ _ _ _ _ us hl=>eD (fun _=>rfl) us hl) (fun vs H Q E h=> ?_) (fun f cdv A outer s H vs Q E hr h=> ?_)
 ·obtain⟨x,a,rfl,_⟩:=h
  rfl
 ·obtain⟨x,d,rfl,hd,hsh,q⟩:=h
  refine⟨_,(aI (bA (a5m (bQ G_is_number (hr.mono (by decide)) aM (aA (pv 0) aE)) (pR (bQ G_is_fault (hr.mono (by decide)) aM (aA (pv 0) aE)))))),?_⟩
  refine⟨_,rfl,x,d,rfl,hd,_,rfl,?_⟩
  refine dL (fun h1=> ?_) (fun h1=> ?_)
  ·have e:jS d=true:=by unfold jS;rw[h1,Bool.true_or]
   show Q (.bl true) H
   rw[<- e]
   exact q H (aD.refl H)
  ·refine⟨_,rfl,x,d,rfl,hd,hsh,fun H' s'=> ?_⟩
   have e:jS d=hV d:=by
    unfold jS
    have:fR d=false:=by simpa using h1
    rw[this,Bool.false_or]
   rw[<- e]
   exact q H' s'
end
def Nl(t:Str):Prop:=1<=t.length/\t.length<=8/\∀c∈t.cps.toList,c∈rF.cps.toList
theorem Nl.name{t:Str}(h:Nl t):lG t=true:=by
 unfold lG
 have a1:decide ((1:Int)<=t.length)=true:=by rw[decide_eq_true_eq];have:=h.1;omega
 have a2:decide ((t.length:Int)<=8)=true:=by rw[decide_eq_true_eq];have:=h.2.1;omega
 have a3:t.cps.toList.all oY=true:=by
  rw[List.all_eq_true]
  intro c hc
  have:∀c∈rF.cps.toList,oY c=true:=by decide+kernel
  exact this c (h.2.2 c hc)
 rw[a1,a2,a3]
 rfl
theorem Nl.lay{z:Str}(h:Nl z):PyData.canLay0 (.str z)=true:=by
 obtain⟨⟨l⟩⟩:=z
 have:∀c∈rF.cps.toList,c<128:=by decide+kernel
 exact a3X fun c hc=>this c (h.2.2 c hc)
theorem wA{p:Str×Str}(h1:Nl p.1)(h2:Nl p.2):(iD p).canLay0=true:=by
 show PyData.canLayAll0 [.str p.1,.str p.2]=true
 show(PyData.canLay0 (.str p.1)&&(PyData.canLay0 (.str p.2)&&true))=true
 rw[h1.lay,h2.lay]
 rfl
theorem a0K:∀{ps:List (Str×Str)},(∀p∈ps,Nl p.1/\Nl p.2)->(PyData.list (ps.map iD)).canLay0=true
 | [],_=>rfl
 |p::ps,h=>by
  show((iD p).canLay0&&PyData.canLayAll0 (ps.map iD))=true
  have e:PyData.canLayAll0 (ps.map iD)=true:=a0K fun q hq=>h q (List.mem_cons_of_mem _ hq)
  rw[e,wA (h p List.mem_cons_self).1 (h p List.mem_cons_self).2]
  rfl
section
variable{P:Program}{w:World}{K:Fg}{mg:Str->Option Value}{base:Heap}
def a0Z:Sp:=fun vs H Q _=>∃z:Str,vs= [.str z] /\Nl z/\∀H',aD H H'->Q .non H'
theorem a63:aV ["name"] ["name"] (aN a3g):=⟨rfl,rfl,rfl,by decide+kernel,rfl,by decide+kernel,by decide+kernel⟩
theorem a3Y(T:aW K mg):bI P w K mg base aC 2 "check_name" ["name"] a0Z:=by
 have G_is_name:bI P w K mg base aC 1 "is_name" ["thing"] (lM K):=mC T
 refine T.d_check_name.known a63 (fun _ _ _ _ _ _ us hl=>eD (fun _=>rfl) us hl) (fun vs H Q E h=> ?_) (fun f cdv A outer s H vs Q E hr h=> ?_)
 ·obtain⟨z,rfl,_⟩:=h
  rfl
 ·obtain⟨z,rfl,hz,q⟩:=h
  refine⟨_,(aI (bM (dI (cM (bQ G_is_name (hr.mono (by decide)) aM (aA (pv 0) aE)) (fun _=>rfl))) (aI cB) bP)),?_⟩
  have h8:=hz.2.1
  refine⟨_,rfl,_,_,rfl,.str z,lH (by omega),fun H' s'=>⟨_,rfl,?_⟩⟩
  rw[show fE (.str z)=true from hz.name]
  exact bK (q H' s')
def a0S(K:Fg):Sp:=fun vs H Q _=>∃(a:Addr) (zs:List Str),vs= [.ref a] /\aO K H a (zs.map V.str)/\zs.length<=6/\(∀z∈zs,Nl z)/\∀H' l,aD H H'->H l=none->H' l=some (.lst (zs.map V.str))->Q (.ref l) H'
theorem sF{K:Fg}{H:Hp}:∀zs:List Str,dD K H (zs.map V.str) (zs.map PyData.str)
 | []=> .nil
 |z::zs=> .cons (.str z) (sF zs)
theorem a0z:aV ["names","name"] ["names"] (aN a3h):=⟨rfl,rfl,rfl,by decide+kernel,rfl,by decide+kernel,by decide+kernel⟩
theorem a6n(T:aW K mg):bI P w K mg base aC 3 "checked_names" ["names"] (a0S K):=by
 have G_check_name:bI P w K mg base aC 2 "check_name" ["name"] a0Z:=a3Y T
 refine T.d_checked_names.known a0z (fun _ _ _ _ _ _ us hl=>eD (fun _=>rfl) us hl) (fun vs H Q E h=> ?_) (fun f cdv A outer s H vs Q E hr h=> ?_)
 ·obtain⟨a,zs,rfl,_⟩:=h
  rfl
 ·obtain⟨a,zs,rfl,hq,h6,hz,q⟩:=h
  refine⟨_,(aH (bM (PW.pt (gB (dI (cM (cT jJ rfl T.isinstance iM (aA (pv 0) (aA (iB T.list iA) aE))) (fun _=>rfl))) (gY (cE a0R (cT iL rfl T.len gI (aA (pv 0) aE)) (oC T.g_MOST_NAMES) (cH _))))) (aI cB) bP)
   (aH (jO PassesOwn.never rfl (fX (pv 0)) (fH (i:=1) a0z.nd rfl (Or.inl rfl)) (aI (cC (bQ G_check_name (hr.mono (by decide)) aM (aA (pv 1) aE)))))
   (aI (bA (jR nB rfl T.list iA (aA (pv 0) aE)))))),?_⟩
  refine⟨_,rfl,_,"list",_,_,rfl,Dt.lst hq (sF zs),vA K _,_,rfl,bK ?_⟩
  refine⟨_,rfl,_,_,rfl,.inl ⟨_,hq,rfl⟩,_,_,rfl,rfl,_,rfl,?_⟩
  rw[List.length_map,decide_eq_false (by omega)]
  refine bK ?_
  refine⟨_,rfl,a,rfl,⟨_,hq⟩,?_⟩
  refine mH (K:=K) (a:=a) (xs:=zs.map V.str) (fun i σ H2=>∃o,σ= [some (.ref a),o] /\aD H H2) ⟨_,rfl,aD.refl H⟩ (fun i σ H2 _ ⟨_,_,s2⟩=>s2.seq hq) ?_ ?_
  ·rintro i x σ H2 hx ⟨o,rfl,s2⟩
   rw[List.getElem?_map]at hx
   cases e:zs[i]? with
   |none=>rw[e]at hx;cases hx
   |some z=>
    rw[e]at hx
    cases hx
    exact⟨_,rfl,z,rfl,hz z (List.mem_of_getElem? e),fun H3 s3=>⟨_,rfl,s2.trans s3⟩⟩
  ·rintro σ H2 ⟨o,rfl,s2⟩
   refine⟨_,rfl,a,_,rfl,.inl (s2.seq hq),fun l hl=> ?_⟩
   have hl':H l=none:=by
    cases e:H l with
    |none=>rfl
    |some u=>rw[s2 _ _ e]at hl;cases hl
   exact q _ l (s2.trans (aD.new hl)) hl' aJ
theorem yZ:aV ["spots","found","spot"] ["spots"] (aN a3i):=⟨rfl,rfl,rfl,by decide+kernel,rfl,by decide+kernel,by decide+kernel⟩
end
def pJ(r:Addr)(n:Int)(d:Addr):List (Str×V):=[("row_numbers",V.ref r),("fresh_number",V.int n),("kept",V.ref d)]
theorem a2l(r:Addr)(n:Int)(d:Addr):(pJ r n d).lookup ("row_numbers":Str)=some (.ref r):=rfl
theorem flds_fresh(r:Addr)(n:Int)(d:Addr):(pJ r n d).lookup ("fresh_number":Str)=some (.int n):=by
 show(match (("fresh_number":Str)==("row_numbers":Str))with|true=>some (V.ref r)|false=>_)=_
 rw[show (("fresh_number":Str)==("row_numbers":Str))=false by decide+kernel]
 rfl
theorem qL(r:Addr)(n:Int)(d:Addr):(pJ r n d).lookup ("kept":Str)=some (.ref d):=by
 show(match (("kept":Str)==("row_numbers":Str))with|true=>some (V.ref r)|false=>(match (("kept":Str)==("fresh_number":Str))with|true=>some (V.int n)|false=>_))=_
 rw[show (("kept":Str)==("row_numbers":Str))=false by decide+kernel,show(("kept":Str)==("fresh_number":Str))=false by decide+kernel]
 rfl
theorem jN{r:Addr}{n:Int}{d:Addr}{m:Str}(h:(m==("row_numbers":Str)||m==("fresh_number":Str)||m==("kept":Str))=false:=by decide+kernel):(pJ r n d).lookup m=none:=by
 simp only[Bool.or_eq_false_iff]at h
 obtain⟨⟨h1,h2⟩,h3⟩:=h
 show(match (m==("row_numbers":Str))with|true=>some (V.ref r)|false=>(match (m==("fresh_number":Str))with|true=>some (V.int n)|false=>(match (m==("kept":Str))with|true=>some (V.ref d)|false=>none)))=none
 rw[h1,h2,h3]
theorem a4Q(r:Addr)(n:Int)(d:Addr):aK "kept" (.ref d) (aK "fresh_number" (.int n) (aK "row_numbers" (.ref r) []))=pJ r n d:=by
 show aK "kept" (.ref d) (if("row_numbers":Str)= "fresh_number" then _ else _)=_
 rw[if_neg (by decide+kernel)]
 show(if("row_numbers":Str)= "kept" then _ else _::(if("fresh_number":Str)= "kept" then _ else _))=_
 rw[if_neg (by decide+kernel),if_neg (by decide+kernel)]
 rfl
structure jU(C:Addr)(H:Hp)(p r d:Addr)(xs:List V)(n:Int)(kvs:List (aB×V)):Prop where
 at_:∃dx,H p=some (.ins C dx (pJ r n d))
 rows:H r=some (.lst xs)
 kept:H d=some (.dK kvs)
theorem jU.same{C:Addr}{H H':Hp}{p r d:Addr}{xs:List V}{n:Int}{kvs:List (aB×V)}(T:jU C H p r d xs n kvs)(s:aD H H'):jU C H' p r d xs n kvs:=by
 obtain⟨dx,h⟩:=T.at_
 exact⟨⟨dx,s _ _ h⟩,s _ _ T.rows,s _ _ T.kept⟩
def Pv(K:Fg)(H:Hp)(v:V)(d:PyData):Prop:=(∃i,v= .int i/\d= .int i/\fR (.int i)=true)\/ ∃a y,v= .ref a/\H a=some (.tup [.str ("fault":Str),.str y])/\d= .tuple [.str "fault",.str y] /\Nl y
def Vd(d:PyData):Prop:=(∃i,d= .int i/\fR (.int i)=true)\/ ∃y,d= .tuple [.str "fault",.str y] /\Nl y
theorem Pv.dt{K:Fg}{H:Hp}{v:V}{d:PyData}(h:Pv K H v d):Dt K H v d:=by
 rcases h with⟨i,rfl,rfl,_⟩|⟨a,y,rfl,h,rfl,_⟩
 ·exact .int i
 ·exact .tup (bW.of h) (.cons (.str _) (.cons (.str _) .nil))
theorem Pv.vd{K:Fg}{H:Hp}{v:V}{d:PyData}(h:Pv K H v d):Vd d:=by
 rcases h with⟨i,rfl,rfl,hb⟩|⟨a,y,rfl,h,rfl,hy⟩
 ·exact .inl ⟨i,rfl,hb⟩
 ·exact .inr ⟨y,rfl,hy⟩
def bF(H H':Hp):Prop:=∀a xs,H a=some (.tup xs)->H' a=some (.tup xs)
theorem bF.of{H H':Hp}(s:aD H H'):bF H H':=fun a xs e=>s _ _ e
theorem bF.trans{H H1 H2:Hp}(a:bF H H1)(b:bF H1 H2):bF H H2:=fun c xs e=>b c xs (a c xs e)
theorem bF.upd{H:Hp}{l:Addr}{o o':HO}(h:H l=some o)(n:∀xs,o≠ .tup xs):bF H (L2.upd H l o'):=fun a xs e=>by
 rw[aG (fun z=>by rw[z,h]at e;exact n _ (Option.some.inj e))]
 exact e
theorem Pv.keep{K:Fg}{H H':Hp}{v:V}{d:PyData}(s:bF H H')(h:Pv K H v d):Pv K H' v d:=by
 rcases h with h|⟨a,y,rfl,h,rfl,hy⟩
 ·exact .inl h
 ·exact .inr ⟨a,y,rfl,s _ _ h,rfl,hy⟩
theorem Pv.same{K:Fg}{H H':Hp}{v:V}{d:PyData}(h:Pv K H v d)(s:aD H H'):Pv K H' v d:=h.keep (bF.of s)
theorem Vd.short{d:PyData}(h:Vd d):lR d/\jS d=true:=by
 rcases h with⟨i,rfl,hb⟩|⟨y,rfl,hy⟩
 ·refine⟨a3c (by intro z;cases z),?_⟩
  show(fR (.int i)||hV (.int i))=true
  rw[hb];rfl
 ·have l8:=hy.2.1
  refine⟨a6Y (by
   intro e he
   simp only[List.mem_cons,List.not_mem_nil,or_false]at he
   rcases he with rfl|rfl
   ·exact lH (by decide)
   ·exact lH (by omega)),?_⟩
  show(fR _||hV (.tuple [.str "fault",.str y]))=true
  rw[show hV (.tuple [.str "fault",.str y])=true by
   show(decide (("fault":Str)= "fault")&&fE (.str y))=true
   rw[decide_eq_true rfl,Bool.true_and]
   exact Nl.name hy,Bool.or_true]
theorem Vd.lay{d:PyData}(h:Vd d):d.canLay0=true/\d.depth<=62:=by
 rcases h with⟨i,rfl,hb⟩|⟨z,rfl,hz⟩
 ·exact⟨rfl,(show 0<=62 by decide)⟩
 ·refine⟨?_,(show 1<=62 by decide)⟩
  have lz:=Nl.lay hz
  have l1:PyData.canLay0 (.str ("fault":Str))=true:=by decide+kernel
  simp only[PyData.canLay0,PyData.canLayAll0,Bool.and_true,Bool.and_eq_true]at l1 lz|-
  exact⟨l1,lz⟩
def bN(K:Fg)(H:Hp):List V->List PyData->Prop:=Paired (Pv K H)
theorem bN.keep{K:Fg}{H H':Hp}(s:bF H H'):∀{xs:List V} {ds:List PyData},bN K H xs ds->bN K H' xs ds
 |_,_,.nil=> .nil
 |_,_,.cons h t=> .cons (h.keep s) (bN.keep s t)
theorem bN.dt{K:Fg}{H:Hp}:∀{xs:List V} {ds:List PyData},bN K H xs ds->dD K H xs ds
 |_,_,.nil=> .nil
 |_,_,.cons h t=> .cons h.dt (bN.dt t)
theorem bN.vd{K:Fg}{H:Hp}:∀{xs:List V} {ds:List PyData},bN K H xs ds->∀d∈ds,Vd d
 |_,_,.nil,_,h=>by cases h
 |_,_,.cons h t,d,hd=>by
  rcases List.mem_cons.mp hd with rfl|hd
  ·exact h.vd
  ·exact bN.vd t d hd
section
variable{P:Program}{w:World}{K:Fg}{mg:Str->Option Value}{base:Heap}
def vQ:Sp:=fun vs H Q _=>∃m:Nat,vs= [.int (m:Int)] /\m<=30/\Q .non H
theorem a71:aV ["many"] ["many"] (aN a28):=⟨rfl,rfl,rfl,by decide+kernel,rfl,by decide+kernel,by decide+kernel⟩
theorem a3L(T:aW K mg):bI P w K mg base aC 2 "check_size" ["many"] vQ:=by
 have G_is_whole:bI P w K mg base aC 1 "is_whole" ["thing"] (rT K):=uV T
 refine T.d_check_size.known a71 (fun _ _ _ _ _ _ us hl=>eD (fun _=>rfl) us hl) (fun vs H Q E h=> ?_) (fun f cdv A outer s H vs Q E hr h=> ?_)
 ·obtain⟨m,rfl,_⟩:=h
  rfl
 ·obtain⟨m,rfl,hm,q⟩:=h
  refine⟨_,(aI (bM (PW.pt (gB (dI (cM (bQ G_is_whole (hr.mono (by decide)) aM (aA (pv 0) aE)) (fun _=>rfl))) (gY (dI (vV mG mG bJ (pv 0) (oC T.g_MOST_ROWS)))))) (aI cB) bP)),?_⟩
  refine⟨_,rfl,_,.int (m:Int),rfl,.int _,_,rfl,bK ?_⟩
  refine⟨_,rfl,_,_,rfl,rfl,_,rfl,?_⟩
  rw[decide_eq_true (show(0:Int)<=(m:Int)by omega)]
  refine cD ⟨_,_,rfl,rfl,_,rfl,?_⟩
  rw[decide_eq_true (show(m:Int)<=30 by omega)]
  exact bK q
def rK:Sp:=fun vs H Q _=>∃p m:Nat,vs= [.int (p:Int),.int (m:Int)] /\p<m/\Q .non H
theorem a5i:aV ["place","places"] ["place","places"] (aN a1c):=⟨rfl,rfl,rfl,by decide+kernel,rfl,by decide+kernel,by decide+kernel⟩
theorem uN(T:aW K mg):bI P w K mg base aC 2 "check_place" ["place","places"] rK:=by
 have G_is_whole:bI P w K mg base aC 1 "is_whole" ["thing"] (rT K):=uV T
 refine T.d_check_place.known a5i (fun _ _ _ _ _ _ us hl=>dF (fun _ _=>rfl) us hl) (fun vs H Q E h=> ?_) (fun f cdv A outer s H vs Q E hr h=> ?_)
 ·obtain⟨p,m,rfl,_⟩:=h
  rfl
 ·obtain⟨p,m,rfl,hm,q⟩:=h
  refine⟨_,(aI (bM (PW.pt (gB (dI (cM (bQ G_is_whole (hr.mono (by decide)) aM (aA (pv 0) aE)) (fun _=>rfl))) (gY (dI (vV mG vP bJ (pv 0) (pv 1)))))) (aI cB) bP)),?_⟩
  refine⟨_,rfl,_,.int (p:Int),rfl,.int _,_,rfl,bK ?_⟩
  refine⟨_,rfl,_,_,rfl,rfl,_,rfl,?_⟩
  rw[decide_eq_true (show(0:Int)<=(p:Int)by omega)]
  refine cD ⟨_,rfl,_,_,rfl,rfl,_,rfl,?_⟩
  rw[decide_eq_true (show(p:Int)<(m:Int)by omega)]
  exact bK q
def wM(K:Fg):Sp:=fun vs H Q _=>∃(a:Addr) (xs:List V) (ds:List PyData),vs= [.ref a,.int (xs.length:Int)] /\aO K H a xs/\bN K H xs ds/\xs.length<=1000/\∀H',aD H H'->Q .non H'
theorem a6e:aV ["values","many"] ["values","many"] (aN a2O):=⟨rfl,rfl,rfl,by decide+kernel,rfl,by decide+kernel,by decide+kernel⟩
theorem a1q(T:aW K mg):bI P w K mg base aC 4 "check_values" ["values","many"] (wM K):=by
 have G_is_value:bI P w K mg base aC 3 "is_value" ["thing"] (wV K):=a1E T
 refine T.d_check_values.known a6e (fun _ _ _ _ _ _ us hl=>dF (fun _ _=>rfl) us hl) (fun vs H Q E h=> ?_) (fun f cdv A outer s H vs Q E hr h=> ?_)
 ·obtain⟨a,xs,ds,rfl,_⟩:=h
  rfl
 ·obtain⟨a,xs,ds,rfl,hq,hp,l1000,q⟩:=h
  have hl:xs.length=ds.length:=Paired.length hp
  refine⟨_,(aI (bM (PW.pt (gB (dI (cM (cT jJ rfl T.isinstance iM (aA (pv 0) (aA (iB T.list iA) aE))) (fun _=>rfl))) (gB (cE uZ (cT iL rfl T.len gI (aA (pv 0) aE)) (pv 1) (cH _)) (gY (dI (cM (cT (a3O rfl) rfl T.all a1s (aA (kY vB rfl rfl (by decide) (fX (pv 0)) (fun _ _ _ _ _=>jT) (fun _ _ _ _ _=>(bQ G_is_value (hr.mono (by decide)) aM (aA (pv 0) aE)))) aE)) (fun _=>rfl))))))) (aI cB) bP)),?_⟩
  refine⟨_,rfl,_,"list",.list ds,_,rfl,.lst hq hp.dt,vA K _,_,rfl,bK ?_⟩
  refine⟨_,rfl,_,_,rfl,.inl ⟨_,hq,rfl⟩,_,rfl,rfl,_,rfl,?_⟩
  rw[decide_eq_true rfl]
  refine bK ⟨_,rfl,a,rfl,⟨_,hq⟩,fun D hD=> ?_⟩
  refine kI (K:=K) (a:=a) (xs:=xs) (fun i ys H2=>ys=(List.replicate i (V.bl true))/\aD H H2) ⟨rfl,aD.new hD⟩ (fun i ys H2 _ ⟨_,s2⟩=>s2.seq hq) ?_ ?_
  ·rintro i v ys H2 hv h2D ⟨rfl,s2⟩
   obtain⟨e,he,hde⟩:=hp.dt.get hv
   have ve:=hp.vd e (List.mem_of_getElem? he)
   have hi:i<xs.length:=(List.getElem?_eq_some_iff.mp hv).1
   refine⟨_,rfl,v,e,rfl,hde.same s2,ve.short.1,fun H3 s3=>⟨s3 _ _ h2D,?_,?_,?_⟩⟩
   ·rw[List.length_replicate]
    exact cQ (by omega)
   ·rw[ve.short.2,List.replicate_succ']
   ·exact(s2.trans s3).on hD
  ·rintro ys H2 h2D ⟨rfl,s2⟩
   refine⟨D,List.replicate xs.length true,rfl,aO.of (by rw[h2D,List.map_replicate]),_,rfl,?_⟩
   rw[show (List.replicate xs.length true).all id=true by rw[List.all_eq_true];intro b hb;exact(List.mem_replicate.mp hb).2]
   exact bK (q _ s2)
def a2z(K:Fg)(C:Addr):Sp:=fun vs H Q _=>∃(p dx:Addr) (m:Nat),vs= [.ref p,.int (m:Int)] /\H p=some (.ins C dx [])/\m<=30/\
 ∀H' r e,jU C H' p r e (dA 0 m) (m:Int) [] ->H r=none->H e=none->r≠e->(∀b o,H b=some o->b≠p->H' b=some o)->Q .non H'
theorem a6l:aV ["self","many"] ["self","many"] (aN a11):=⟨rfl,rfl,rfl,by decide+kernel,rfl,by decide+kernel,by decide+kernel⟩
theorem a5E(T:aW K mg){C:Addr}(Y:cI K mg C):dJ P w K mg base aC 3 C ["self","many"] (a2z K C):=by
 have G_check_size:bI P w K mg base aC 2 "check_size" ["many"] vQ:=a3L T
 refine(Y.m_init.known a6l (fun _ _ _ _ _ _ us hl=>dF (fun _ _=>rfl) us hl) (fun vs H Q E h=> ?_) (fun f cdv A outer s H vs Q E hr h=> ?_)).init Y.mks Y.kc
 ·obtain⟨p,dx,m,rfl,_⟩:=h
  rfl
 ·obtain⟨p,dx,m,rfl,hp,hm,q1⟩:=h
  refine⟨_,(aH (cC (bQ G_check_size (hr.mono (by decide)) aM (aA (pv 1) aE)))
   (aH (cG (pv 0) (jR (a2Q rfl) rfl T.list iA (aA (jR a0D rfl T.range zS (aA (pv 1) aE)) aE)) rfl)
   (aH (cG (pv 0) (cT iL rfl T.len gI (aA (aT (pv 0) rfl) aE)) rfl)
   (aI (cG (pv 0) qD rfl))))),?_⟩
  refine⟨_,rfl,m,rfl,hm,?_⟩
  refine⟨_,rfl,(m:Int),rfl,fun g hg=>⟨g,0,(m:Int),rfl,aJ,by omega,by omega,by omega,by omega,by omega,fun r hr0=> ?_⟩⟩
  have ngp:p≠g:=aX hp hg
  have hgr:r≠g:=fun z=>by rw[z,aJ]at hr0;cases hr0
  have hr':H r=none:=by rw[aG hgr]at hr0;exact hr0
  have npr:p≠r:=aX hp hr'
  rw[Int.sub_zero,Int.toNat_natCast]
  refine⟨_,rfl,p,C,dx,[],rfl,(by rw[aG npr,aG ngp];exact hp),Y.cl,Y.n_row_numbers,(by show 0<1000;decide),?_⟩
  refine⟨_,rfl,p,C,dx,_,_,rfl,aJ,Y.cl,Y.n_row_numbers,rfl,_,_,rfl,.inl ⟨_,aO.of (by rw[aG npr.symm,aJ]),rfl⟩,?_⟩
  refine⟨_,rfl,p,C,dx,_,rfl,aJ,Y.cl,Y.n_fresh_number,(by show 1<1000;decide),?_⟩
  intro e he
  have npe:p≠e:=fun z=>by rw[<- z,aJ]at he;cases he
  have nre:r≠e:=fun z=>by rw[<- z,aG npr.symm,aG npr.symm,aJ]at he;cases he
  have nge:g≠e:=fun z=>by rw[<- z,aG ngp.symm,aG ngp.symm,aG hgr.symm,aJ]at he;cases he
  have he':H e=none:=by rw[aG npe.symm,aG npe.symm,aG nre.symm,aG nge.symm]at he;exact he
  refine⟨_,rfl,p,C,dx,_,rfl,(by rw[aG npe];exact aJ),Y.cl,Y.n_kept,(by show(aK "fresh_number" _ (aK "row_numbers" _ [])).length<1000;show(if("row_numbers":Str)= "fresh_number" then _ else _:List (Str×V)).length<1000;rw[if_neg (by decide+kernel)];show 2<1000;decide),?_⟩
  refine q1 _ r e ⟨⟨dx,?_⟩,?_,?_⟩ hr' he' nre fun b o hb hbp=> ?_
  ·rw[aJ]
   refine congrArg (fun l=>some (HO.ins C dx l)) ?_
   have:=a4Q r (dA 0 m).length e
   rw[iG]at this|-
   exact this
  ·rw[aG npr.symm,aG nre,aG npr.symm,aG npr.symm,aJ]
  ·rw[aG npe.symm,aJ]
  ·rw[aG hbp,aG (aX hb he'),aG hbp,aG hbp,aG (aX hb hr'),aG (aX hb hg)]
   exact hb
def lL(C:Addr):Sp:=fun vs H Q _=>∃p r d xs n kvs,vs= [.ref p] /\jU C H p r d xs n kvs/\Q (.int xs.length) H
theorem a7g:aV ["self"] ["self"] (aN a08):=⟨rfl,rfl,rfl,by decide+kernel,rfl,by decide+kernel,by decide+kernel⟩
theorem mW(T:aW K mg){C:Addr}(Y:cI K mg C):aL P w K mg base aC 1 C "many" ["self"] (lL C):=by
 refine Y.m_many.known a7g (fun _ _ _ _ _ _ us hl=>eD (fun _=>rfl) us hl) (fun vs H Q E h=> ?_) (fun f cdv A outer s H vs Q E hr h=> ?_)
 ·obtain⟨p,r,d,xs,n,kvs,rfl,_⟩:=h
  rfl
 ·obtain⟨p,r,d,xs,n,kvs,rfl,⟨⟨dx,hp⟩,hr',hd⟩,q⟩:=h
  refine⟨_,(aI (bA (cT iL rfl T.len gI (aA (aT (pv 0) rfl) aE)))),?_⟩
  exact⟨_,rfl,p,C,dx,_,_,rfl,hp,Y.cl,Y.n_row_numbers,a2l _ _ _,_,_,rfl,.inl ⟨_,aO.of hr',rfl⟩,q⟩
def a0U(C:Addr):Sp:=fun vs H Q _=>∃p r d xs n kvs t v,vs= [.ref p,.str t] /\jU C H p r d xs n kvs/\Nl t/\aQ kvs (.inr t:aB)=some v/\∀H',aD H H'->Q .non H'
theorem a8s:aV ["self","column"] ["self","column"] (aN zN):=⟨rfl,rfl,rfl,by decide+kernel,rfl,by decide+kernel,by decide+kernel⟩
theorem a9q(T:aW K mg){C:Addr}(Y:cI K mg C):aL P w K mg base aC 2 C "check_column" ["self","column"] (a0U C):=by
 have G_is_name:bI P w K mg base aC 1 "is_name" ["thing"] (lM K):=mC T
 refine Y.m_check_column.known a8s (fun _ _ _ _ _ _ us hl=>dF (fun _ _=>rfl) us hl) (fun vs H Q E h=> ?_) (fun f cdv A outer s H vs Q E hr h=> ?_)
 ·obtain⟨p,r,d,xs,n,kvs,t,v,rfl,_⟩:=h
  rfl
 ·obtain⟨p,r,d,xs,n,kvs,t,v,rfl,TA,ht,hv,q⟩:=h
  refine⟨_,(aI (bM (PW.pt (gB (dI (cM (bQ G_is_name (hr.mono (by decide)) aM (aA (pv 1) aE)) (fun _=>rfl))) (gY (jM (lN (eB hr) (pv 1) (aT (pv 0) rfl)))))) (aI cB) bP)),?_⟩
  have h8:=ht.2.1
  refine⟨_,rfl,_,.str t,rfl,.str t,lH (by omega),fun H' s'=>⟨_,rfl,?_⟩⟩
  rw[show fE (.str t)=true from ht.name]
  obtain⟨⟨dx,h1⟩,_,h3⟩:=TA.same s'
  refine bK ⟨_,rfl,_,rfl,p,C,dx,_,_,rfl,h1,Y.cl,Y.n_kept,qL _ _ _,d,_,rfl,cA.k (k:=Sum.inr t) h3,_,rfl,?_⟩
  rw[hv]
  exact bK (q _ s')
def spAt(C:Addr):Sp:=fun vs H Q _=>∃p r d xs n kvs t l ys,∃(i:Nat) (v:V),vs= [.ref p,.str t,.int (i:Int)] /\jU C H p r d xs n kvs/\Nl t/\aQ kvs (.inr t:aB)=some (.ref l)/\H l=some (.lst ys)/\i<xs.length/\cO ys (i:Int)=some v/\∀H',aD H H'->Q v H'
theorem a7v:aV ["self","column","place"] ["self","column","place"] (aN a0l):=⟨rfl,rfl,rfl,by decide+kernel,rfl,by decide+kernel,by decide+kernel⟩
theorem a8D(T:aW K mg){C:Addr}(Y:cI K mg C):aL P w K mg base aC 3 C "at" ["self","column","place"] (spAt C):=by
 have G_check_column:aL P w K mg base aC 2 C "check_column" ["self","column"] (a0U C):=a9q T Y
 have G_check_place:bI P w K mg base aC 2 "check_place" ["place","places"] rK:=uN T
 have G_many:aL P w K mg base aC 1 C "many" ["self"] (lL C):=mW T Y
 refine Y.m_at.known a7v (fun _ _ _ _ _ _ us hl=>eM (fun _ _ _=>rfl) us hl) (fun vs H Q E h=> ?_) (fun f cdv A outer s H vs Q E hr h=> ?_)
 ·obtain⟨p,r,d,xs,n,kvs,t,l,ys,i,v,rfl,_⟩:=h
  rfl
 ·obtain⟨p,r,d,xs,n,kvs,t,l,ys,i,v,rfl,TA,ht,hv,hl,hi,ha,q⟩:=h
  refine⟨_,(aH (cC (bH (pv 0) Y.cl G_check_column (hr.mono (by decide)) aM (aA (pv 1) aE)))
   (aH (cC (bQ G_check_place (hr.mono (by decide)) aM (aA (pv 2) (aA (eO (pv 0) Y.cl G_many (hr.mono (by decide)) aM) aE))))
   (aI (bA (cJ gZ (fY (eB hr) (aT (pv 0) rfl) (pv 1) (fun _ _=>rfl)) (pv 2) (fun _ _=>rfl)))))),?_⟩
  obtain⟨⟨dx,h1⟩,h2,h3⟩:=id TA
  refine⟨_,rfl,p,dx,_,rfl,h1,jN,_,rfl,p,r,d,xs,n,kvs,t,_,rfl,TA,ht,hv,fun H1 s1=> ?_⟩
  refine⟨_,rfl,_,rfl,p,dx,_,rfl,s1 _ _ h1,jN,p,r,d,xs,n,kvs,rfl,TA.same s1,i,xs.length,rfl,hi,?_⟩
  exact⟨_,rfl,p,C,dx,_,_,rfl,s1 _ _ h1,Y.cl,Y.n_kept,qL _ _ _,_,rfl,d,.ref l,rfl,hv▸cA.k (k:=Sum.inr t) (s1 _ _ h3),_,rfl,l,_,_,v,rfl,rfl,aO.of (s1 _ _ hl),ha,q _ s1⟩
def a0k(C:Addr):Sp:=fun vs H Q _=>∃p r d xs n kvs,∃(i:Nat) (v:V),vs= [.ref p,.int (i:Int)] /\jU C H p r d xs n kvs/\i<xs.length/\cO xs (i:Int)=some v/\Q v H
theorem a89:aV ["self","place"] ["self","place"] (aN a1r):=⟨rfl,rfl,rfl,by decide+kernel,rfl,by decide+kernel,by decide+kernel⟩
theorem a4O(T:aW K mg){C:Addr}(Y:cI K mg C):aL P w K mg base aC 3 C "number_at" ["self","place"] (a0k C):=by
 have G_check_place:bI P w K mg base aC 2 "check_place" ["place","places"] rK:=uN T
 have G_many:aL P w K mg base aC 1 C "many" ["self"] (lL C):=mW T Y
 refine Y.m_number_at.known a89 (fun _ _ _ _ _ _ us hl=>dF (fun _ _=>rfl) us hl) (fun vs H Q E h=> ?_) (fun f cdv A outer s H vs Q E hr h=> ?_)
 ·obtain⟨p,r,d,xs,n,kvs,i,v,rfl,_⟩:=h
  rfl
 ·obtain⟨p,r,d,xs,n,kvs,i,v,rfl,TA,hi,ha,q⟩:=h
  refine⟨_,(aH (cC (bQ G_check_place (hr.mono (by decide)) aM (aA (pv 1) (aA (eO (pv 0) Y.cl G_many (hr.mono (by decide)) aM) aE))))
   (aI (bA (cJ gZ (aT (pv 0) rfl) (pv 1) (fun _ _=>rfl))))),?_⟩
  obtain⟨⟨dx,h1⟩,h2,h3⟩:=id TA
  refine⟨_,rfl,_,rfl,p,dx,_,rfl,h1,jN,p,r,d,xs,n,kvs,rfl,TA,i,xs.length,rfl,hi,?_⟩
  exact⟨_,rfl,p,C,dx,_,_,rfl,h1,Y.cl,Y.n_row_numbers,a2l _ _ _,_,rfl,r,_,_,v,rfl,rfl,aO.of h2,ha,q⟩
def a3e(K:Fg)(C:Addr):Sp:=fun vs H Q _=>∃p r d xs n kvs t a ys ds,vs= [.ref p,.str t,.ref a] /\jU C H p r d xs n kvs/\Nl t/\((aQ kvs (.inr t:aB)).isSome=true\/ kvs.length<8)/\kvs.length<=1000/\aO K H a ys/\bN K H ys ds/\ys.length=xs.length/\ys.length<=1000/\
 ∀H' l,aD H H'->H' l=none->Q .non (upd (upd H' l (.lst ys)) d (.dK (aR kvs (.inr t:aB) (.ref l))))
theorem a8Y:aV ["self","column","values"] ["self","column","values"] (aN sQ):=⟨rfl,rfl,rfl,by decide+kernel,rfl,by decide+kernel,by decide+kernel⟩
theorem a7e(T:aW K mg){C:Addr}(Y:cI K mg C):aL P w K mg base aC 5 C "give" ["self","column","values"] (a3e K C):=by
 have G_is_name:bI P w K mg base aC 1 "is_name" ["thing"] (lM K):=mC T
 have G_check_values:bI P w K mg base aC 4 "check_values" ["values","many"] (wM K):=a1q T
 have G_many:aL P w K mg base aC 1 C "many" ["self"] (lL C):=mW T Y
 refine Y.m_give.known a8Y (fun _ _ _ _ _ _ us hl=>eM (fun _ _ _=>rfl) us hl) (fun vs H Q E h=> ?_) (fun f cdv A outer s H vs Q E hr h=> ?_)
 ·obtain⟨p,r,d,xs,n,kvs,t,a,ys,ds,rfl,_⟩:=h
  rfl
 ·obtain⟨p,r,d,xs,n,kvs,t,a,ys,ds,rfl,TA,ht,hc,hk,hs,hp,hl,l1000,q⟩:=h
  have dQ:∃t',eE (cY aC P w K mg base ["self","column","values"] "Table.give" (aN sQ) f cdv A outer s H E).nox ((eG sQ).drop 2) t'/\
   ∀(H1:Hp),aD H H1->t' {nx:=fun _ H'=>Q .non H',rt:=Q} [some (.ref p),some (.str t),some (.ref a)] H1:=by
   refine⟨_,(aH (cC (bQ G_check_values (hr.mono (by decide)) aM (aA (pv 2) (aA (eO (pv 0) Y.cl G_many (hr.mono (by decide)) aM) aE))))
    (aI (jQ (eB hr) (aT (pv 0) rfl) (pv 1) (jR nB rfl T.list iA (aA (pv 2) aE)) rfl))),fun H1 s1=> ?_⟩
   obtain⟨⟨dx,h1⟩,h2,h3⟩:=TA.same s1
   refine⟨_,rfl,_,rfl,p,dx,_,rfl,h1,jN,p,r,d,xs,n,kvs,rfl,TA.same s1,a,ys,ds,(by rw[hl];rfl),s1.seq hs,hp.keep (bF.of s1),l1000,fun H2 s2=> ?_⟩
   have s12:=s1.trans s2
   refine⟨_,rfl,a,ys,rfl,.inl (s12.seq hs),fun l hl=> ?_⟩
   have c1:aD H2 (upd H2 l (.lst ys)):=aD.new hl
   refine⟨_,rfl,p,C,dx,_,_,rfl,c1 _ _ (s2 _ _ h1),Y.cl,Y.n_kept,qL _ _ _,_,rfl,d,_,rfl,hZ.k (k:=Sum.inr t) (c1 _ _ (s2 _ _ h3)) (cQ hk),?_⟩
   exact q H2 l s12 hl
  obtain⟨t2,ht2,r2⟩:=dQ
  refine⟨_,(aH (bM (dI (cM (bQ G_is_name (hr.mono (by decide)) aM (aA (pv 1) aE)) (fun _=>rfl))) (aI cB) bP)
   (aH (bM (PW.pt (oH (jM (lN (eB hr) (pv 1) (aT (pv 0) rfl))) (pW (cE wU (cT a2Z rfl T.len gI (aA (aT (pv 0) rfl) aE)) (oC T.g_MOST_COLUMNS) (cH _))))) (aI cB) bP)
   ht2)),?_⟩
  have h8:=ht.2.1
  refine⟨_,rfl,_,.str t,rfl,.str t,lH (by omega),fun H1 s1=>⟨_,rfl,?_⟩⟩
  rw[show fE (.str t)=true from ht.name]
  obtain⟨⟨dx,h2⟩,_,h3⟩:=TA.same s1
  refine bK ⟨_,rfl,_,rfl,p,C,dx,_,_,rfl,h2,Y.cl,Y.n_kept,qL _ _ _,d,_,rfl,cA.k (k:=Sum.inr t) h3,_,rfl,?_⟩
  cases e:aQ kvs (Sum.inr t:aB)with
  |some v=>exact bK (bK (r2 H1 s1))
  |none=>
   have hc':kvs.length<8:=by
    rcases hc with hc|hc
    ·rw[e]at hc;cases hc
    ·exact hc
   refine cD ⟨_,rfl,p,C,dx,_,_,rfl,h2,Y.cl,Y.n_kept,qL _ _ _,d,kvs,rfl,h3,_,_,rfl,rfl,_,rfl,?_⟩
   rw[decide_eq_false (show¬(kvs.length:Int)>=8 by omega)]
   exact bK (r2 H1 s1)
end
theorem dW{H H':Hp}{a:Addr}(s:aD H H')(h:H' a=none):H a=none:=by
 cases e:H a with
 |none=>rfl
 |some o=>rw[s _ _ e]at h;cases h
def bO(p:Addr)(H H':Hp):Prop:=∀b o,b≠p->H b=some o->H' b=some o
theorem bO.of{p:Addr}{H H':Hp}(s:aD H H'):bO p H H':=fun b o _ e=>s b o e
theorem bO.trans{p:Addr}{H H1 H2:Hp}(a:bO p H H1)(b:bO p H1 H2):bO p H H2:=fun c o n e=>b c o n (a c o n e)
theorem a4w{H:Hp}{p b C D dx dy:Addr}{fs gs:List (Str×V)}(h:H p=some (.ins C dx fs))(g:H b=some (.ins D dy gs))(n:fs.length≠gs.length):p≠b:=fun z=>by
 rw[z,g]at h
 cases h
 exact n rfl
structure BM where
 b:Addr
 g:Addr
 r:Addr
 e:Addr
 ru:Addr
 me:Addr
 od:Addr
 xs:List V
 n:Int
 kvs:List (aB×V)
 rus:List (aB×V)
 mes:List (aB×V)
 ord:List Str
def lT(g ru me od:Addr):List (Str×V):=[("given",V.ref g),("rules",V.ref ru),("memory",V.ref me),("order",V.ref od)]
theorem dH(g ru me od:Addr):(lT g ru me od).lookup ("given":Str)=some (.ref g)/\(lT g ru me od).lookup ("rules":Str)=some (.ref ru)/\(lT g ru me od).lookup ("memory":Str)=some (.ref me)/\(lT g ru me od).lookup ("order":Str)=some (.ref od):=⟨rfl,rfl,rfl,rfl⟩
theorem nS{g ru me od:Addr}{m:Str}(h:(m==("given":Str)||m==("rules":Str)||m==("memory":Str)||m==("order":Str))=false:=by decide+kernel):(lT g ru me od).lookup m=none:=by
 simp only[Bool.or_eq_false_iff]at h
 obtain⟨⟨⟨h1,h2⟩,h3⟩,h4⟩:=h
 unfold lT
 simp[List.lookup,h1,h2,h3,h4]
theorem a9e(g ru me od:Addr):aK "order" (.ref od) (aK "memory" (.ref me) (aK "rules" (.ref ru) (aK "given" (.ref g) [])))=lT g ru me od:=by
 rfl
structure bS(CB CT:Addr)(H:Hp)(B:BM):Prop where
 at_:∃dx,H B.b=some (.ins CB dx (lT B.g B.ru B.me B.od))
 tab:jU CT H B.g B.r B.e B.xs B.n B.kvs
 rul:H B.ru=some (.dK B.rus)
 mem:H B.me=some (.dK B.mes)
 ord:H B.od=some (.lst (B.ord.map V.str))
theorem bS.same{CB CT:Addr}{H H':Hp}{B:BM}(h:bS CB CT H B)(s:aD H H'):bS CB CT H' B:=
 ⟨let ⟨dx,e⟩:=h.at_;⟨dx,s _ _ e⟩,h.tab.same s,s _ _ h.rul,s _ _ h.mem,s _ _ h.ord⟩
def BM.foot(B:BM):List Addr:=[B.b,B.g,B.r,B.e,B.ru,B.me,B.od]
structure BM.sep(B:BM):Prop where
 ro:B.r≠B.od
 eu:B.e≠B.ru
 em:B.e≠B.me
 um:B.ru≠B.me
section
variable{P:Program}{w:World}{K:Fg}{mg:Str->Option Value}{base:Heap}
def a3u(CB CT:Addr):Sp:=fun vs H Q _=>∃(p dx:Addr) (m:Nat),vs= [.ref p,.int (m:Int)] /\H p=some (.ins CB dx [])/\m<=30/\
 ∀H' g r e ru me od,bS CB CT H' ⟨p,g,r,e,ru,me,od,dA 0 m,(m:Int),[],[],[],[]⟩ ->BM.sep ⟨p,g,r,e,ru,me,od,dA 0 m,(m:Int),[],[],[],[]⟩ ->(∀x∈ [g,r,e,ru,me,od],H x=none)->(∀b o,H b=some o->b≠p->H' b=some o)->Q .non H'
theorem a9m:aV ["self","many"] ["self","many"] (aN a3f):=⟨rfl,rfl,rfl,by decide+kernel,rfl,by decide+kernel,by decide+kernel⟩
theorem a8W(T:aW K mg){CB CT:Addr}(Y:bU K mg CB)(Z:cI K mg CT):dJ P w K mg base aC 5 CB ["self","many"] (a3u CB CT):=by
 have GI:dJ P w K mg base aC 3 CT ["self","many"] (a2z K CT):=a5E T Z
 refine(Y.m_init.known a9m (fun _ _ _ _ _ _ us hl=>dF (fun _ _=>rfl) us hl) (fun vs H Q E h=> ?_) (fun f cdv A outer s H vs Q E hr h=> ?_)).init Y.mks Y.kc
 ·obtain⟨p,dx,m,rfl,_⟩:=h
  rfl
 ·obtain⟨p,dx,m,rfl,hp,hm,q⟩:=h
  refine⟨_,(aH (cG (pv 0) (jC GI hr Z.c aM (aA (pv 1) aE)) rfl)
   (aH (cG (pv 0) qD rfl)
   (aH (cG (pv 0) qD rfl)
   (aI (cG (pv 0) (fW aE) rfl))))),?_⟩
  refine⟨_,rfl,?_⟩
  intro g dg hg hdg ne
  refine⟨g,dg,m,rfl,aJ,hm,fun H1 r e TA hr1 he1 nre b1=>⟨rfl,?_⟩⟩
  have s1:aD H H1:=fun b o z=>b1 b o (by rw[aG (aX z hg),aG (aX z hdg)];exact z) (aX z hg)
  have npg:p≠g:=aX hp hg
  have hr0:H r=none:=by
   by_cases z:r=g
   ·rw[z];exact hg
   ·by_cases z2:r=dg
    ·rw[z2];exact hdg
    ·rw[aG z,aG z2]at hr1;exact hr1
  have he0:H e=none:=by
   by_cases z:e=g
   ·rw[z];exact hg
   ·by_cases z2:e=dg
    ·rw[z2];exact hdg
    ·rw[aG z,aG z2]at he1;exact he1
  obtain⟨⟨dt,ht⟩,hrr,hee⟩:=TA
  refine⟨_,rfl,p,CB,dx,[],rfl,s1 _ _ hp,Y.cl,Y.n_given,(by show 0<1000;decide),?_⟩
  have u2:∀b o,b≠p->H1 b=some o->upd H1 p (.ins CB dx (aK "given" (.ref g) [])) b=some o:=fun b o n z=>by rw[aG n];exact z
  have p2:upd H1 p (.ins CB dx (aK "given" (.ref g) [])) p=some (.ins CB dx (aK "given" (.ref g) [])):=aJ
  have n2:∀b,upd H1 p (.ins CB dx (aK "given" (.ref g) [])) b=none->H1 b=none/\b≠p:=fun b z=>by
   have:b≠p:=fun y=>by rw[y,aJ]at z;cases z
   rw[aG this]at z
   exact⟨z,this⟩
  generalize upd H1 p (.ins CB dx (aK "given" (.ref g) []))=H2 at u2 p2 n2|-
  have b1':∀b,H1 b=none->H b=none:=fun b z=>by
   cases e9:H b with
   |none=>rfl
   |some o=>rw[s1 _ _ e9]at z;cases z
  refine fun ru hru=> ?_
  have s3:=aD.new (o:=.dK []) hru
  have h3:upd H2 ru (.dK []) ru=some (.dK []):=aJ
  have n3:∀b,upd H2 ru (.dK []) b=none->H2 b=none/\b≠ru:=fun b z=>by
   have:b≠ru:=fun y=>by rw[y,aJ]at z;cases z
   rw[aG this]at z
   exact⟨z,this⟩
  refine⟨_,rfl,p,CB,dx,_,rfl,s3 _ _ p2,Y.cl,Y.n_rules,(by show 1<1000;decide),?_⟩
  have hru2:=n2 _ hru
  generalize upd H2 ru (.dK [])=H3 at s3 h3 n3|-
  have u4:∀b o,b≠p->H3 b=some o->upd H3 p (.ins CB dx (aK "rules" (.ref ru) (aK "given" (.ref g) []))) b=some o:=fun b o n z=>by rw[aG n];exact z
  have p4:upd H3 p (.ins CB dx (aK "rules" (.ref ru) (aK "given" (.ref g) []))) p=some (.ins CB dx (aK "rules" (.ref ru) (aK "given" (.ref g) []))):=aJ
  have n4:∀b,upd H3 p (.ins CB dx (aK "rules" (.ref ru) (aK "given" (.ref g) []))) b=none->H3 b=none/\b≠p:=fun b z=>by
   have:b≠p:=fun y=>by rw[y,aJ]at z;cases z
   rw[aG this]at z
   exact⟨z,this⟩
  generalize upd H3 p (.ins CB dx (aK "rules" (.ref ru) (aK "given" (.ref g) [])))=H4 at u4 p4 n4|-
  refine fun me hme=> ?_
  have s5:=aD.new (o:=.dK []) hme
  have h5:upd H4 me (.dK []) me=some (.dK []):=aJ
  have n5:∀b,upd H4 me (.dK []) b=none->H4 b=none/\b≠me:=fun b z=>by
   have:b≠me:=fun y=>by rw[y,aJ]at z;cases z
   rw[aG this]at z
   exact⟨z,this⟩
  refine⟨_,rfl,p,CB,dx,_,rfl,s5 _ _ p4,Y.cl,Y.n_memory,(by show 2<1000;decide),?_⟩
  have hme4:=n4 _ hme
  have hme3:=n3 _ hme4.1
  have hme2:=n2 _ hme3.1
  generalize upd H4 me (.dK [])=H5 at s5 h5 n5|-
  have u6:∀b o,b≠p->H5 b=some o->upd H5 p (.ins CB dx (aK "memory" (.ref me) (aK "rules" (.ref ru) (aK "given" (.ref g) [])))) b=some o:=fun b o n z=>by rw[aG n];exact z
  have p6:upd H5 p (.ins CB dx (aK "memory" (.ref me) (aK "rules" (.ref ru) (aK "given" (.ref g) [])))) p=some (.ins CB dx (aK "memory" (.ref me) (aK "rules" (.ref ru) (aK "given" (.ref g) [])))):=aJ
  have n6:∀b,upd H5 p (.ins CB dx (aK "memory" (.ref me) (aK "rules" (.ref ru) (aK "given" (.ref g) [])))) b=none->H5 b=none/\b≠p:=fun b z=>by
   have:b≠p:=fun y=>by rw[y,aJ]at z;cases z
   rw[aG this]at z
   exact⟨z,this⟩
  generalize upd H5 p (.ins CB dx (aK "memory" (.ref me) (aK "rules" (.ref ru) (aK "given" (.ref g) []))))=H6 at u6 p6 n6|-
  refine⟨sl,fun od hod=> ?_⟩
  have s7:=aD.new (o:=.lst []) hod
  have h7:upd H6 od (.lst []) od=some (.lst []):=aJ
  refine⟨_,rfl,p,CB,dx,_,rfl,s7 _ _ p6,Y.cl,Y.n_order,(by show 3<1000;decide),?_⟩
  have hod6:=n6 _ hod
  have hod5:=n5 _ hod6.1
  have hod4:=n4 _ hod5.1
  have hod3:=n3 _ hod4.1
  have hod2:=n2 _ hod3.1
  generalize upd H6 od (.lst [])=H7 at s7 h7|-
  have up:∀b o,b≠p->H1 b=some o->upd H7 p (.ins CB dx (aK "order" (.ref od) (aK "memory" (.ref me) (aK "rules" (.ref ru) (aK "given" (.ref g) []))))) b=some o:=fun b o n z=>by
   rw[aG n]
   exact s7 _ _ (u6 _ _ n (s5 _ _ (u4 _ _ n (s3 _ _ (u2 _ _ n z)))))
  have p9:upd H7 p (.ins CB dx (aK "order" (.ref od) (aK "memory" (.ref me) (aK "rules" (.ref ru) (aK "given" (.ref g) []))))) p=some (.ins CB dx (lT g ru me od)):=by rw[aJ,a9e]
  have npr:r≠p:=fun z=>by rw[z,hp]at hr0;cases hr0
  have npe:e≠p:=fun z=>by rw[z,hp]at he0;cases he0
  have o7:upd H7 p (.ins CB dx (aK "order" (.ref od) (aK "memory" (.ref me) (aK "rules" (.ref ru) (aK "given" (.ref g) []))))) od=some (.lst []):=by rw[aG hod6.2];exact h7
  have m7:upd H7 p (.ins CB dx (aK "order" (.ref od) (aK "memory" (.ref me) (aK "rules" (.ref ru) (aK "given" (.ref g) []))))) me=some (.dK []):=by
   rw[aG hme4.2]
   exact s7 _ _ (u6 _ _ hme4.2 h5)
  have r7:upd H7 p (.ins CB dx (aK "order" (.ref od) (aK "memory" (.ref me) (aK "rules" (.ref ru) (aK "given" (.ref g) []))))) ru=some (.dK []):=by
   rw[aG hru2.2]
   exact s7 _ _ (u6 _ _ hru2.2 (s5 _ _ (u4 _ _ hru2.2 h3)))
  generalize upd H7 p (.ins CB dx (aK "order" (.ref od) (aK "memory" (.ref me) (aK "rules" (.ref ru) (aK "given" (.ref g) [])))))=H9 at up p9 o7 m7 r7|-
  refine q H9 g r e ru me od ⟨⟨dx,p9⟩,⟨⟨dt,up _ _ npg.symm ht⟩,up _ _ npr hrr,up _ _ npe hee⟩,r7,m7,o7⟩ ⟨?_,?_,?_,?_⟩ ?_ fun b o z n=>up _ _ n (s1 _ _ z)
  ·exact aX hrr hod2.1
  ·exact aX hee hru2.1
  ·exact aX hee hme2.1
  ·exact fun z=>hme3.2 z.symm
  ·intro x hx
   simp only[List.mem_cons,List.not_mem_nil,or_false]at hx
   rcases hx with rfl|rfl|rfl|rfl|rfl|rfl
   ·exact hg
   ·exact hr0
   ·exact he0
   ·exact b1' _ hru2.1
   ·exact b1' _ hme2.1
   ·exact b1' _ hod2.1
def wS(CB CT:Addr):Sp:=fun vs H Q _=>∃(B:BM) (t:Str),vs= [.ref B.b,.str t] /\bS CB CT H B/\Nl t/\∀H',aD H H'->Q (.bl (decide (t∈B.ord))) H'
theorem a9n:aV ["self","column"] ["self","column"] (aN a1x):=⟨rfl,rfl,rfl,by decide+kernel,rfl,by decide+kernel,by decide+kernel⟩
theorem a17(T:aW K mg){CB CT:Addr}(Y:bU K mg CB):aL P w K mg base aC 2 CB "has_column" ["self","column"] (wS CB CT):=by
 have G_is_name:bI P w K mg base aC 1 "is_name" ["thing"] (lM K):=mC T
 refine Y.m_has_column.known a9n (fun _ _ _ _ _ _ us hl=>dF (fun _ _=>rfl) us hl) (fun vs H Q E h=> ?_) (fun f cdv A outer s H vs Q E hr h=> ?_)
 ·obtain⟨B,t,rfl,_⟩:=h
  rfl
 ·obtain⟨B,t,rfl,hB,ht,q⟩:=h
  refine⟨_,(aI (bA (pF (bQ G_is_name (hr.mono (by decide)) aM (aA (pv 1) aE)) (pR (nE xX (pv 1) (aT (pv 0) rfl) (by with_unfolding_all rfl)))))),?_⟩
  have h8:=ht.2.1
  refine⟨_,rfl,_,.str t,rfl,.str t,lH (by omega),fun H' s'=>⟨_,rfl,?_⟩⟩
  rw[show fE (.str t)=true from ht.name]
  obtain⟨⟨dx,h1⟩,_,_,_,h5⟩:=hB.same s'
  refine cD ⟨_,rfl,_,rfl,B.b,CB,dx,_,_,rfl,h1,Y.cl,Y.n_order,(dH _ _ _ _).2.2.2,B.od,_,rfl,.inl (aO.of h5),rfl,lU _,?_⟩
  rw[show (if false=true then !gC (.str t) (B.ord.map V.str) else gC (.str t) (B.ord.map V.str))=decide (t∈B.ord)by rw[if_neg Bool.false_ne_true,mU]]
  exact q _ s'
def pQ(B:BM)(t:Str):Prop:=aQ B.rus (.inr t:aB)=none/\t∉B.ord
def qA(CB CT:Addr):Sp:=fun vs H Q _=>∃(B:BM) (t:Str),vs= [.ref B.b,.str t] /\bS CB CT H B/\pQ B t/\Q .non H
theorem a5x:aV ["self","column"] ["self","column"] (aN a1L):=⟨rfl,rfl,rfl,by decide+kernel,rfl,by decide+kernel,by decide+kernel⟩
theorem a4z(T:aW K mg){CB CT:Addr}(Y:bU K mg CB):aL P w K mg base aC 2 CB "content" ["self","column"] (qA CB CT):=by
 refine Y.m_content.known a5x (fun _ _ _ _ _ _ us hl=>dF (fun _ _=>rfl) us hl) (fun vs H Q E h=> ?_) (fun f cdv A outer s H vs Q E hr h=> ?_)
 ·obtain⟨B,t,rfl,_⟩:=h
  rfl
 ·obtain⟨B,t,rfl,hB,⟨n1,n2⟩,q⟩:=h
  refine⟨_,(aH (bM (jM (oT (eB hr) (pv 1) (aT (pv 0) rfl))) (aI cB) bP)
   (aH (bM (cE xX (pv 1) (aT (pv 0) rfl) (by with_unfolding_all rfl)) (aI cB) bP)
   (aI (bA iQ)))),?_⟩
  obtain⟨⟨dx,h1⟩,_,h3,_,h5⟩:=id hB
  refine⟨_,rfl,_,rfl,B.b,CB,dx,_,_,rfl,h1,Y.cl,Y.n_rules,(dH _ _ _ _).2.1,B.ru,_,rfl,cA.k (k:=Sum.inr t) h3,_,rfl,?_⟩
  rw[n1]
  refine bK ⟨_,rfl,_,rfl,B.b,CB,dx,_,_,rfl,h1,Y.cl,Y.n_order,(dH _ _ _ _).2.2.2,B.od,_,rfl,.inl (aO.of h5),rfl,lU _,_,rfl,?_⟩
  rw[show (if false=true then !gC (.str t) (B.ord.map V.str) else gC (.str t) (B.ord.map V.str))=false by rw[if_neg Bool.false_ne_true,mU,decide_eq_false n2]]
  exact bK q
theorem a31:aV ["self","column"] ["self","column"] (aN a1k):=⟨rfl,rfl,rfl,by decide+kernel,rfl,by decide+kernel,by decide+kernel⟩
theorem a3R(T:aW K mg){CB CT:Addr}(Y:bU K mg CB):aL P w K mg base aC 2 CB "empty_column" ["self","column"] (qA CB CT):=by
 refine Y.m_empty_column.known a31 (fun _ _ _ _ _ _ us hl=>dF (fun _ _=>rfl) us hl) (fun vs H Q E h=> ?_) (fun f cdv A outer s H vs Q E hr h=> ?_)
 ·obtain⟨B,t,rfl,_⟩:=h
  rfl
 ·obtain⟨B,t,rfl,hB,⟨n1,n2⟩,q⟩:=h
  refine⟨_,(aI (bM (jM (oT (eB hr) (pv 1) (aT (pv 0) rfl))) (aH cB (aI cB)) (aI (bM (cE xX (pv 1) (aT (pv 0) rfl) (by with_unfolding_all rfl)) (aI cB) bP)))),?_⟩
  obtain⟨⟨dx,h1⟩,_,h3,_,h5⟩:=id hB
  refine⟨_,rfl,_,rfl,B.b,CB,dx,_,_,rfl,h1,Y.cl,Y.n_rules,(dH _ _ _ _).2.1,B.ru,_,rfl,cA.k (k:=Sum.inr t) h3,_,rfl,?_⟩
  rw[n1]
  refine bK ⟨_,rfl,_,rfl,B.b,CB,dx,_,_,rfl,h1,Y.cl,Y.n_order,(dH _ _ _ _).2.2.2,B.od,_,rfl,.inl (aO.of h5),rfl,lU _,_,rfl,?_⟩
  rw[show (if false=true then !gC (.str t) (B.ord.map V.str) else gC (.str t) (B.ord.map V.str))=false by rw[if_neg Bool.false_ne_true,mU,decide_eq_false n2]]
  exact bK q
def zI(K:Fg)(CB CT:Addr):Sp:=fun vs H Q _=>∃(B:BM) (t:Str) (a:Addr) (ys:List V) (ds:List PyData),vs= [.ref B.b,.str t,.ref a] /\bS CB CT H B/\B.sep/\pQ B t/\Nl t/\H a=some (.lst ys)/\a≠B.od/\bN K H ys ds/\ys.length=B.xs.length/\ys.length<=30/\B.kvs.length<8/\B.ord.length<100/\
 ∀H' l,H l=none->bS CB CT H' {B with kvs:=aR B.kvs (.inr t:aB) (.ref l),ord:=B.ord++ [t]} ->H' l=some (.lst ys)->(∀b o,b≠B.od->b≠B.e->H b=some o->H' b=some o)->Q .non H'
theorem a2E:aV ["self","column","content"] ["self","column","content"] (aN a1A):=⟨rfl,rfl,rfl,by decide+kernel,rfl,by decide+kernel,by decide+kernel⟩
theorem a9j(T:aW K mg){CB CT:Addr}(Y:bU K mg CB)(Z:cI K mg CT):aL P w K mg base aC 6 CB "set_column" ["self","column","content"] (zI K CB CT):=by
 have G_empty:aL P w K mg base aC 2 CB "empty_column" ["self","column"] (qA CB CT):=a3R T Y
 have G_give:aL P w K mg base aC 5 CT "give" ["self","column","values"] (a3e K CT):=a7e T Z
 refine Y.m_set_column.known a2E (fun _ _ _ _ _ _ us hl=>eM (fun _ _ _=>rfl) us hl) (fun vs H Q E h=> ?_) (fun f cdv A outer s H vs Q E hr h=> ?_)
 ·obtain⟨B,t,a,ys,ds,rfl,_⟩:=h
  rfl
 ·obtain⟨B,t,a,ys,ds,rfl,hB,sp,⟨n1,n2⟩,ht,ha,nao,hp,hl,l30,k8,o100,q⟩:=h
  refine⟨_,(aH (cC (bH (pv 0) Y.cl G_empty (hr.mono (by decide)) aM (aA (pv 1) aE)))
   (aH (bM (cE oZ (pv 2) iQ (cH _)) (aH cB (aI cB)) bP)
   (aH (bM (cE rS (pv 1) (aT (pv 0) rfl) (by with_unfolding_all rfl)) (aI (cC (kH PySem.F.plainAttrs_list PySem.F.slot_list_append PySem.F.type_list_append kD (aT (pv 0) rfl) (aA (pv 1) aE)))) bP)
   (aI (bM (cM (cT a00 rfl T.isinstance iM (aA (pv 2) (aA (iB T.list iA) aE))) (fun _=>rfl)) (aI (cC (bH (aT (pv 0) rfl) Z.cl G_give (hr.mono (by decide)) aM (aA (pv 1) (aA (pv 2) aE))))) (aH cB (aI cB))))))),?_⟩
  obtain⟨⟨dx,h1⟩,tb,h3,h4,h5⟩:=id hB
  refine⟨_,rfl,B.b,dx,_,rfl,h1,nS,_,rfl,B,t,rfl,hB,⟨n1,n2⟩,?_⟩
  refine⟨_,rfl,rfl,_,rfl,?_⟩
  rw[decide_eq_false (show¬V.ref a=V.non from fun z=>by cases z)]
  refine bK ⟨_,rfl,_,rfl,B.b,CB,dx,_,_,rfl,h1,Y.cl,Y.n_order,(dH _ _ _ _).2.2.2,B.od,_,rfl,.inl (aO.of h5),rfl,lU _,_,rfl,?_⟩
  rw[show (if true=true then !gC (.str t) (B.ord.map V.str) else gC (.str t) (B.ord.map V.str))=true by rw[if_pos rfl,mU,decide_eq_false n2];rfl]
  refine cD ⟨_,rfl,B.b,CB,dx,_,_,rfl,h1,Y.cl,Y.n_order,(dH _ _ _ _).2.2.2,.inl ⟨rfl,_,aO.of h5⟩,_,rfl,B.od,_,_,rfl,rfl,h5,cQ (by rw[List.length_map];omega),?_⟩
  have u6:∀b o,b≠B.od->H b=some o->upd H B.od (.lst (B.ord.map V.str++ [.str t])) b=some o:=fun b o n z=>by rw[aG n];exact z
  have o6:upd H B.od (.lst (B.ord.map V.str++ [.str t])) B.od=some (.lst ((B.ord++ [t]).map V.str)):=by rw[aJ,List.map_append];rfl
  have kt:bF H (upd H B.od (.lst (B.ord.map V.str++ [.str t]))):=bF.upd h5 (fun xs z=>by cases z)
  have n6:∀b,upd H B.od (.lst (B.ord.map V.str++ [.str t])) b=none->H b=none:=fun b z=>by
   have:b≠B.od:=fun y=>by rw[y,aJ]at z;cases z
   rw[aG this]at z
   exact z
  generalize upd H B.od (.lst (B.ord.map V.str++ [.str t]))=H6 at u6 o6 kt n6|-
  have a6:=u6 _ _ nao ha
  have b6:=u6 _ _ (fun z=>by rw[z,h5]at h1;cases h1) h1
  obtain⟨⟨dt,t1⟩,t2,t3⟩:=id tb
  have g6:=u6 _ _ (fun z=>by rw[z,h5]at t1;cases t1) t1
  have e6:=u6 _ _ (fun z=>by rw[z,h5]at t3;cases t3) t3
  have tb6:jU CT H6 B.g B.r B.e B.xs B.n B.kvs:=⟨⟨dt,g6⟩,u6 _ _ sp.ro t2,e6⟩
  refine⟨_,rfl,_,"list",.type "list",_,rfl,.lst a6,vA K .lst,_,rfl,cD ?_⟩
  refine⟨_,rfl,B.b,CB,dx,_,_,rfl,b6,Y.cl,Y.n_given,(dH _ _ _ _).1,B.g,dt,_,rfl,g6,jN,_,rfl,_,rfl,B.g,B.r,B.e,B.xs,B.n,B.kvs,t,a,ys,ds,rfl,tb6,ht,.inr k8,by omega,aO.of a6,hp.keep kt,hl,by omega,fun H7 l s7 hl7=> ?_⟩
  have u9:∀b o,b≠B.e->H7 b=some o->upd (upd H7 l (.lst ys)) B.e (.dK (aR B.kvs (.inr t:aB) (.ref l))) b=some o:=fun b o n z=>by
   rw[aG n,aG (aX z hl7)]
   exact z
  have nle:l≠B.e:=fun z=>by rw[z,s7 _ _ e6]at hl7;cases hl7
  have e9:upd (upd H7 l (.lst ys)) B.e (.dK (aR B.kvs (.inr t:aB) (.ref l))) B.e=some (.dK (aR B.kvs (.inr t:aB) (.ref l))):=aJ
  have l9:upd (upd H7 l (.lst ys)) B.e (.dK (aR B.kvs (.inr t:aB) (.ref l))) l=some (.lst ys):=by rw[aG nle,aJ]
  generalize upd (upd H7 l (.lst ys)) B.e (.dK (aR B.kvs (.inr t:aB) (.ref l)))=H9 at u9 e9 l9|-
  have up:∀b o,b≠B.od->b≠B.e->H b=some o->H9 b=some o:=fun b o n1 n2 z=>u9 _ _ n2 (s7 _ _ (u6 _ _ n1 z))
  have ne_:∀{b:Addr} {o:HO},H6 b=some o->(∀kvs,o≠ .dK kvs)->b≠B.e:=fun z n y=>by rw[y,e6]at z;exact n _ (Option.some.inj z).symm
  refine q H9 l (n6 _ (dW s7 hl7)) ⟨⟨dx,u9 _ _ (ne_ b6 (fun kvs z=>by cases z)) (s7 _ _ b6)⟩,⟨⟨dt,u9 _ _ (ne_ g6 (fun kvs z=>by cases z)) (s7 _ _ g6)⟩,?_,e9⟩,?_,?_,?_⟩ l9 up
  ·exact up _ _ sp.ro (fun z=>by rw[z,t3]at t2;cases t2) t2
  ·exact up _ _ (fun z=>by rw[z,h5]at h3;cases h3) sp.eu.symm h3
  ·exact up _ _ (fun z=>by rw[z,h5]at h4;cases h4) sp.em.symm h4
  ·exact u9 _ _ (ne_ o6 (fun kvs z=>by cases z)) (s7 _ _ o6)
def xJ(K:Fg)(CB CT:Addr):Sp:=fun vs H Q _=>∃(B:BM) (t:Str) (a C dx:Addr) (fs:List (Str×V)),vs= [.ref B.b,.str t,.ref a] /\bS CB CT H B/\B.sep/\pQ B t/\H a=some (.ins C dx fs)/\gX K H (.ref a) (.ref C)/\PySem.W.kitOne K (.ref C) (.type "list")=some false/\B.rus.length<100/\B.mes.length<100/\B.ord.length<100/\
 ∀H' m,H m=none->bS CB CT H' {B with rus:=aR B.rus (.inr t:aB) (.ref a),mes:=aR B.mes (.inr t:aB) (.ref m),ord:=B.ord++ [t]} ->H' m=some (.dK [])->(∀b o,b≠B.od->b≠B.ru->b≠B.me->H b=some o->H' b=some o)->Q .non H'
theorem a9f(T:aW K mg){CB CT:Addr}(Y:bU K mg CB):aL P w K mg base aC 6 CB "set_column" ["self","column","content"] (xJ K CB CT):=by
 have G_empty:aL P w K mg base aC 2 CB "empty_column" ["self","column"] (qA CB CT):=a3R T Y
 refine Y.m_set_column.known a2E (fun _ _ _ _ _ _ us hl=>eM (fun _ _ _=>rfl) us hl) (fun vs H Q E h=> ?_) (fun f cdv A outer s H vs Q E hr h=> ?_)
 ·obtain⟨B,t,a,C,dc,fs,rfl,_⟩:=h
  rfl
 ·obtain⟨B,t,a,C,dc,fs,rfl,hB,sp,⟨n1,n2⟩,ha,hty,hk,r100,m100,o100,q⟩:=h
  refine⟨_,(aH (cC (bH (pv 0) Y.cl G_empty (hr.mono (by decide)) aM (aA (pv 1) aE)))
   (aH (bM (cE oZ (pv 2) iQ (cH _)) (aH cB (aI cB)) bP)
   (aH (bM (cE rS (pv 1) (aT (pv 0) rfl) (by with_unfolding_all rfl)) (aI (cC (kH PySem.F.plainAttrs_list PySem.F.slot_list_append PySem.F.type_list_append kD (aT (pv 0) rfl) (aA (pv 1) aE)))) bP)
   (aI (bM (cM (cT a00 rfl T.isinstance iM (aA (pv 2) (aA (iB T.list iA) aE))) (fun _=>rfl)) (aI cB) (aH (jQ (eB hr) (aT (pv 0) rfl) (pv 1) (pv 2) rfl) (aI (jQ (eB hr) (aT (pv 0) rfl) (pv 1) qD rfl)))))))),?_⟩
  obtain⟨⟨dx,h1⟩,tb,h3,h4,h5⟩:=id hB
  refine⟨_,rfl,B.b,dx,_,rfl,h1,nS,_,rfl,B,t,rfl,hB,⟨n1,n2⟩,?_⟩
  refine⟨_,rfl,rfl,_,rfl,?_⟩
  rw[decide_eq_false (show¬V.ref a=V.non from fun z=>by cases z)]
  refine bK ⟨_,rfl,_,rfl,B.b,CB,dx,_,_,rfl,h1,Y.cl,Y.n_order,(dH _ _ _ _).2.2.2,B.od,_,rfl,.inl (aO.of h5),rfl,lU _,_,rfl,?_⟩
  rw[show (if true=true then !gC (.str t) (B.ord.map V.str) else gC (.str t) (B.ord.map V.str))=true by rw[if_pos rfl,mU,decide_eq_false n2];rfl]
  refine cD ⟨_,rfl,B.b,CB,dx,_,_,rfl,h1,Y.cl,Y.n_order,(dH _ _ _ _).2.2.2,.inl ⟨rfl,_,aO.of h5⟩,_,rfl,B.od,_,_,rfl,rfl,h5,cQ (by rw[List.length_map];omega),?_⟩
  have u6:∀b o,b≠B.od->H b=some o->upd H B.od (.lst (B.ord.map V.str++ [.str t])) b=some o:=fun b o n z=>by rw[aG n];exact z
  have o6:upd H B.od (.lst (B.ord.map V.str++ [.str t])) B.od=some (.lst ((B.ord++ [t]).map V.str)):=by rw[aJ,List.map_append];rfl
  have n6:∀b,upd H B.od (.lst (B.ord.map V.str++ [.str t])) b=none->H b=none/\b≠B.od:=fun b z=>by
   have:b≠B.od:=fun y=>by rw[y,aJ]at z;cases z
   rw[aG this]at z
   exact⟨z,this⟩
  generalize upd H B.od (.lst (B.ord.map V.str++ [.str t]))=H6 at u6 o6 n6|-
  have nl5:∀{b:Addr} {o:HO},H b=some o->(∀xs,o≠ .lst xs)->b≠B.od:=fun z n y=>by rw[y,h5]at z;exact n _ (Option.some.inj z).symm
  have a6:=u6 _ _ (nl5 ha (fun xs z=>by cases z)) ha
  have b6:=u6 _ _ (nl5 h1 (fun xs z=>by cases z)) h1
  have r6:=u6 _ _ (nl5 h3 (fun xs z=>by cases z)) h3
  have m6:=u6 _ _ (nl5 h4 (fun xs z=>by cases z)) h4
  have ty6:gX K H6 (.ref a) (.ref C):=by
   cases hty with
   |ins e1 e2 e3 e4 e5 e6=>exact .ins (u6 _ _ (nl5 e1 (fun xs z=>by cases z)) e1) e2 e3 e4 e5 e6
  refine⟨_,rfl,_,"list",.ref C,_,rfl,ty6,hk,_,rfl,bK ?_⟩
  refine⟨_,rfl,_,rfl,B.b,CB,dx,_,_,rfl,b6,Y.cl,Y.n_rules,(dH _ _ _ _).2.1,_,rfl,B.ru,_,rfl,hZ.k (k:=Sum.inr t) r6 (cQ (by omega)),?_⟩
  have u7:∀b o,b≠B.ru->H6 b=some o->upd H6 B.ru (.dK (aR B.rus (.inr t:aB) (.ref a))) b=some o:=fun b o n z=>by rw[aG n];exact z
  have r7:upd H6 B.ru (.dK (aR B.rus (.inr t:aB) (.ref a))) B.ru=some (.dK (aR B.rus (.inr t:aB) (.ref a))):=aJ
  have n7:∀b,upd H6 B.ru (.dK (aR B.rus (.inr t:aB) (.ref a))) b=none->H6 b=none:=fun b z=>by
   have:b≠B.ru:=fun y=>by rw[y,aJ]at z;cases z
   rw[aG this]at z
   exact z
  generalize upd H6 B.ru (.dK (aR B.rus (.inr t:aB) (.ref a)))=H7 at u7 r7 n7|-
  have b7:=u7 _ _ (fun z=>by rw[z,r6]at b6;cases b6) b6
  have m7:=u7 _ _ sp.um.symm m6
  refine fun m hm=> ?_
  have s8:=aD.new (o:=.dK []) hm
  refine⟨_,rfl,B.b,CB,dx,_,_,rfl,s8 _ _ b7,Y.cl,Y.n_memory,(dH _ _ _ _).2.2.1,_,rfl,B.me,_,rfl,hZ.k (k:=Sum.inr t) (s8 _ _ m7) (cQ (by omega)),?_⟩
  have nmm:m≠B.me:=fun z=>by rw[z,m7]at hm;cases hm
  have u9:∀b o,b≠B.me->H7 b=some o->upd (upd H7 m (.dK [])) B.me (.dK (aR B.mes (.inr t:aB) (.ref m))) b=some o:=fun b o n z=>by
   rw[aG n]
   exact s8 _ _ z
  have e9:upd (upd H7 m (.dK [])) B.me (.dK (aR B.mes (.inr t:aB) (.ref m))) B.me=some (.dK (aR B.mes (.inr t:aB) (.ref m))):=aJ
  have d9:upd (upd H7 m (.dK [])) B.me (.dK (aR B.mes (.inr t:aB) (.ref m))) m=some (.dK []):=by rw[aG nmm,aJ]
  generalize upd (upd H7 m (.dK [])) B.me (.dK (aR B.mes (.inr t:aB) (.ref m)))=H9 at u9 e9 d9|-
  have up:∀b o,b≠B.od->b≠B.ru->b≠B.me->H b=some o->H9 b=some o:=fun b o n1 n2 n3 z=>u9 _ _ n3 (u7 _ _ n2 (u6 _ _ n1 z))
  obtain⟨⟨dt,t1⟩,t2,t3⟩:=id tb
  have nd3:∀{b:Addr} {o:HO},H b=some o->(∀kvs,o≠ .dK kvs)->b≠B.ru/\b≠B.me:=fun z n=>⟨fun y=>by rw[y,h3]at z;exact n _ (Option.some.inj z).symm,fun y=>by rw[y,h4]at z;exact n _ (Option.some.inj z).symm⟩
  have i1:=nd3 h1 (fun kvs z=>by cases z)
  have i2:=nd3 t1 (fun kvs z=>by cases z)
  have i3:=nd3 t2 (fun kvs z=>by cases z)
  have i5:=nd3 h5 (fun kvs z=>by cases z)
  refine q H9 m (n6 _ (n7 _ hm)).1 ⟨⟨dx,up _ _ (nl5 h1 (fun xs z=>by cases z)) i1.1 i1.2 h1⟩,⟨⟨dt,up _ _ (nl5 t1 (fun xs z=>by cases z)) i2.1 i2.2 t1⟩,up _ _ sp.ro i3.1 i3.2 t2,up _ _ (nl5 t3 (fun xs z=>by cases z)) sp.eu sp.em t3⟩,?_,e9,?_⟩ d9 up
  ·exact u9 _ _ sp.um r7
  ·exact u9 _ _ i5.2 (u7 _ _ i5.1 o6)
end
noncomputable def oE (bd:Addr) (nm:Str) (m:Nat):List (Str×V):=[("boards",V.ref bd),("name",V.str nm),("size",V.int (m:Int))]
theorem sX(bd:Addr)(nm:Str)(m:Nat):(oE bd nm m).lookup ("boards":Str)=some (.ref bd)/\(oE bd nm m).lookup ("name":Str)=some (.str nm)/\(oE bd nm m).lookup ("size":Str)=some (.int (m:Int))/\(oE bd nm m).lookup ("take":Str)=none:=⟨rfl,rfl,rfl,rfl⟩
noncomputable def mR (b:Addr) (t:Str) (a:Addr):List (Str×V):=[("board",V.ref b),("column",V.str t),("after",V.ref a),("before",V.non)]
theorem zA(b:Addr)(t:Str)(a:Addr):(mR b t a).lookup ("board":Str)=some (.ref b)/\(mR b t a).lookup ("column":Str)=some (.str t)/\(mR b t a).lookup ("after":Str)=some (.ref a)/\(mR b t a).lookup ("take":Str)=none/\aK "before" .non (mR b t a)=mR b t a:=⟨rfl,rfl,rfl,rfl,rfl⟩
section
variable{P:Program}{w:World}{K:Fg}{mg:Str->Option Value}{base:Heap}
def a0B(C:Addr):Sp:=fun vs H Q _=>∃(p dx bd:Addr) (nm:Str) (m:Nat),vs= [.ref p,.ref bd,.str nm,.int (m:Int)] /\H p=some (.ins C dx [])/\∀H',bO p H H'->H' p=some (.ins C dx (oE bd nm m))->Q .non H'
theorem a7n:aV ["self","boards","name","size"] ["self","boards","name","size"] (aN a05):=⟨rfl,rfl,rfl,by decide+kernel,rfl,by decide+kernel,by decide+kernel⟩
theorem a6V(T:aW K mg){C:Addr}(Y:rL K mg C):dJ P w K mg base aC 1 C ["self","boards","name","size"] (a0B C):=by
 refine(Y.m_init.known a7n (fun _ _ _ _ _ _ us hl=>mI (fun _ _ _ _=>rfl) us hl) (fun vs H Q E h=> ?_) (fun f cdv A outer s H vs Q E hr h=> ?_)).init Y.mks Y.kc
 ·obtain⟨p,dx,bd,nm,m,rfl,_⟩:=h
  rfl
 ·obtain⟨p,dx,bd,nm,m,rfl,hp,q⟩:=h
  refine⟨_,(aH (cG (pv 0) (pv 1) rfl) (aH (cG (pv 0) (pv 2) rfl) (aI (cG (pv 0) (pv 3) rfl)))),?_⟩
  refine⟨_,rfl,_,rfl,p,C,dx,[],rfl,hp,Y.cl,Y.n_boards,(by show 0<1000;decide),?_⟩
  refine⟨_,rfl,_,rfl,p,C,dx,_,rfl,aJ,Y.cl,Y.n_name,(by show 1<1000;decide),?_⟩
  refine⟨_,rfl,_,rfl,p,C,dx,_,rfl,aJ,Y.cl,Y.n_size,(by show 2<1000;decide),?_⟩
  exact q _ (fun b o n z=>by rw[aG n,aG n,aG n];exact z) aJ
def xI(C:Addr):Sp:=fun vs H Q _=>∃(p dx b a:Addr) (t:Str),vs= [.ref p,.ref b,.str t,.ref a] /\H p=some (.ins C dx [])/\∀H',bO p H H'->H' p=some (.ins C dx (mR b t a))->Q .non H'
theorem a77:aV ["self","board","column","content"] ["self","board","column","content"] (aN a2e):=⟨rfl,rfl,rfl,by decide+kernel,rfl,by decide+kernel,by decide+kernel⟩
theorem a2V(T:aW K mg){C:Addr}(Y:nY K mg C):dJ P w K mg base aC 1 C ["self","board","column","content"] (xI C):=by
 refine(Y.m_init.known a77 (fun _ _ _ _ _ _ us hl=>mI (fun _ _ _ _=>rfl) us hl) (fun vs H Q E h=> ?_) (fun f cdv A outer s H vs Q E hr h=> ?_)).init Y.mks Y.kc
 ·obtain⟨p,dx,b,a,t,rfl,_⟩:=h
  rfl
 ·obtain⟨p,dx,b,a,t,rfl,hp,q⟩:=h
  refine⟨_,(aH (cG (pv 0) (pv 1) rfl) (aH (cG (pv 0) (pv 2) rfl) (aH (cG (pv 0) (pv 3) rfl) (aI (cG (pv 0) iQ rfl))))),?_⟩
  refine⟨_,rfl,_,rfl,p,C,dx,[],rfl,hp,Y.cl,Y.n_board,(by show 0<1000;decide),?_⟩
  refine⟨_,rfl,_,rfl,p,C,dx,_,rfl,aJ,Y.cl,Y.n_column,(by show 1<1000;decide),?_⟩
  refine⟨_,rfl,_,rfl,p,C,dx,_,rfl,aJ,Y.cl,Y.n_after,(by show 2<1000;decide),?_⟩
  refine⟨_,rfl,p,C,dx,_,rfl,aJ,Y.cl,Y.n_before,(by show 3<1000;decide),?_⟩
  exact q _ (fun b o n z=>by rw[aG n,aG n,aG n,aG n];exact z) aJ
def yI(C CB CT:Addr):Sp:=fun vs H Q _=>∃(p dx bd:Addr) (nm:Str) (m:Nat) (kb:List (aB×V)),vs= [.ref p] /\H p=some (.ins C dx (oE bd nm m))/\H bd=some (.dK kb)/\kb.length<100/\m<=30/\
 ∀H' b g r e ru me od,bS CB CT H' ⟨b,g,r,e,ru,me,od,dA 0 m,(m:Int),[],[],[],[]⟩ ->BM.sep ⟨b,g,r,e,ru,me,od,dA 0 m,(m:Int),[],[],[],[]⟩ ->(∀x∈ [b,g,r,e,ru,me,od],H x=none)->H' bd=some (.dK (aR kb (.inr nm:aB) (.ref b)))->(∀x o,x≠bd->H x=some o->H' x=some o)->Q .non H'
theorem a5P:aV ["self"] ["self"] (aN a3G):=⟨rfl,rfl,rfl,by decide+kernel,rfl,by decide+kernel,by decide+kernel⟩
theorem a5b(T:aW K mg){C CB CT:Addr}(Y:rL K mg C)(W:bU K mg CB)(Z:cI K mg CT):aL P w K mg base aC 7 C "take" ["self"] (yI C CB CT):=by
 have GI:dJ P w K mg base aC 5 CB ["self","many"] (a3u CB CT):=a8W T W Z
 refine Y.m_take.known a5P (fun _ _ _ _ _ _ us hl=>eD (fun _=>rfl) us hl) (fun vs H Q E h=> ?_) (fun f cdv A outer s H vs Q E hr h=> ?_)
 ·obtain⟨p,dx,bd,nm,m,kb,rfl,_⟩:=h
  rfl
 ·obtain⟨p,dx,bd,nm,m,kb,rfl,hp,hb,kl,hm,q⟩:=h
  refine⟨_,(aI (jQ (eB hr) (aT (pv 0) rfl) (aT (pv 0) rfl) (jC GI hr W.c aM (aA (aT (pv 0) rfl) aE)) rfl)),?_⟩
  refine⟨_,rfl,p,C,dx,_,_,rfl,hp,Y.cl,Y.n_size,(sX _ _ _).2.2.1,?_⟩
  intro b db hb0 hdb ne
  refine⟨b,db,m,rfl,aJ,hm,fun H1 g r e ru me od hB sp fr fm=>⟨rfl,?_⟩⟩
  have s1:aD H H1:=fun x o z=>fm x o (by rw[aG (aX z hb0),aG (aX z hdb)];exact z) (aX z hb0)
  have fr':∀x∈ [b,g,r,e,ru,me,od],H x=none:=fun x hx=>by
   rcases List.mem_cons.mp hx with rfl|hx
   ·exact hb0
   ·have:=fr x hx
    by_cases z:x=b
    ·rw[z];exact hb0
    ·by_cases z2:x=db
     ·rw[z2];exact hdb
     ·rw[aG z,aG z2]at this;exact this
  refine⟨_,rfl,p,C,dx,_,_,rfl,s1 _ _ hp,Y.cl,Y.n_boards,(sX _ _ _).1,_,rfl,p,C,dx,_,_,rfl,s1 _ _ hp,Y.cl,Y.n_name,(sX _ _ _).2.1,bd,_,rfl,hZ.k (k:=Sum.inr nm) (s1 _ _ hb) (cQ (by omega)),?_⟩
  have nb:∀{x:Addr},x∈ [b,g,r,e,ru,me,od] ->x≠bd:=fun hx z=>by rw[<- z,fr' _ hx]at hb;cases hb
  have u:∀x o,x≠bd->H1 x=some o->upd H1 bd (.dK (aR kb (.inr nm:aB) (.ref b))) x=some o:=fun x o n z=>by rw[aG n];exact z
  obtain⟨⟨d1,e1⟩,⟨⟨d2,e2⟩,e3,e4⟩,e5,e6,e7⟩:=hB
  exact q _ b g r e ru me od ⟨⟨d1,u _ _ (nb (by simp)) e1⟩,⟨⟨d2,u _ _ (nb (by simp)) e2⟩,u _ _ (nb (by simp)) e3,u _ _ (nb (by simp)) e4⟩,u _ _ (nb (by simp)) e5,u _ _ (nb (by simp)) e6,u _ _ (nb (by simp)) e7⟩ sp fr' aJ (fun x o n z=>u _ _ n (s1 _ _ z))
def sO(C CB CT:Addr)(sp:Sp):Sp:=fun vs H Q _=>∃(p dx a:Addr) (B:BM) (t:Str),vs= [.ref p] /\H p=some (.ins C dx (mR B.b t a))/\bS CB CT H B/\pQ B t/\sp [.ref B.b,.str t,.ref a] H (fun _ H'=>Q .non H') E0
theorem a4G:aV ["self"] ["self"] (aN a3l):=⟨rfl,rfl,rfl,by decide+kernel,rfl,by decide+kernel,by decide+kernel⟩
theorem a1D(T:aW K mg){C CB CT:Addr}(Y:nY K mg C)(W:bU K mg CB){sp:Sp}(G:aL P w K mg base aC 6 CB "set_column" ["self","column","content"] sp):aL P w K mg base aC 7 C "take" ["self"] (sO C CB CT sp):=by
 have G_content:aL P w K mg base aC 2 CB "content" ["self","column"] (qA CB CT):=a4z T W
 refine Y.m_take.known a4G (fun _ _ _ _ _ _ us hl=>eD (fun _=>rfl) us hl) (fun vs H Q E h=> ?_) (fun f cdv A outer s H vs Q E hr h=> ?_)
 ·obtain⟨p,dx,a,B,t,rfl,_⟩:=h
  rfl
 ·obtain⟨p,dx,a,B,t,rfl,hp,hB,hn,q⟩:=h
  refine⟨_,(aH (cG (pv 0) (bH (aT (pv 0) rfl) W.cl G_content (hr.mono (by decide)) aM (aA (aT (pv 0) rfl) aE)) rfl)
   (aI (cC (bH (aT (pv 0) rfl) W.cl G hr aM (aA (aT (pv 0) rfl) (aA (aT (pv 0) rfl) aE)))))),?_⟩
  obtain⟨c1,c2,c3,c4,c5⟩:=zA B.b t a
  obtain⟨dB,h1⟩:=hB.at_
  refine⟨_,rfl,p,C,dx,_,_,rfl,hp,Y.cl,Y.n_board,c1,B.b,dB,_,rfl,h1,nS,_,rfl,p,C,dx,_,_,rfl,hp,Y.cl,Y.n_column,c2,B,t,rfl,hB,hn,?_⟩
  refine⟨_,rfl,p,C,dx,_,rfl,hp,Y.cl,Y.n_before,(by show 4<1000;decide),?_⟩
  rw[c5,a4E hp]
  exact⟨_,rfl,p,C,dx,_,_,rfl,hp,Y.cl,Y.n_board,c1,B.b,dB,_,rfl,h1,nS,_,rfl,p,C,dx,_,_,rfl,hp,Y.cl,Y.n_column,c2,_,rfl,p,C,dx,_,_,rfl,hp,Y.cl,Y.n_after,c3,q⟩
end
def dP(bd ch fi:Addr):List (Str×V):=[("boards",V.ref bd),("changes",V.ref ch),("finder",V.ref fi)]
theorem kX(bd ch fi:Addr):(dP bd ch fi).lookup ("boards":Str)=some (.ref bd)/\(dP bd ch fi).lookup ("changes":Str)=some (.ref ch)/\(dP bd ch fi).lookup ("finder":Str)=some (.ref fi)/\∀fi',aK "finder" (.ref fi') (dP bd ch fi)=dP bd ch fi':=⟨rfl,rfl,rfl,fun _=>rfl⟩
theorem dC{bd ch fi:Addr}{m:Str}(h:(m==("boards":Str)||m==("changes":Str)||m==("finder":Str))=false:=by decide+kernel):(dP bd ch fi).lookup m=none:=by
 simp only[Bool.or_eq_false_iff]at h
 obtain⟨⟨h1,h2⟩,h3⟩:=h
 unfold dP
 simp[List.lookup,h1,h2,h3]
def fG(bd fd lk:Addr):List (Str×V):=[("boards",V.ref bd),("found",V.ref fd),("looked",V.ref lk)]
theorem jL(bd fd lk:Addr):(fG bd fd lk).lookup ("boards":Str)=some (.ref bd)/\(fG bd fd lk).lookup ("found":Str)=some (.ref fd)/\(fG bd fd lk).lookup ("looked":Str)=some (.ref lk):=⟨rfl,rfl,rfl⟩
theorem kF{bd fd lk:Addr}{m:Str}(h:(m==("boards":Str)||m==("found":Str)||m==("looked":Str))=false:=by decide+kernel):(fG bd fd lk).lookup m=none:=by
 simp only[Bool.or_eq_false_iff]at h
 obtain⟨⟨h1,h2⟩,h3⟩:=h
 unfold fG
 simp[List.lookup,h1,h2,h3]
section
variable{P:Program}{w:World}{K:Fg}{mg:Str->Option Value}{base:Heap}
def xP(C:Addr):Sp:=fun vs H Q _=>∃(p dx bd:Addr),vs= [.ref p,.ref bd] /\H p=some (.ins C dx [])/\
 ∀H' fd lk,H fd=none->H lk=none->fd≠lk->H' p=some (.ins C dx (fG bd fd lk))->H' fd=some (.dT [])->H' lk=some (.dT [])->bO p H H'->Q .non H'
theorem a4A:aV ["self","boards"] ["self","boards"] (aN a1O):=⟨rfl,rfl,rfl,by decide+kernel,rfl,by decide+kernel,by decide+kernel⟩
theorem a1V(T:aW K mg){C:Addr}(Y:eW K mg C):dJ P w K mg base aC 1 C ["self","boards"] (xP C):=by
 refine(Y.m_init.known a4A (fun _ _ _ _ _ _ us hl=>dF (fun _ _=>rfl) us hl) (fun vs H Q E h=> ?_) (fun f cdv A outer s H vs Q E hr h=> ?_)).init Y.mks Y.kc
 ·obtain⟨p,dx,bd,rfl,_⟩:=h
  rfl
 ·obtain⟨p,dx,bd,rfl,hp,q⟩:=h
  refine⟨_,(aH (cG (pv 0) (pv 1) rfl) (aH (cG (pv 0) qI rfl) (aI (cG (pv 0) qI rfl)))),?_⟩
  refine⟨_,rfl,_,rfl,p,C,dx,[],rfl,hp,Y.cl,Y.n_boards,(by show 0<1000;decide),?_⟩
  have u1:∀b o,b≠p->H b=some o->upd H p (.ins C dx (aK "boards" (.ref bd) [])) b=some o:=fun b o n z=>by rw[aG n];exact z
  have p1:upd H p (.ins C dx (aK "boards" (.ref bd) [])) p=some (.ins C dx (aK "boards" (.ref bd) [])):=aJ
  have n1:∀b,upd H p (.ins C dx (aK "boards" (.ref bd) [])) b=none->H b=none/\b≠p:=fun b z=>by
   have:b≠p:=fun y=>by rw[y,aJ]at z;cases z
   rw[aG this]at z
   exact⟨z,this⟩
  generalize upd H p (.ins C dx (aK "boards" (.ref bd) []))=H1 at u1 p1 n1|-
  refine fun fd hfd=> ?_
  have s2:=aD.new (o:=.dT []) hfd
  have h2:upd H1 fd (.dT []) fd=some (.dT []):=aJ
  have n2:∀b,upd H1 fd (.dT []) b=none->H1 b=none/\b≠fd:=fun b z=>by
   have:b≠fd:=fun y=>by rw[y,aJ]at z;cases z
   rw[aG this]at z
   exact⟨z,this⟩
  refine⟨_,rfl,p,C,dx,_,rfl,s2 _ _ p1,Y.cl,Y.n_found,(by show 1<1000;decide),?_⟩
  have hf:=n1 _ hfd
  generalize upd H1 fd (.dT [])=H2 at s2 h2 n2|-
  have u3:∀b o,b≠p->H2 b=some o->upd H2 p (.ins C dx (aK "found" (.ref fd) (aK "boards" (.ref bd) []))) b=some o:=fun b o n z=>by rw[aG n];exact z
  have p3:upd H2 p (.ins C dx (aK "found" (.ref fd) (aK "boards" (.ref bd) []))) p=some (.ins C dx (aK "found" (.ref fd) (aK "boards" (.ref bd) []))):=aJ
  have n3:∀b,upd H2 p (.ins C dx (aK "found" (.ref fd) (aK "boards" (.ref bd) []))) b=none->H2 b=none/\b≠p:=fun b z=>by
   have:b≠p:=fun y=>by rw[y,aJ]at z;cases z
   rw[aG this]at z
   exact⟨z,this⟩
  generalize upd H2 p (.ins C dx (aK "found" (.ref fd) (aK "boards" (.ref bd) [])))=H3 at u3 p3 n3|-
  refine fun lk hlk=> ?_
  have s4:=aD.new (o:=.dT []) hlk
  have h4:upd H3 lk (.dT []) lk=some (.dT []):=aJ
  refine⟨_,rfl,p,C,dx,_,rfl,s4 _ _ p3,Y.cl,Y.n_looked,(by show 2<1000;decide),?_⟩
  have k3:=n3 _ hlk
  have k2:=n2 _ k3.1
  have k1:=n1 _ k2.1
  generalize upd H3 lk (.dT [])=H4 at s4 h4|-
  exact q _ fd lk hf.1 k1.1 k2.2.symm aJ (by rw[aG hf.2];exact s4 _ _ (u3 _ _ hf.2 h2)) (by rw[aG k1.2];exact h4) (fun b o n z=>by rw[aG n];exact s4 _ _ (u3 _ _ n (s2 _ _ (u1 _ _ n z))))
def sK(CS CF C:Addr)(sp:Sp):Sp:=fun vs H Q _=>∃(s c bd ch fi dx dc:Addr) (cs:List V) (fs:List (Str×V)),vs= [.ref s,.ref c] /\H c=some (.ins C dc fs)/\fs.lookup ("take":Str)=none/\
 sp [.ref c] H (fun _ H1=>H1 s=some (.ins CS dx (dP bd ch fi))/\H1 ch=some (.lst cs)/\cs.length<900/\∀H2 fi' fd lk df,H1 fi'=none->H1 fd=none->H1 lk=none->fd≠lk->H2 s=some (.ins CS dx (dP bd ch fi'))->H2 ch=some (.lst (cs++ [.ref c]))->H2 fi'=some (.ins CF df (fG bd fd lk))->H2 fd=some (.dT [])->H2 lk=some (.dT [])->
  (∀x o,x≠s->x≠ch->H1 x=some o->H2 x=some o)->Q .non H2) E0
theorem a8g:aV ["self","change"] ["self","change"] (aN a3w):=⟨rfl,rfl,rfl,by decide+kernel,rfl,by decide+kernel,by decide+kernel⟩
def jY(sp:Sp):Prop:=∀vs H (Q Q':VK),(∀v H',Q v H'->Q' v H')->sp vs H Q E0->sp vs H Q' E0
theorem vU(T:aW K mg){CS CF C:Addr}(Y:cU K mg CS)(Z:eW K mg CF)(cl:cW K C){sp:Sp}(mono:jY sp)(G:aL P w K mg base aC 7 C "take" ["self"] sp):aL P w K mg base aC 8 CS "make" ["self","change"] (sK CS CF C sp):=by
 have GI:dJ P w K mg base aC 1 CF ["self","boards"] (xP CF):=a1V T Z
 refine Y.m_make.known a8g (fun _ _ _ _ _ _ us hl=>dF (fun _ _=>rfl) us hl) (fun vs H Q E h=> ?_) (fun f cdv A outer s H vs Q E hr h=> ?_)
 ·obtain⟨s',c,bd,ch,fi,dx,dc,cs,fs,rfl,_⟩:=h
  rfl
 ·obtain⟨s',c,bd,ch,fi,dx,dc,cs,fs,rfl,hc,hf,q⟩:=h
  refine⟨_,(aH (cC (eO (pv 1) cl G hr aM))
   (aH (cC (kH PySem.F.plainAttrs_list PySem.F.slot_list_append PySem.F.type_list_append kD (aT (pv 0) rfl) (aA (pv 1) aE)))
   (aI (cG (pv 0) (jC GI (hr.mono (by decide)) Z.c aM (aA (aT (pv 0) rfl) aE)) rfl)))),?_⟩
  refine⟨_,rfl,c,dc,fs,rfl,hc,hf,?_⟩
  refine mono _ _ _ _ (fun v0 H1 hQ=> ?_) q
  obtain⟨h1,h2,l9,qq⟩:=hQ
  obtain⟨a1,a2,a3,a4⟩:=kX bd ch fi
  refine⟨_,rfl,s',CS,dx,_,_,rfl,h1,Y.cl,Y.n_changes,a2,.inl ⟨rfl,_,aO.of h2⟩,_,rfl,ch,_,_,rfl,rfl,h2,cQ (by omega),?_⟩
  have nsc:s'≠ch:=fun z=>by rw[z,h2]at h1;cases h1
  have u2:∀x o,x≠ch->H1 x=some o->upd H1 ch (.lst (cs++ [.ref c])) x=some o:=fun x o n z=>by rw[aG n];exact z
  have c2:upd H1 ch (.lst (cs++ [.ref c])) ch=some (.lst (cs++ [.ref c])):=aJ
  have n2:∀b,upd H1 ch (.lst (cs++ [.ref c])) b=none->H1 b=none/\b≠ch:=fun b z=>by
   have:b≠ch:=fun y=>by rw[y,aJ]at z;cases z
   rw[aG this]at z
   exact⟨z,this⟩
  generalize upd H1 ch (.lst (cs++ [.ref c]))=H2 at u2 c2 n2|-
  have s2:=u2 _ _ nsc h1
  refine⟨_,rfl,s',CS,dx,_,_,rfl,s2,Y.cl,Y.n_boards,a1,?_⟩
  intro fi' df hfi hdf ne
  refine⟨fi',df,bd,rfl,aJ,fun H3 fd lk hfd hlk nfl g1 g2 g3 b3=>⟨rfl,?_⟩⟩
  have s3:aD H2 H3:=fun b o z=>b3 b o (aX z hfi) (by rw[aG (aX z hfi),aG (aX z hdf)];exact z)
  have fr:∀{x:Addr},upd (upd H2 df (.own fi')) fi' (.ins CF df []) x=none->H2 x=none:=fun{x} z=>by
   by_cases z1:x=fi'
   ·rw[z1];exact hfi
   ·by_cases z2:x=df
    ·rw[z2];exact hdf
    ·rw[aG z1,aG z2]at z;exact z
  refine⟨_,rfl,s',CS,dx,_,rfl,s3 _ _ s2,Y.cl,Y.n_finder,(by show 3<1000;decide),?_⟩
  rw[a4]
  have ns:∀{x:Addr},H2 x=none->x≠s':=fun z y=>by rw[y,s2]at z;cases z
  exact qq _ fi' fd lk df (n2 _ hfi).1 (n2 _ (fr hfd)).1 (n2 _ (fr hlk)).1 nfl aJ (by rw[aG nsc.symm];exact s3 _ _ c2) (by rw[aG (ns hfi)];exact g1) (by rw[aG (ns (fr hfd))];exact g2) (by rw[aG (ns (fr hlk))];exact g3) (fun x o n1 n2' z=>by rw[aG n1];exact s3 _ _ (u2 _ _ n2' z))
def qP(CS CB CT:Addr):Sp:=fun vs H Q _=>∃(s bd ch fi dx:Addr) (kb:List (aB×V)) (nm:Str) (v:V),vs= [.ref s,.str nm] /\H s=some (.ins CS dx (dP bd ch fi))/\H bd=some (.dK kb)/\Nl nm/\aQ kb (.inr nm:aB)=some v/\∀H',aD H H'->Q v H'
theorem a6H:aV ["self","table"] ["self","table"] (aN a0j):=⟨rfl,rfl,rfl,by decide+kernel,rfl,by decide+kernel,by decide+kernel⟩
theorem tU(T:aW K mg){CS CB CT:Addr}(Y:cU K mg CS):aL P w K mg base aC 2 CS "board_of" ["self","table"] (qP CS CB CT):=by
 have G_is_name:bI P w K mg base aC 1 "is_name" ["thing"] (lM K):=mC T
 refine Y.m_board_of.known a6H (fun _ _ _ _ _ _ us hl=>dF (fun _ _=>rfl) us hl) (fun vs H Q E h=> ?_) (fun f cdv A outer s H vs Q E hr h=> ?_)
 ·obtain⟨s',bd,ch,fi,dx,kb,nm,v,rfl,_⟩:=h
  rfl
 ·obtain⟨s',bd,ch,fi,dx,kb,nm,v,rfl,h1,h2,ht,hv,q⟩:=h
  refine⟨_,(aH (bM (PW.pt (gB (dI (cM (bQ G_is_name (hr.mono (by decide)) aM (aA (pv 1) aE)) (fun _=>rfl))) (gY (jM (lN (eB hr) (pv 1) (aT (pv 0) rfl)))))) (aI cB) bP)
   (aI (bA (fY (eB hr) (aT (pv 0) rfl) (pv 1) (fun _ _=>rfl))))),?_⟩
  have h8:=ht.2.1
  refine⟨_,rfl,_,.str nm,rfl,.str nm,lH (by omega),fun H' s9=>⟨_,rfl,?_⟩⟩
  rw[show fE (.str nm)=true from ht.name]
  refine bK ⟨_,rfl,_,rfl,s',CS,dx,_,_,rfl,s9 _ _ h1,Y.cl,Y.n_boards,(kX _ _ _).1,bd,_,rfl,cA.k (k:=Sum.inr nm) (s9 _ _ h2),_,rfl,?_⟩
  rw[hv]
  exact bK ⟨_,rfl,s',CS,dx,_,_,rfl,s9 _ _ h1,Y.cl,Y.n_boards,(kX _ _ _).1,_,rfl,bd,v,rfl,hv▸cA.k (k:=Sum.inr nm) (s9 _ _ h2),q _ s9⟩
def xA(CS CB CT:Addr):Sp:=fun vs H Q _=>∃(s bd ch fi dx:Addr) (kb:List (aB×V)) (nm t:Str) (B:BM),vs= [.ref s,.str nm,.str t] /\H s=some (.ins CS dx (dP bd ch fi))/\H bd=some (.dK kb)/\Nl nm/\aQ kb (.inr nm:aB)=some (.ref B.b)/\bS CB CT H B/\Nl t/\t∈B.ord/\∀H',aD H H'->Q (.ref B.b) H'
theorem a1d:aV ["self","table","column","board"] ["self","table","column"] (aN zP):=⟨rfl,rfl,rfl,by decide+kernel,rfl,by decide+kernel,by decide+kernel⟩
theorem a0p(T:aW K mg){CS CB CT:Addr}(Y:cU K mg CS)(W:bU K mg CB):aL P w K mg base aC 3 CS "board_with" ["self","table","column"] (xA CS CB CT):=by
 have G_of:aL P w K mg base aC 2 CS "board_of" ["self","table"] (qP CS CB CT):=tU T Y
 have G_has:aL P w K mg base aC 2 CB "has_column" ["self","column"] (wS CB CT):=a17 T W
 refine Y.m_board_with.known a1d (fun _ _ _ _ _ _ us hl=>eM (fun _ _ _=>rfl) us hl) (fun vs H Q E h=> ?_) (fun f cdv A outer s H vs Q E hr h=> ?_)
 ·obtain⟨s',bd,ch,fi,dx,kb,nm,t,B,rfl,_⟩:=h
  rfl
 ·obtain⟨s',bd,ch,fi,dx,kb,nm,t,B,rfl,h1,h2,hn,hv,hB,ht,ho,q⟩:=h
  refine⟨_,(aH (bR (i:=3) a1d.nd rfl (Or.inl rfl) (bH (pv 0) Y.cl G_of hr aM (aA (pv 1) aE)))
   (aH (bM (dI (cM (bH (pv 3) W.cl G_has hr aM (aA (pv 2) aE)) (fun _=>rfl))) (aI cB) bP)
   (aI (bA (pv 3))))),?_⟩
  refine⟨_,rfl,s',dx,_,rfl,h1,dC,_,rfl,s',bd,ch,fi,dx,kb,nm,_,rfl,h1,h2,hn,hv,fun H1 s1=> ?_⟩
  have hB1:=hB.same s1
  obtain⟨dB,b1⟩:=hB1.at_
  refine⟨_,rfl,B.b,dB,_,rfl,b1,nS,_,rfl,B,t,rfl,hB1,ht,fun H2 s2=>⟨_,rfl,?_⟩⟩
  rw[decide_eq_true ho]
  exact bK ⟨_,rfl,q _ (s1.trans s2)⟩
def yF(CS CB CT:Addr):Sp:=fun vs H Q _=>∃(s bd ch fi dx:Addr) (kb:List (aB×V)) (nm t:Str) (B:BM),vs= [.ref s,.str nm,.str t] /\H s=some (.ins CS dx (dP bd ch fi))/\H bd=some (.dK kb)/\Nl nm/\aQ kb (.inr nm:aB)=some (.ref B.b)/\bS CB CT H B/\Nl t/\B.ord.length<8/\∀H',aD H H'->Q (.ref B.b) H'
theorem a1n:aV ["self","table","column","board"] ["self","table","column"] (aN a2o):=⟨rfl,rfl,rfl,by decide+kernel,rfl,by decide+kernel,by decide+kernel⟩
theorem a2J(T:aW K mg){CS CB CT:Addr}(Y:cU K mg CS)(W:bU K mg CB):aL P w K mg base aC 3 CS "board_for" ["self","table","column"] (yF CS CB CT):=by
 have G_of:aL P w K mg base aC 2 CS "board_of" ["self","table"] (qP CS CB CT):=tU T Y
 have G_is_name:bI P w K mg base aC 1 "is_name" ["thing"] (lM K):=mC T
 refine Y.m_board_for.known a1n (fun _ _ _ _ _ _ us hl=>eM (fun _ _ _=>rfl) us hl) (fun vs H Q E h=> ?_) (fun f cdv A outer s H vs Q E hr h=> ?_)
 ·obtain⟨s',bd,ch,fi,dx,kb,nm,t,B,rfl,_⟩:=h
  rfl
 ·obtain⟨s',bd,ch,fi,dx,kb,nm,t,B,rfl,h1,h2,hn,hv,hB,ht,ho,q⟩:=h
  refine⟨_,(aH (bR (i:=3) a1n.nd rfl (Or.inl rfl) (bH (pv 0) Y.cl G_of hr aM (aA (pv 1) aE)))
   (aH (bM (dI (cM (bQ G_is_name (hr.mono (by decide)) aM (aA (pv 2) aE)) (fun _=>rfl))) (aI cB) bP)
   (aH (bM (PW.pt (oH (cE rS (pv 2) (aT (pv 3) rfl) (by with_unfolding_all rfl)) (pW (cE wU (cT iL rfl T.len gI (aA (aT (pv 3) rfl) aE)) (oC T.g_MOST_COLUMNS) (cH _))))) (aI cB) bP)
   (aI (bA (pv 3)))))),?_⟩
  refine⟨_,rfl,s',dx,_,rfl,h1,dC,_,rfl,s',bd,ch,fi,dx,kb,nm,_,rfl,h1,h2,hn,hv,fun H1 s1=> ?_⟩
  have h8:=ht.2.1
  refine⟨_,rfl,_,.str t,rfl,.str t,lH (by omega),fun H2 s2=>⟨_,rfl,?_⟩⟩
  rw[show fE (.str t)=true from ht.name]
  obtain⟨⟨dB,b1⟩,_,_,_,o1⟩:=(hB.same s1).same s2
  refine bK ⟨_,rfl,_,rfl,B.b,CB,dB,_,_,rfl,b1,W.cl,W.n_order,(dH _ _ _ _).2.2.2,B.od,_,rfl,.inl (aO.of o1),rfl,lU _,_,rfl,?_⟩
  have fin:Q (.ref B.b) H2:=q _ (s1.trans s2)
  refine dL (fun _=> ?_) (fun _=> ?_)
  ·refine⟨_,rfl,B.b,CB,dB,_,_,rfl,b1,W.cl,W.n_order,(dH _ _ _ _).2.2.2,_,_,rfl,.inl ⟨_,aO.of o1,rfl⟩,_,_,rfl,rfl,_,rfl,?_⟩
   rw[List.length_map,decide_eq_false (show¬(B.ord.length:Int)>=8 by omega)]
   exact bK ⟨_,rfl,fin⟩
  ·exact bK ⟨_,rfl,fin⟩
def iU(P:Program)(w:World)(K:Fg)(mg:Str->Option Value)(base:Heap)(k:Nat)(m qual:Str)(st:Stmt)(ps:List Str)(sp:Sp):Prop:=∀f fd,iZ K m qual st f fd->eX P w K mg base aC k f fd ps sp
theorem zD{m qual:Str}{st:Stmt}{N ps:List Str}{k:Nat}{sp:Sp}(S:aV N ps (aN st))(len:∀vs H Q E,sp vs H Q E->vs.length=ps.length)
 (hbody:∀(f:Addr) (cdv:Value) (A:Around) (outer:List Env) (s:Shared) (H:Hp) (vs:List V) (Q:VK) (E:XK),bT k (A.deeper (PyProof.Rows.envOfC qual (aN st) s.heap.objs.size f cdv))->sp vs H Q E->
  ∃t,eE (cY aC P w K mg base N qual (aN st) f cdv A outer s H E).nox (eG st) t/\t {nx:=fun _ H'=>Q .non H',rt:=Q} (start N vs) H):iU P w K mg base (k+ 1) m qual st ps sp:=fun f fd F=>
 F.ok S len fun cdv A outer s H vs Q E hr h=>hbody f cdv A outer s H vs Q E hr h
theorem iU.le{m qual:Str}{st:Stmt}{ps:List Str}{j k:Nat}{sp:Sp}(G:iU P w K mg base j m qual st ps sp)(h:j<=k):iU P w K mg base k m qual st ps sp:=fun f fd F=>(G f fd F).mono h
theorem iU.or{m qual:Str}{st:Stmt}{ps:List Str}{k:Nat}{sp sp':Sp}(G:iU P w K mg base k m qual st ps sp)(G':iU P w K mg base k m qual st ps sp'):iU P w K mg base k m qual st ps (fun vs H Q E=>sp vs H Q E\/ sp' vs H Q E):=fun f fd F=>
 ⟨fun vs H Q E h=>h.elim ((G f fd F).len vs H Q E) ((G' f fd F).len vs H Q E),fun A outer s H args us vs Q E hr he hb hv h=>h.elim (fun h=>(G f fd F).run A outer s H args us vs Q E hr he hb hv h) fun h=>(G' f fd F).run A outer s H args us vs Q E hr he hb hv h⟩
theorem iU.known{C:Addr}{m qual:Str}{st:Stmt}{ps:List Str}{k:Nat}{sp:Sp}(G:iU P w K mg base k m qual st ps sp)(D:aZ K C m qual st)
 (hb:∀(kV doc pm:Value) (an:Option Addr) (cdv ct:Value) (us:List Value),us.length=ps.length->bindArgs (PySem.W.fnOf m qual (jE st) (eG st) (aN st) .none kV doc pm an cdv ct) ⟨us,[]⟩=pure (ps.zip us)):aL P w K mg base aC k C m ps sp:=by
 obtain⟨f,fd,F,ha,hi⟩:=D.ex
 exact⟨f,fd,G f fd F,⟨ha,hi,F.kp⟩,F.binds hb⟩
end
abbrev Ky:=List aB
def aU(t c:Str)(p:Nat):Ky:=[.inr t,.inr c,.inl (p:Int)]
structure dE(CF CB CT:Addr)(H:Hp)(fi bd fd lk:Addr)(nm:Str)(B:BM)(kf:List (Ky×V)):Prop where
 fin:∃dx,H fi=some (.ins CF dx (fG bd fd lk))
 bds:∃kb,H bd=some (.dK kb)/\aQ kb (.inr nm:aB)=some (.ref B.b)
 B:bS CB CT H B
 fnd:H fd=some (.dT kf)
 len:kf.length<900
theorem dE.same{CF CB CT:Addr}{H H':Hp}{fi bd fd lk:Addr}{nm:Str}{B:BM}{kf:List (Ky×V)}(h:dE CF CB CT H fi bd fd lk nm B kf)(s:aD H H'):dE CF CB CT H' fi bd fd lk nm B kf:=
 ⟨let ⟨dx,e⟩:=h.fin;⟨dx,s _ _ e⟩,let ⟨kb,e1,e2⟩:=h.bds;⟨kb,s _ _ e1,e2⟩,h.B.same s,s _ _ h.fnd,h.len⟩
theorem dE.put{CF CB CT:Addr}{H H':Hp}{fi bd fd lk:Addr}{nm:Str}{B:BM}{kf kf':List (Ky×V)}(h:dE CF CB CT H fi bd fd lk nm B kf)(s:bO fd H H')(e:H' fd=some (.dT kf'))(l:kf'.length<900):dE CF CB CT H' fi bd fd lk nm B kf':=by
 have u:∀{x:Addr} {o:HO},H x=some o->(∀kvs,o≠ .dT kvs)->H' x=some o:=fun z n=>s _ _ (fun y=>by rw[y,h.fnd]at z;exact n _ (Option.some.inj z).symm) z
 obtain⟨dx,e1⟩:=h.fin
 obtain⟨kb,e2,e3⟩:=h.bds
 obtain⟨⟨d1,b1⟩,⟨⟨d2,b2⟩,b3,b4⟩,b5,b6,b7⟩:=h.B
 exact⟨⟨dx,u e1 (fun _ z=>by cases z)⟩,⟨kb,u e2 (fun _ z=>by cases z),e3⟩,⟨⟨d1,u b1 (fun _ z=>by cases z)⟩,⟨⟨d2,u b2 (fun _ z=>by cases z)⟩,u b3 (fun _ z=>by cases z),u b4 (fun _ z=>by cases z)⟩,u b5 (fun _ z=>by cases z),u b6 (fun _ z=>by cases z),u b7 (fun _ z=>by cases z)⟩,e,l⟩
section
variable{P:Program}{w:World}{K:Fg}{mg:Str->Option Value}{base:Heap}
def zK(CF CB CT:Addr):Sp:=fun vs H Q _=>∃(fi bd fd lk ce l:Addr) (nm c:Str) (p:Nat) (B:BM) (kf:List (Ky×V)) (ys:List V) (v:V),vs= [.ref fi,.ref ce] /\dE CF CB CT H fi bd fd lk nm B kf/\H ce=some (.tup ((aU nm c p).map kV))/\aQ B.rus (.inr c:aB)=none/\Nl c/\aQ B.kvs (.inr c:aB)=some (.ref l)/\H l=some (.lst ys)/\p<B.xs.length/\cO ys (p:Int)=some v/\(∀v',aQ kf (aU nm c p)=some v'->v'=v)/\kf.length<899/\
 ∀H' kf',(kf'=kf\/ kf'=aR kf (aU nm c p) v)->aQ kf' (aU nm c p)=some v->dE CF CB CT H' fi bd fd lk nm B kf'->bO fd H H'->Q (.bl true) H'
theorem tW:aV ["self","cell","board"] ["self","cell"] (aN a2h):=⟨rfl,rfl,rfl,by decide+kernel,rfl,by decide+kernel,by decide+kernel⟩
theorem a1y(T:aW K mg){CF CB CT:Addr}(Y:eW K mg CF)(W:bU K mg CB)(Z:cI K mg CT):aL P w K mg base aC 4 CF "knows" ["self","cell"] (zK CF CB CT):=by
 have G_at:aL P w K mg base aC 3 CT "at" ["self","column","place"] (spAt CT):=a8D T Z
 refine Y.m_knows.known tW (fun _ _ _ _ _ _ us hl=>dF (fun _ _=>rfl) us hl) (fun vs H Q E h=> ?_) (fun f cdv A outer s H vs Q E hr h=> ?_)
 ·obtain⟨fi,bd,fd,lk,ce,l,nm,c,p,B,kf,ys,v,rfl,_⟩:=h
  rfl
 ·obtain⟨fi,bd,fd,lk,ce,l,nm,c,p,B,kf,ys,v,rfl,hF,hce,hru,hc,hv,hl,hp,ha,hcon,kl,q⟩:=h
  have hu:=eB hr
  refine⟨_,(aH (bR (i:=2) tW.nd rfl (Or.inl rfl) (fY hu (aT (pv 0) rfl) (cJ fB (pv 1) bJ (fun _ _=>rfl)) (fun _ _=>rfl)))
   (aH (bM (PW.pt (oH (jM (lN hu (pv 1) (aT (pv 0) rfl))) (pW (jM (lN hu (cJ fB (pv 1) bJ (fun _ _=>rfl)) (aT (pv 2) rfl)))))) (aI (jQ hu (aT (pv 0) rfl) (pv 1) (bH (aT (pv 2) rfl) Z.cl G_at hr aM (aA (cJ fB (pv 1) bJ (fun _ _=>rfl)) (aA (cJ fB (pv 1) bJ (fun _ _=>rfl)) aE))) rfl)) bP)
   (aI (bA (xZ (oT hu (pv 1) (aT (pv 0) rfl)) (by with_unfolding_all rfl)))))),?_⟩
  obtain⟨dx,e1⟩:=hF.fin
  obtain⟨kb,e2,e3⟩:=hF.bds
  obtain⟨⟨d1,b1⟩,tb,b5,_,_⟩:=id hF.B
  obtain⟨⟨d2,b2⟩,b3,b4⟩:=id tb
  have e4:=hF.fnd
  obtain⟨a1,a2,a3⟩:=jL bd fd lk
  refine⟨_,rfl,fi,CF,dx,_,_,rfl,e1,Y.cl,Y.n_boards,a1,_,rfl,ce,_,_,_,rfl,rfl,bW.of hce,rfl,bd,_,rfl,e3▸cA.k (k:=Sum.inr nm) e2,?_⟩
  have dgf:∀{H':Hp} {kf':List (Ky×V)},H' fd=some (.dT kf')->H' ce=some (.tup ((aU nm c p).map kV))->cA H' fd (.ref ce) (aQ kf' (aU nm c p)):=fun e g=> .inr ⟨_,aU nm c p,ce,.inl e,rfl,g,rfl⟩
  refine⟨_,rfl,_,rfl,fi,CF,dx,_,_,rfl,e1,Y.cl,Y.n_found,a2,fd,_,rfl,dgf e4 hce,_,rfl,?_⟩
  cases hk:aQ kf (aU nm c p)with
  |some v'=>
   obtain rfl:=hcon v' hk
   refine bK (bK ⟨_,rfl,_,rfl,fi,CF,dx,_,_,rfl,e1,Y.cl,Y.n_found,a2,fd,_,rfl,dgf e4 hce,?_⟩)
   rw[hk]
   exact q H kf (.inl rfl) hk hF (bO.of (aD.refl H))
  |none=>
   refine cD ⟨_,rfl,ce,_,_,_,rfl,rfl,bW.of hce,rfl,_,rfl,B.b,CB,d1,_,_,rfl,b1,W.cl,W.n_rules,(dH _ _ _ _).2.1,B.ru,_,rfl,cA.k (k:=Sum.inr c) b5,_,rfl,?_⟩
   rw[hru]
   refine cD ⟨_,rfl,B.b,CB,d1,_,_,rfl,b1,W.cl,W.n_given,(dH _ _ _ _).1,B.g,d2,_,rfl,b2,jN,_,rfl,ce,_,_,_,rfl,rfl,bW.of hce,rfl,_,rfl,ce,_,_,_,rfl,rfl,bW.of hce,rfl,B.g,B.r,B.e,B.xs,B.n,B.kvs,c,l,ys,p,v,rfl,tb,hc,hv,hl,hp,ha,fun H1 s1=> ?_⟩
   have F1:=hF.same s1
   have c1:=s1 _ _ hce
   have nce:ce≠fd:=fun z=>by rw[z,e4]at hce;cases hce
   refine⟨_,rfl,fi,CF,dx,_,_,rfl,s1 _ _ e1,Y.cl,Y.n_found,a2,_,rfl,fd,_,rfl,.inr ⟨kf,aU nm c p,ce,F1.fnd,rfl,c1,cQ (by omega),rfl⟩,?_⟩
   have vp:aQ (aR kf (aU nm c p) v) (aU nm c p)=some v:=by rw[fT,if_pos rfl]
   have lp:=vE kf (aU nm c p) v
   have b2':bO fd H1 (upd H1 fd (.dT (aR kf (aU nm c p) v))):=fun b o n z=>by rw[aG n];exact z
   have F2:=F1.put b2' aJ (by omega)
   have c2:=b2' _ _ nce c1
   have f2:=F2.fnd
   generalize upd H1 fd (.dT (aR kf (aU nm c p) v))=H2 at b2' F2 c2 f2|-
   obtain⟨dx2,e12⟩:=F2.fin
   refine⟨_,rfl,_,rfl,fi,CF,dx2,_,_,rfl,e12,Y.cl,Y.n_found,a2,fd,_,rfl,dgf f2 c2,?_⟩
   rw[vp]
   exact q H2 _ (.inr rfl) vp F2 ((bO.of s1).trans b2')
def wX(CF CB CT:Addr):Sp:=fun vs H Q _=>∃(fi bd fd lk ce:Addr) (nm c:Str) (p:Nat) (B:BM) (kf:List (Ky×V)) (r:V),vs= [.ref fi,.ref ce] /\dE CF CB CT H fi bd fd lk nm B kf/\H ce=some (.tup ((aU nm c p).map kV))/\aQ B.rus (.inr c:aB)=some r/\Q (.bl (aQ kf (aU nm c p)).isSome) H
theorem a0W(T:aW K mg){CF CB CT:Addr}(Y:eW K mg CF)(W:bU K mg CB):aL P w K mg base aC 4 CF "knows" ["self","cell"] (wX CF CB CT):=by
 refine Y.m_knows.known tW (fun _ _ _ _ _ _ us hl=>dF (fun _ _=>rfl) us hl) (fun vs H Q E h=> ?_) (fun f cdv A outer s H vs Q E hr h=> ?_)
 ·obtain⟨fi,bd,fd,lk,ce,nm,c,p,B,kf,r,rfl,_⟩:=h
  rfl
 ·obtain⟨fi,bd,fd,lk,ce,nm,c,p,B,kf,r,rfl,hF,hce,hru,q⟩:=h
  have hu:=eB hr
  refine⟨_,(aH (bR (i:=2) tW.nd rfl (Or.inl rfl) (fY hu (aT (pv 0) rfl) (cJ fB (pv 1) bJ (fun _ _=>rfl)) (fun _ _=>rfl)))
   (aH (bM (PW.pt (oH (jM (lN hu (pv 1) (aT (pv 0) rfl))) (pW (jM (lN hu (cJ fB (pv 1) bJ (fun _ _=>rfl)) (aT (pv 2) rfl)))))) (aI cB) bP)
   (aI (bA (xZ (oT hu (pv 1) (aT (pv 0) rfl)) (by with_unfolding_all rfl)))))),?_⟩
  obtain⟨dx,e1⟩:=hF.fin
  obtain⟨kb,e2,e3⟩:=hF.bds
  obtain⟨⟨d1,b1⟩,tb,b5,_,_⟩:=id hF.B
  have e4:=hF.fnd
  obtain⟨a1,a2,a3⟩:=jL bd fd lk
  refine⟨_,rfl,fi,CF,dx,_,_,rfl,e1,Y.cl,Y.n_boards,a1,_,rfl,ce,_,_,_,rfl,rfl,bW.of hce,rfl,bd,_,rfl,e3▸cA.k (k:=Sum.inr nm) e2,?_⟩
  have dgf:cA H fd (.ref ce) (aQ kf (aU nm c p)):=.inr ⟨_,aU nm c p,ce,.inl e4,rfl,hce,rfl⟩
  refine⟨_,rfl,_,rfl,fi,CF,dx,_,_,rfl,e1,Y.cl,Y.n_found,a2,fd,_,rfl,dgf,_,rfl,?_⟩
  refine dL (fun _=> ?_) (fun _=> ?_)
  ·refine⟨_,rfl,ce,_,_,_,rfl,rfl,bW.of hce,rfl,_,rfl,B.b,CB,d1,_,_,rfl,b1,W.cl,W.n_rules,(dH _ _ _ _).2.1,B.ru,_,rfl,cA.k (k:=Sum.inr c) b5,_,rfl,?_⟩
   rw[hru]
   exact bK ⟨_,rfl,_,rfl,fi,CF,dx,_,_,rfl,e1,Y.cl,Y.n_found,a2,fd,_,rfl,dgf,q⟩
  ·exact bK ⟨_,rfl,_,rfl,fi,CF,dx,_,_,rfl,e1,Y.cl,Y.n_found,a2,fd,_,rfl,dgf,q⟩
def lW(fi tl:Addr)(u:V):List (Str×V):=[("finder",V.ref fi),("looked",V.ref tl),("lacking",u)]
theorem wE(fi tl:Addr)(u:V):(lW fi tl u).lookup ("finder":Str)=some (.ref fi)/\(lW fi tl u).lookup ("looked":Str)=some (.ref tl)/\(lW fi tl u).lookup ("lacking":Str)=some u/\(lW fi tl u).lookup ("look":Str)=none:=⟨rfl,rfl,rfl,rfl⟩
def a2U(C:Addr):Sp:=fun vs H Q _=>∃(p dx fi:Addr),vs= [.ref p,.ref fi] /\H p=some (.ins C dx [])/\
 ∀H' tl,H tl=none->H' p=some (.ins C dx (lW fi tl .non))->H' tl=some (.dT [])->bO p H H'->Q .non H'
theorem a5N:aV ["self","finder"] ["self","finder"] (aN a1p):=⟨rfl,rfl,rfl,by decide+kernel,rfl,by decide+kernel,by decide+kernel⟩
theorem a8Q(T:aW K mg){C:Addr}(Y:lF K mg C):dJ P w K mg base aC 1 C ["self","finder"] (a2U C):=by
 refine(Y.m_init.known a5N (fun _ _ _ _ _ _ us hl=>dF (fun _ _=>rfl) us hl) (fun vs H Q E h=> ?_) (fun f cdv A outer s H vs Q E hr h=> ?_)).init Y.mks Y.kc
 ·obtain⟨p,dx,fi,rfl,_⟩:=h
  rfl
 ·obtain⟨p,dx,fi,rfl,hp,q⟩:=h
  refine⟨_,(aH (cG (pv 0) (pv 1) rfl) (aH (cG (pv 0) qI rfl) (aI (cG (pv 0) iQ rfl)))),?_⟩
  refine⟨_,rfl,_,rfl,p,C,dx,[],rfl,hp,Y.cl,Y.n_finder,(by show 0<1000;decide),?_⟩
  have u1:∀b o,b≠p->H b=some o->upd H p (.ins C dx (aK "finder" (.ref fi) [])) b=some o:=fun b o n z=>by rw[aG n];exact z
  have p1:upd H p (.ins C dx (aK "finder" (.ref fi) [])) p=some (.ins C dx (aK "finder" (.ref fi) [])):=aJ
  have n1:∀b,upd H p (.ins C dx (aK "finder" (.ref fi) [])) b=none->H b=none/\b≠p:=fun b z=>by
   have:b≠p:=fun y=>by rw[y,aJ]at z;cases z
   rw[aG this]at z
   exact⟨z,this⟩
  generalize upd H p (.ins C dx (aK "finder" (.ref fi) []))=H1 at u1 p1 n1|-
  refine fun tl htl=> ?_
  have s2:=aD.new (o:=.dT []) htl
  have h2:upd H1 tl (.dT []) tl=some (.dT []):=aJ
  refine⟨_,rfl,p,C,dx,_,rfl,s2 _ _ p1,Y.cl,Y.n_looked,(by show 1<1000;decide),?_⟩
  have ht:=n1 _ htl
  generalize upd H1 tl (.dT [])=H2 at s2 h2|-
  refine⟨_,rfl,p,C,dx,_,rfl,aJ,Y.cl,Y.n_lacking,(by show 2<1000;decide),?_⟩
  exact q _ tl ht.1 aJ (by rw[aG ht.2,aG ht.2];exact h2) (fun b o n z=>by rw[aG n,aG n];exact s2 _ _ (u1 _ _ n z))
def a1Q(CR CF CB CT:Addr):Sp:=fun vs H Q _=>∃(tr tl fi bd fd lk l dx:Addr) (nm c:Str) (p:Nat) (B:BM) (kf kt:List (Ky×V)) (ys:List V) (v:V),vs= [.ref tr,.str nm,.str c,.int (p:Int)] /\H tr=some (.ins CR dx (lW fi tl .non))/\H tl=some (.dT kt)/\kt.length<900/\tl≠fd/\dE CF CB CT H fi bd fd lk nm B kf/\aQ B.rus (.inr c:aB)=none/\Nl c/\aQ B.kvs (.inr c:aB)=some (.ref l)/\H l=some (.lst ys)/\p<B.xs.length/\cO ys (p:Int)=some v/\(∀v',aQ kf (aU nm c p)=some v'->v'=v)/\kf.length<899/\
 ∀H' kf',(kf'=kf\/ kf'=aR kf (aU nm c p) v)->dE CF CB CT H' fi bd fd lk nm B kf'->H' tl=some (.dT (aR kt (aU nm c p) (.bl true)))->(∀x o,x≠fd->x≠tl->H x=some o->H' x=some o)->Q v H'
theorem a15:aV ["self","table","column","place","cell"] ["self","table","column","place"] (aN a3n):=⟨rfl,rfl,rfl,by decide+kernel,rfl,by decide+kernel,by decide+kernel⟩
theorem a6w(T:aW K mg){CR CF CB CT:Addr}(X:lF K mg CR)(Y:eW K mg CF)(W:bU K mg CB)(Z:cI K mg CT):aL P w K mg base aC 5 CR "look" ["self","table","column","place"] (a1Q CR CF CB CT):=by
 have G_knows:aL P w K mg base aC 4 CF "knows" ["self","cell"] (zK CF CB CT):=a1y T Y W Z
 refine X.m_look.known a15 (fun _ _ _ _ _ _ us hl=>mI (fun _ _ _ _=>rfl) us hl) (fun vs H Q E h=> ?_) (fun f cdv A outer s H vs Q E hr h=> ?_)
 ·obtain⟨tr,tl,fi,bd,fd,lk,l,dx,nm,c,p,B,kf,kt,ys,v,rfl,_⟩:=h
  rfl
 ·obtain⟨tr,tl,fi,bd,fd,lk,l,dx,nm,c,p,B,kf,kt,ys,v,rfl,htr,htl,ktl,ntf,hF,hru,hc,hv,hl,hp,ha,hcon,kl,q⟩:=h
  have hu:=eB hr
  refine⟨_,(aH (bR (i:=4) a15.nd rfl (Or.inl rfl) (fA (aA (pv 1) (aA (pv 2) (aA (pv 3) aE)))))
   (aH (jQ hu (aT (pv 0) rfl) (pv 4) lJ rfl)
   (aH (bM (PW.pt (oH (cE oZ (aT (pv 0) rfl) iQ (cH _)) (pW (dI (cM (bH (aT (pv 0) rfl) Y.cl G_knows hr aM (aA (pv 4) aE)) (fun _=>rfl)))))) (aI cB) bP)
   (aH (bM (cE oZ (aT (pv 0) rfl) iQ (cH _)) (aI (bA (fY hu (aT (aT (pv 0) rfl) rfl) (pv 4) (fun _ _=>rfl)))) bP)
   (aI cB))))),?_⟩
  obtain⟨a1,a2,a3,a4⟩:=wE fi tl .non
  refine⟨_,rfl,_,rfl,_,rfl,sl,fun ce hce=> ?_⟩
  have s1:=aD.new (o:=.tup ((aU nm c p).map kV)) hce
  have c1:upd H ce (.tup ((aU nm c p).map kV)) ce=some (.tup ((aU nm c p).map kV)):=aJ
  have hcf:H ce=none:=hce
  generalize hH1:upd H ce (.tup ((aU nm c p).map kV))=H1 at s1 c1
  rw[show upd H ce (.tup [V.str nm,V.str c,V.int (p:Int)])=H1 from hH1]
  have nct:ce≠tl:=fun z=>by rw[z,htl]at hcf;cases hcf
  refine⟨_,rfl,tr,CR,dx,_,_,rfl,s1 _ _ htr,X.cl,X.n_looked,a2,_,rfl,tl,_,rfl,.inr ⟨kt,aU nm c p,ce,s1 _ _ htl,rfl,c1,cQ (by omega),rfl⟩,?_⟩
  have u2:bO tl H1 (upd H1 tl (.dT (aR kt (aU nm c p) (.bl true)))):=fun b o n z=>by rw[aG n];exact z
  have t2:upd H1 tl (.dT (aR kt (aU nm c p) (.bl true))) tl=some (.dT (aR kt (aU nm c p) (.bl true))):=aJ
  generalize upd H1 tl (.dT (aR kt (aU nm c p) (.bl true)))=H2 at u2 t2|-
  have ntr:tr≠tl:=fun z=>by rw[z,htl]at htr;cases htr
  have tr2:=u2 _ _ ntr (s1 _ _ htr)
  have hF1:=hF.same s1
  have hl1:=s1 _ _ htl
  have nd:∀{x:Addr} {o:HO},H1 x=some o->(∀kvs,o≠ .dT kvs)->H2 x=some o:=fun z n=>u2 _ _ (fun y=>by rw[y,hl1]at z;exact n _ (Option.some.inj z).symm) z
  have F2:dE CF CB CT H2 fi bd fd lk nm B kf:=by
   obtain⟨d0,e1⟩:=hF1.fin
   obtain⟨kb,e2,e3⟩:=hF1.bds
   obtain⟨⟨d1,b1⟩,⟨⟨d2,b2⟩,b3,b4⟩,b5,b6,b7⟩:=hF1.B
   exact⟨⟨d0,nd e1 (fun _ z=>by cases z)⟩,⟨kb,nd e2 (fun _ z=>by cases z),e3⟩,⟨⟨d1,nd b1 (fun _ z=>by cases z)⟩,⟨⟨d2,nd b2 (fun _ z=>by cases z)⟩,nd b3 (fun _ z=>by cases z),nd b4 (fun _ z=>by cases z)⟩,nd b5 (fun _ z=>by cases z),nd b6 (fun _ z=>by cases z),nd b7 (fun _ z=>by cases z)⟩,u2 _ _ ntf.symm hF1.fnd,hF1.len⟩
  obtain⟨df,f2⟩:=F2.fin
  refine⟨_,rfl,tr,CR,dx,_,_,rfl,tr2,X.cl,X.n_lacking,a3,rfl,_,rfl,cD ?_⟩
  refine⟨_,rfl,tr,CR,dx,_,_,rfl,tr2,X.cl,X.n_finder,a1,fi,df,_,rfl,f2,kF,_,rfl,fi,bd,fd,lk,ce,l,nm,c,p,B,kf,ys,v,rfl,F2,u2 _ _ nct c1,hru,hc,hv,nd (s1 _ _ hl) (fun _ z=>by cases z),hp,ha,hcon,kl,fun H3 kf' hk' vk' F3 b3=>⟨_,rfl,bK ?_⟩⟩
  have ntrf:tr≠fd:=fun z=>by rw[z,hF.fnd]at htr;cases htr
  have ncf:ce≠fd:=fun z=>by rw[z,hF.fnd]at hcf;cases hcf
  have tr3:=b3 _ _ ntrf tr2
  obtain⟨df3,f3⟩:=F3.fin
  refine⟨_,rfl,tr,CR,dx,_,_,rfl,tr3,X.cl,X.n_lacking,a3,rfl,_,rfl,cD ?_⟩
  refine⟨_,rfl,tr,CR,dx,_,_,rfl,tr3,X.cl,X.n_finder,a1,fi,CF,df3,_,_,rfl,f3,Y.cl,Y.n_found,(jL _ _ _).2.1,_,rfl,fd,v,rfl,?_,?_⟩
  ·rw[<- vk']
   exact .inr ⟨_,aU nm c p,ce,.inl F3.fnd,rfl,b3 _ _ ncf (u2 _ _ nct c1),rfl⟩
  ·exact q H3 kf' hk' F3 (b3 _ _ ntf t2) (fun x o n1 n2 z=>b3 _ _ n1 (u2 _ _ n2 (s1 _ _ z)))
end
def fL(H H':Hp):Prop:=∀b u,H b=some (Fz u)->H' b=some (Fz u)
theorem fL.of{H H':Hp}(s:aD H H'):fL H H':=fun b u e=>s _ _ e
def yK:PyData:=.tuple [.str "fault",.str "odd"]
def gU(d:PyData):PyData:=if jS d then d else yK
def oP(K:Fg)(v:V)(d:PyData):Prop:=(∃i,v= .int i/\d= .int i/\fR (.int i)=true)\/ (∃a,v= .ref a/\d=yK/\∀H,bW K H a [.str ("fault":Str),.str ("odd":Str)])
def a58(K:Fg)(LP:Hp->Prop)(ca:Addr)(g:List Int->PyData)(ok:List Int->Prop):Sp:=fun vs H Q _=>∃(l:Addr) (is:List Int) (cs:List V),vs= [.ref l] /\LP H/\H l=some (.lst (is.map V.int))/\H ca=some (.lst cs)/\cs.length<900/\ok is/\is.length<=100/\ca≠l/\
 ∀H' v,bO ca H H'->H' ca=some (.lst cs)->(∃i,g is= .int i/\v= .int i)->Q v H'
def jW(P:Program)(w:World)(K:Fg)(mg:Str->Option Value)(base:Heap)(k:Nat)(H:Hp)(fa ca:Addr)(g:List Int->PyData)(ok:List Int->Prop):Prop:=∃LP,eF P w K mg base k fa (a58 K LP ca g ok)/\LP H/\∀H H',fL H H'->LP H->LP H'
theorem jW.keep{P:Program}{w:World}{K:Fg}{mg:Str->Option Value}{base:Heap}{k:Nat}{H H':Hp}{fa ca:Addr}{g:List Int->PyData}{ok:List Int->Prop}(s:fL H H')(h:jW P w K mg base k H fa ca g ok):jW P w K mg base k H' fa ca g ok:=by
 obtain⟨LP,h1,h2,h3⟩:=h
 exact⟨LP,h1,h3 _ _ s h2,h3⟩
def RF(fs:List (Str×V))(fa:Addr):Prop:=fs.lookup ("function":Str)=some (.ref fa)/\fs.lookup ("reckon":Str)=none
section
variable{P:Program}{w:World}{K:Fg}{mg:Str->Option Value}{base:Heap}
def a06(K:Fg)(p:Addr):Sp:=fun vs H Q _=>∃x d,vs= [x] /\Dt K H x d/\lR d/\∀H',aD H H'->Q (if jS d then x else .ref p) H'
theorem a4f:aV ["thing"] ["thing"] (aN a2f):=⟨rfl,rfl,rfl,by decide+kernel,rfl,by decide+kernel,by decide+kernel⟩
theorem a6x(T:aW K mg){p:Addr}(hp:mg "ODD"=some (.ref p)):bI P w K mg base aC 4 "settled" ["thing"] (a06 K p):=by
 have G_is_value:bI P w K mg base aC 3 "is_value" ["thing"] (wV K):=a1E T
 refine T.d_settled.known a4f (fun _ _ _ _ _ _ us hl=>eD (fun _=>rfl) us hl) (fun vs H Q E h=> ?_) (fun f cdv A outer s H vs Q E hr h=> ?_)
 ·obtain⟨x,d,rfl,_⟩:=h
  rfl
 ·obtain⟨x,d,rfl,hd,hsh,q⟩:=h
  refine⟨_,(aH (bM (cM (bQ G_is_value (hr.mono (by decide)) aM (aA (pv 0) aE)) (fun _=>rfl)) (aI (bA (pv 0))) bP)
   (aI (bA (yR hp)))),?_⟩
  refine⟨_,rfl,x,d,rfl,hd,hsh,fun H' s'=>⟨_,rfl,?_⟩⟩
  have q':=q H' s'
  refine dL (fun h1=> ?_) (fun h1=> ?_)
  ·rw[if_pos h1]at q'
   exact⟨_,rfl,q'⟩
  ·rw[if_neg h1]at q'
   exact q'
def zV(P:Program)(w:World)(K:Fg)(mg:Str->Option Value)(base:Heap)(k:Nat)(C:Addr):Sp:=fun vs H Q _=>∃(p a fa ca dx:Addr) (fs:List (Str×V)) (g:List Int->PyData) (ok:List Int->Prop) (is:List Int) (cs:List V),vs= [.ref p,.ref a] /\H p=some (.ins C dx fs)/\RF fs fa/\jW P w K mg base k H fa ca g ok/\H a=some (.lst (is.map V.int))/\H ca=some (.lst cs)/\cs.length<900/\ok is/\is.length<=100/\lR (g is)/\
 ∀H' v,bO ca H H'->H' ca=some (.lst cs)->oP K v (gU (g is))->Q v H'
theorem a9i:aV ["self","some"] ["self","some"] (aN uS):=⟨rfl,rfl,rfl,by decide+kernel,rfl,by decide+kernel,by decide+kernel⟩
structure qQ(K:Fg)(C:Addr):Prop where
 cl:cW K C
 rk:aZ K C "reckon" "Rule.reckon" uS
 nf:bV K C "function"
theorem a4D(T:aW K mg){C:Addr}(Y:qQ K C){k:Nat}(hk:4<=k):aL P w K mg base aC (k+ 1) C "reckon" ["self","some"] (zV P w K mg base k C):=by
 obtain⟨pO,hpO,hO⟩:=T.g_ODD
 have G_settled:bI P w K mg base aC 4 "settled" ["thing"] (a06 K pO):=a6x T hpO
 refine Y.rk.known a9i (fun _ _ _ _ _ _ us hl=>dF (fun _ _=>rfl) us hl) (fun vs H Q E h=> ?_) (fun f cdv A outer s H vs Q E hr h=> ?_)
 ·obtain⟨p,a,fa,ca,dx,fs,g,ok,is,cs,rfl,_⟩:=h
  rfl
 ·obtain⟨p,a,fa,ca,dx,fs,g,ok,is,cs,rfl,hp,hfs,⟨LP,F,lp,stb⟩,ha,hca,cl,l0,l1,hsh,q⟩:=h
  refine⟨_,(aI (bA (bQ G_settled (hr.mono hk) aM (aA (a5f (k:=k) (pv 0) hr (aA (jR nB rfl T.list iA (aA (pv 1) aE)) aE)) aE)))),?_⟩
  refine⟨_,rfl,p,C,dx,_,fa,_,rfl,hp,Y.cl,Y.nf,hfs.1,F,_,rfl,a,_,rfl,.inl (aO.of ha),fun xl hxl=> ?_⟩
  have s1:=aD.new (o:=.lst (is.map V.int)) hxl
  refine⟨xl,is,cs,rfl,stb _ _ (fL.of s1) lp,aJ,s1 _ _ hca,cl,l0,l1,aX hca hxl,fun H3 v b3 h3 hd=> ?_⟩
  obtain⟨ii,hg,rfl⟩:=hd
  refine⟨_,_,rfl,.int ii,hg▸hsh,fun H4 s4=> ?_⟩
  refine q H4 _ (((bO.of s1).trans b3).trans (bO.of s4)) (s4 _ _ h3) ?_
  rw[hg]
  unfold gU
  by_cases c:jS (.int ii)=true
  ·rw[if_pos c,if_pos c]
   exact .inl ⟨ii,rfl,rfl,by simpa [jS,hV] using c⟩
  ·rw[if_neg c,if_neg c]
   exact .inr ⟨_,rfl,rfl,hO⟩
theorem xF(is:List Int):(PyData.list (is.map PyData.int)).canLay0=true/\(PyData.list (is.map PyData.int)).depth<=64:=by
 have h1:PyData.canLayAll0 (is.map PyData.int)=true:=by
  induction is with
  |nil=>rfl
  |cons i r ih=>rw[List.map_cons,PyData.canLayAll0,ih];rfl
 have h2:PyData.depthAll (is.map PyData.int)=0:=by
  induction is with
  |nil=>rfl
  |cons i r ih=>
   have h3:PyData.canLayAll0 (r.map PyData.int)=true:=by
    have:=h1
    rw[List.map_cons,PyData.canLayAll0,Bool.and_eq_true]at this
    exact this.2
   rw[List.map_cons]
   show max 0 (PyData.depthAll (r.map PyData.int))=0
   rw[ih h3]
   rfl
 refine⟨h1,?_⟩
 show PyData.depthAll (is.map PyData.int)+ 1<=64
 rw[h2]
 decide
theorem qX{K:Fg}{H:Hp}:∀is:List Int,dD K H (is.map V.int) (is.map PyData.int)
 | []=> .nil
 |i::r=> .cons (.int i) (qX r)
theorem zC:∀is js:List Int,PyData.eqv (.list (is.map PyData.int)) (.list (js.map PyData.int))=decide (is=js)
 | [],[]=>by simp[PyData.eqv,PyData.eqvAll]
 | [],j::js=>by simp[PyData.eqv,PyData.eqvAll]
 |i::is,[]=>by simp[PyData.eqv,PyData.eqvAll]
 |i::is,j::js=>by
  have ih:=zC is js
  simp only[PyData.eqv]at ih
  simp only[List.map_cons,PyData.eqv,PyData.eqvAll,ih]
  by_cases h1:i=j<;>by_cases h2:is=js<;>simp[h1,h2]
def oI(H:Hp)(mk:List (aB×V))(num:Int)(js:List Int)(vv:V):Prop:=∃tp lo,aQ mk (.inl num:aB)=some (.ref tp)/\H tp=some (.tup [.ref lo,vv])/\H lo=some (.lst (js.map V.int))
def a1v(P:Program)(w:World)(K:Fg)(mg:Str->Option Value)(base:Heap)(k:Nat)(CB CT CG:Addr):Sp:=fun vs H Q _=>∃(sm gr mc fa ca dx:Addr) (c:Str) (fs:List (Str×V)) (p:Nat) (num:Int) (B:BM) (mk:List (aB×V)) (g:List Int->PyData) (ok:List Int->Prop) (is:List Int) (cs:List V),vs= [.ref B.b,.str c,.int (p:Int),.ref sm] /\bS CB CT H B/\aQ B.rus (.inr c:aB)=some (.ref gr)/\aQ B.mes (.inr c:aB)=some (.ref mc)/\H mc=some (.dK mk)/\mk.length<100/\p<B.xs.length/\cO B.xs (p:Int)=some (.int num)/\
 H gr=some (.ins CG dx fs)/\RF fs fa/\jW P w K mg base k H fa ca g ok/\H sm=some (.lst (is.map V.int))/\H ca=some (.lst cs)/\cs.length<900/\ok is/\is.length<=100/\lR (g is)/\Vd (gU (g is))/\
 ((∃vv,oI H mk num is vv/\Q vv H)\/ ((aQ mk (.inl num:aB)=none\/ ∃js vv,oI H mk num js vv/\js≠is)/\
   ∀H' v tp,(∀x o,x≠ca->x≠mc->H x=some o->H' x=some o)->H' ca=some (.lst cs)->H tp=none->H' tp=some (.tup [.ref sm,v])->H' mc=some (.dK (aR mk (.inl num:aB) (.ref tp)))->oP K v (gU (g is))->Q v H'))
abbrev Nou:List Str:=["self","column","place","some","remembered","number"]
theorem vO:aV Nou ["self","column","place","some"] (aN tK):=⟨rfl,rfl,rfl,by decide+kernel,rfl,by decide+kernel,by decide+kernel⟩
theorem a6A(T:aW K mg){CB CT CG:Addr}(Y:bU K mg CB)(Z:cI K mg CT)(W:qQ K CG){k:Nat}(hk:4<=k):aL P w K mg base aC (k+ 2) CB "outcome" ["self","column","place","some"] (a1v P w K mg base k CB CT CG):=by
 have G_num:aL P w K mg base aC 3 CT "number_at" ["self","place"] (a0k CT):=a4O T Z
 have G_rck:aL P w K mg base aC (k+ 1) CG "reckon" ["self","some"] (zV P w K mg base k CG):=a4D T W hk
 refine Y.m_outcome.known vO (fun _ _ _ _ _ _ us hl=>mI (fun _ _ _ _=>rfl) us hl) (fun vs H Q E h=> ?_) (fun f cdv A outer s H vs Q E hr h=> ?_)
 ·obtain⟨sm,gr,mc,fa,ca,dx,c,fs,p,num,B,mk,g,ok,is,cs,rfl,_⟩:=h
  rfl
 ·obtain⟨sm,gr,mc,fa,ca,dx,c,fs,p,num,B,mk,g,ok,is,cs,rfl,hB,hru,hme,hmc,ml,hp,hnum,hgr,hfs,FN,hsm,hca,cl,l0,l1,hsh,hvd,q⟩:=h
  have hu:=eB hr
  have dQ:∃t,eE (cY aC P w K mg base Nou "Board.outcome" (aN tK) f cdv A outer s H E).nox ((eG tK).drop 3) t/\
   ∀(H1:Hp) (tp:Addr) (x v:V) (mk':List (aB×V)),H1 mc=some (.dK mk')->aQ mk' (.inl num:aB)=some (.ref tp)->H1 tp=some (.tup [x,v])->Q v H1->t {nx:=fun _ H'=>Q .non H',rt:=Q} [some (.ref B.b),some (.str c),some (.int (p:Int)),some (.ref sm),some (.ref mc),some (.int num)] H1:=by
   refine⟨_,(aI (bA (cJ fB (fY hu (pv 4) (pv 5) (fun _ _=>rfl)) bJ (fun _ _=>rfl)))),fun H1 tp x v mk' e1 e2 e3 q'=> ?_⟩
   exact⟨_,rfl,_,rfl,mc,_,rfl,e2▸cA.k (k:=Sum.inl num) e1,tp,_,_,_,rfl,rfl,bW.of e3,rfl,q'⟩
  obtain⟨tR,hR,qR⟩:=dQ
  refine⟨_,(aH (bR (i:=4) vO.nd rfl (Or.inl rfl) (fY hu (aT (pv 0) rfl) (pv 1) (fun _ _=>rfl)))
   (aH (bR (i:=5) vO.nd rfl (Or.inl rfl) (bH (aT (pv 0) rfl) Z.cl G_num (hr.mono (by omega)) aM (aA (pv 2) aE)))
   (aH (bM (PW.pt (gB (jM (lN hu (pv 5) (pv 4))) (gY (cE (lV hr.units) (cJ fB (fY hu (pv 4) (pv 5) (fun _ _=>rfl)) bJ (fun _ _=>rfl)) (pv 3) (cH _))))) (aI (jQ hu (pv 4) (pv 5) (fA (aA (pv 3) (aA (bH (fY hu (aT (pv 0) rfl) (pv 1) (fun _ _=>rfl)) W.cl G_rck hr aM (aA (pv 3) aE)) aE))) rfl)) bP)
   hR))),?_⟩
  obtain⟨⟨d1,b1⟩,tb,b3,b4,_⟩:=id hB
  obtain⟨⟨d2,b2⟩,_,_⟩:=id tb
  refine⟨_,rfl,B.b,CB,d1,_,_,rfl,b1,Y.cl,Y.n_memory,(dH _ _ _ _).2.2.1,_,rfl,B.me,_,rfl,hme▸cA.k (k:=Sum.inr c) b4,?_⟩
  refine⟨_,rfl,B.b,CB,d1,_,_,rfl,b1,Y.cl,Y.n_given,(dH _ _ _ _).1,B.g,d2,_,rfl,b2,jN,_,rfl,B.g,B.r,B.e,B.xs,B.n,B.kvs,p,_,rfl,tb,hp,hnum,?_⟩
  refine⟨_,rfl,_,rfl,mc,_,rfl,cA.k (k:=Sum.inl num) hmc,_,rfl,?_⟩
  have lay:=xF is
  have ncm:mc≠ca:=fun z=>by rw[z,hca]at hmc;cases hmc
  rcases q with⟨vv,⟨tp,lo,e1,e2,e3⟩,qv⟩|⟨hw,q⟩
  ·rw[e1]
   refine bK ⟨_,rfl,_,rfl,mc,_,rfl,e1▸cA.k (k:=Sum.inl num) hmc,tp,_,_,_,rfl,rfl,bW.of e2,rfl,_,rfl,.list (is.map .int),.list (is.map .int),.lst (aO.of e3) (qX is),.lst (aO.of hsm) (qX is),lay.1,lay.1,lay.2,_,rfl,?_⟩
   rw[zC,decide_eq_true rfl]
   exact bK (qR H tp _ vv mk hmc e1 e2 qv)
  have fin:∀(H1:Hp) (v:V) (tp:Addr),bO ca H H1->H1 ca=some (.lst cs)->oP K v (gU (g is))->H1 tp=none->
   ∃H4,hZ (upd H1 tp (.tup [.ref sm,v])) mc (.int num) (.ref tp) H4/\tR {nx:=fun _ H'=>Q .non H',rt:=Q} [some (.ref B.b),some (.str c),some (.int (p:Int)),some (.ref sm),some (.ref mc),some (.int num)] H4:=fun H1 v tp bb h1 hd htp=>by
   have s2:=aD.new (o:=.tup [.ref sm,v]) htp
   have m2:=s2 _ _ (bb _ _ ncm hmc)
   have t2:upd H1 tp (.tup [.ref sm,v]) tp=some (.tup [.ref sm,v]):=aJ
   refine⟨_,hZ.k (k:=Sum.inl num) m2 (cQ (by omega)),?_⟩
   generalize upd H1 tp (.tup [.ref sm,v])=H2 at s2 m2 t2|-
   have u3:∀x o,x≠mc->H2 x=some o->upd H2 mc (.dK (aR mk (.inl num:aB) (.ref tp))) x=some o:=fun x o n z=>by rw[aG n];exact z
   have m3:upd H2 mc (.dK (aR mk (.inl num:aB) (.ref tp))) mc=some (.dK (aR mk (.inl num:aB) (.ref tp))):=aJ
   generalize upd H2 mc (.dK (aR mk (.inl num:aB) (.ref tp)))=H3 at u3 m3|-
   have nm:∀{x:Addr} {o:HO},H2 x=some o->(∀kvs,o≠ .dK kvs)->x≠mc:=fun z n y=>by rw[y,m2]at z;exact n _ (Option.some.inj z).symm
   have t3:=u3 _ _ (nm t2 (fun _ z=>by cases z)) t2
   have htp0:H tp=none:=by
    cases e:H tp with
    |none=>rfl
    |some o=>
     by_cases z:tp=ca
     ·rw[z,h1]at htp;cases htp
     ·rw[bb _ _ z e]at htp;cases htp
   refine qR H3 tp _ v _ m3 (by rw[fT,if_pos rfl]) t3 (q H3 v tp (fun x o n1 n2 z=>u3 _ _ n2 (s2 _ _ (bb _ _ n1 z))) ?_ htp0 t3 m3 ?_)
   ·exact u3 _ _ ncm.symm (s2 _ _ h1)
   ·exact hd
  rcases hw with e0|⟨js,vv,⟨tp0,lo,e1,e2,e3⟩,hne⟩
  ·rw[e0]
   refine cD (cD ?_)
   refine⟨_,rfl,_,rfl,B.b,CB,d1,_,_,rfl,b1,Y.cl,Y.n_rules,(dH _ _ _ _).2.1,_,rfl,B.ru,_,rfl,hru▸cA.k (k:=Sum.inr c) b3,gr,dx,_,rfl,hgr,hfs.2,_,rfl,gr,sm,fa,ca,dx,fs,g,ok,is,cs,rfl,hgr,hfs,FN,hsm,hca,cl,l0,l1,hsh,fun H1 v bb h1 hd=>⟨sl,fun tp htp=> ?_⟩⟩
   obtain⟨H4,p4,q4⟩:=fin H1 v tp bb h1 hd htp
   exact⟨_,rfl,_,rfl,mc,H4,rfl,p4,q4⟩
  ·rw[e1]
   refine bK ⟨_,rfl,_,rfl,mc,_,rfl,e1▸cA.k (k:=Sum.inl num) hmc,tp0,_,_,_,rfl,rfl,bW.of e2,rfl,_,rfl,.list (js.map .int),.list (is.map .int),.lst (aO.of e3) (qX js),.lst (aO.of hsm) (qX is),(xF js).1,lay.1,(xF js).2,_,rfl,?_⟩
   rw[zC,decide_eq_false hne]
   refine cD ?_
   refine⟨_,rfl,_,rfl,B.b,CB,d1,_,_,rfl,b1,Y.cl,Y.n_rules,(dH _ _ _ _).2.1,_,rfl,B.ru,_,rfl,hru▸cA.k (k:=Sum.inr c) b3,gr,dx,_,rfl,hgr,hfs.2,_,rfl,gr,sm,fa,ca,dx,fs,g,ok,is,cs,rfl,hgr,hfs,FN,hsm,hca,cl,l0,l1,hsh,fun H1 v bb h1 hd=>⟨sl,fun tp htp=> ?_⟩⟩
   obtain⟨H4,p4,q4⟩:=fin H1 v tp bb h1 hd htp
   exact⟨_,rfl,_,rfl,mc,H4,rfl,p4,q4⟩
end
def isT:PyData->Bool
 | .tuple _=>true
 |_=>false
def a2R:PyData->Int
 | .int i=>i
 |_=>0
def gO:List PyData->List Int->PyData ⊕ List Int
 | [],acc=> .inr acc
 |d::r,acc=>if isT d then .inl d else gO r (acc++ [a2R d])
theorem a5W(d:PyData)(r:List PyData)(acc:List Int):gO (d::r) acc=if isT d then .inl d else gO r (acc++ [a2R d]):=by rw[gO]
theorem a2t:∀{ds:List PyData} {acc is:List Int},gO ds acc= .inr is->is.length=acc.length+ ds.length
 | [],acc,is,h=>by cases h;rfl
 |d::r,acc,is,h=>by
  unfold gO at h
  split at h
  ·cases h
  ·have:=a2t h
   rw[List.length_append]at this
   rw[List.length_cons,this]
   show acc.length+ 1+ r.length=_
   omega
theorem gW{xs:List V}{i:Nat}{v:V}(h:xs[i]?=some v):cO xs (i:Int)=some v:=by
 have hi:=(List.getElem?_eq_some_iff.mp h).1
 unfold cO
 rw[a8I (by omega) (by omega),Int.toNat_natCast]
 exact h
theorem a7M{α:Type}{zs:List α}{i:Nat}{z:α}(h:zs[i]?=some z):zs.drop i=z::zs.drop (i+ 1):=by
 obtain⟨hi,e⟩:=List.getElem?_eq_some_iff.mp h
 rw[List.drop_eq_getElem_cons hi,e]
theorem bN.at{K:Fg}{H:Hp}:∀{xs:List V} {ds:List PyData} {i:Nat},bN K H xs ds->i<ds.length->∃v d,xs[i]?=some v/\ds[i]?=some d/\Pv K H v d
 |_,_,_,.nil,h=>absurd h (Nat.not_lt_zero _)
 |_,_,0,.cons h _,_=>⟨_,_,rfl,rfl,h⟩
 |_,_,i+ 1,.cons _ t,h=>by simpa using bN.at t (Nat.lt_of_succ_lt_succ h)
theorem Pv.isT{K:Fg}{H:Hp}{v:V}{d:PyData}(h:Pv K H v d):hV d=My.isT d:=by
 rcases h with⟨i,_,rfl,_⟩|⟨a,y,_,_,rfl,hy⟩
 ·rfl
 ·show(decide (("fault":Str)= "fault")&&fE (.str y))=true
  rw[decide_eq_true rfl,Bool.true_and]
  exact Nl.name hy
def eT(x y:Addr)(H H':Hp):Prop:=∀b o,b≠x->b≠y->H b=some o->H' b=some o
theorem eT.of{x y:Addr}{H H':Hp}(s:aD H H'):eT x y H H':=fun b o _ _ e=>s b o e
theorem eT.trans{x y:Addr}{H H1 H2:Hp}(a:eT x y H H1)(b:eT x y H1 H2):eT x y H H2:=fun c o n m e=>b c o n m (a c o n m e)
structure iP(J:Hp->Prop)(W:List Addr)(x y:Addr):Prop where
 there:∀H,J H->∀b∈W,H b≠none
 stay:∀H H',(∀b o,b∈W->H b=some o->H' b=some o)->fL H H'->J H->J H'
 x:∀H,J H->∃k,H x=some (.dT k)
 y:∀H,J H->∃k,H y=some (.dT k)
theorem iP.same{J:Hp->Prop}{W:List Addr}{x y:Addr}(S:iP J W x y){H H':Hp}(s:aD H H')(h:J H):J H':=S.stay _ _ (fun b o _ e=>s _ _ e) (fL.of s) h
theorem iP.tup{J:Hp->Prop}{W:List Addr}{x y:Addr}(S:iP J W x y){H H':Hp}(h:J H)(f:eT x y H H'):bF H H':=fun a xs e=>by
 obtain⟨k1,h1⟩:=S.x H h
 obtain⟨k2,h2⟩:=S.y H h
 exact f _ _ (fun z=>by rw[z,h1]at e;cases e) (fun z=>by rw[z,h2]at e;cases e) e
def rJ(J:Hp->Prop)(x y:Addr)(gv:Str->Str->Option (List V)):Sp:=fun vs H Q _=>∃(t c:Str) (p:Nat) (ys:List V) (v:V),vs= [.str t,.str c,.int (p:Int)] /\J H/\gv t c=some ys/\p<ys.length/\cO ys (p:Int)=some v/\∀H',eT x y H H'->J H'->Q v H'
def wO(J:Hp->Prop)(mv:Str->Nat->Prop):Sp:=fun vs H Q _=>∃(t:Str) (m:Nat),vs= [.str t] /\mv t m/\J H/\∀H',aD H H'->Q (.int (m:Int)) H'
def zM(gv:Str->Str->Option (List V))(v:V):Prop:=∃(t c:Str) (ys:List V) (p:Nat),gv t c=some ys/\cO ys (p:Int)=some v
def oF(K:Fg)(gv:Str->Str->Option (List V))(H H':Hp)(fv:V):PyData ⊕ List Int->Prop
 | .inl d=>∃ta v,fv= .ref ta/\H' ta=some (.tup [.str ("value":Str),v])/\Pv K H' v d/\zM gv v
 | .inr is=>∃ta l,fv= .ref ta/\H' ta=some (.tup [.str ("call":Str),.ref l])/\H' l=some (.lst (is.map V.int))/\H l=none
def rO(K:Fg)(gv:Str->Str->Option (List V))(H:Hp)(x:V)(d:PyData):Prop:=∃a t c p ys v,x= .ref a/\H a=some (.tup [.str t,.str c,.int ((p:Nat):Int)])/\gv t c=some ys/\p<ys.length/\cO ys (p:Int)=some v/\Pv K H v d
theorem rO.keep{K:Fg}{gv:Str->Str->Option (List V)}{H H':Hp}{x:V}{d:PyData}(k:bF H H')(h:rO K gv H x d):rO K gv H' x d:=by
 obtain⟨a,t,c,p,ys,v,h1,h2,h3,h4,h5,h6⟩:=h
 exact⟨a,t,c,p,ys,v,h1,k _ _ h2,h3,h4,h5,h6.keep k⟩
theorem xV{α β:Type}{R:α->β->Prop}:∀{xs:List α} {ys:List β} {i:Nat} {x:α},Paired R xs ys->xs[i]?=some x->∃y,ys[i]?=some y/\R x y
 |_,_,_,_,.nil,e=>by simp at e
 |_,_,0,_,.cons h _,e=>by simp at e;subst e;exact⟨_,rfl,h⟩
 |_,_,i+ 1,_,.cons _ t,e=>by simpa using xV (i:=i) t (by simpa using e)
section
variable{P:Program}{w:World}{K:Fg}{mg:Str->Option Value}{base:Heap}
def a2T(P:Program)(w:World)(K:Fg)(mg:Str->Option Value)(base:Heap)(k:Nat):Sp:=fun vs H Q _=>∃(look cl x y:Addr) (J:Hp->Prop) (W:List Addr) (gv:Str->Str->Option (List V)) (cv:List V) (ds:List PyData),vs= [.ref look,.ref cl] /\eF P w K mg base k look (rJ J x y gv)/\J H/\iP J W x y/\H cl=some (.lst cv)/\Paired (rO K gv H) cv ds/\ds.length<=100/\
 ∀H' fv,eT x y H H'->J H'->oF K gv H H' fv (gO ds [])->Q fv H'
abbrev a8h:List Str:=["look","cells","numbers","table","column","place","value"]
theorem oJ:aV a8h ["look","cells"] (aN a3K):=⟨rfl,rfl,rfl,by decide+kernel,rfl,by decide+kernel,by decide+kernel⟩
theorem a79(T:aW K mg){k:Nat}(hk:2<=k):bI P w K mg base aC (k+ 1) "look_in_turn" ["look","cells"] (a2T P w K mg base k):=by
 have G_is_fault:bI P w K mg base aC 2 "is_fault" ["thing"] (rM K):=sP T
 refine T.d_look_in_turn.known oJ (fun _ _ _ _ _ _ us hl=>dF (fun _ _=>rfl) us hl) (fun vs H Q E h=> ?_) (fun f cdv A outer s H vs Q E hr h=> ?_)
 ·obtain⟨look,cl,x,y,J,W,gv,cv,ds,rfl,_⟩:=h
  rfl
 ·obtain⟨look,cl,x,y,J,W,gv,cv,ds,rfl,F1,hJ,S,hc,hp,l100,q⟩:=h
  refine⟨_,(aH (bR (i:=2) oJ.nd rfl (Or.inl rfl) (fW aE))
   (aH (jO PassesOwn.never rfl (fX (pv 1)) (uK rfl (lK (fH (i:=3) oJ.nd rfl (Or.inl rfl)) (lK (fH (i:=4) oJ.nd rfl (Or.inl rfl)) (lK (fH (i:=5) oJ.nd rfl (Or.inl rfl)) sM)))) (aH (bR (i:=6) oJ.nd rfl (Or.inl rfl) (a7A 0 hr (aA (pv 3) (aA (pv 4) (aA (pv 5) aE)))))
   (aH (bM (cM (bQ G_is_fault (hr.mono hk) aM (aA (pv 6) aE)) (fun _=>rfl)) (aI (bA (fA (aA cF (aA (pv 6) aE))))) bP)
   (aI (cC (kH PySem.F.plainAttrs_list PySem.F.slot_list_append PySem.F.type_list_append kD (pv 2) (aA (pv 6) aE)))))))
   (aI (bA (fA (aA cF (aA (pv 2) aE))))))),?_⟩
  refine⟨sl,fun nl hnl=> ?_⟩
  have s1:=aD.new (o:=.lst []) hnl
  have n1:upd H nl (.lst []) nl=some (.lst []):=aJ
  have J1:=S.same s1 hJ
  generalize upd H nl (.lst [])=H1 at s1 n1 J1|-
  have lcv:cv.length=ds.length:=Paired.length hp
  have nxy:∀{b:Addr} {o:HO} {Hb:Hp},J Hb->Hb b=some o->(∀k,o≠ .dT k)->b≠x/\b≠y:=fun{b o Hb} hj e n=>by
   obtain⟨k1,h1⟩:=S.x Hb hj
   obtain⟨k2,h2⟩:=S.y Hb hj
   exact⟨(fun z=>by rw[z,h1]at e;exact n _ (Option.some.inj e).symm),(fun z=>by rw[z,h2]at e;exact n _ (Option.some.inj e).symm)⟩
  have ncl:=nxy hJ hc (fun _ z=>by cases z)
  have nnl:=nxy J1 n1 (fun _ z=>by cases z)
  have nW:nl∉W:=fun mw=>S.there _ hJ nl mw hnl
  refine⟨_,rfl,cl,rfl,⟨_,aO.of (s1 _ _ hc)⟩,?_⟩
  refine mH (K:=K) (a:=cl) (xs:=cv) (fun i σ H2=>∃o3 o4 o5 o6 is,σ= [some (.ref look),some (.ref cl),some (.ref nl),o3,o4,o5,o6] /\eT x y H H2/\J H2/\H2 nl=some (.lst (is.map V.int))/\is.length<=i/\gO (ds.drop i) is=gO ds [])
   ⟨_,_,_,_,[],rfl,eT.of s1,J1,n1,Nat.le_refl _,rfl⟩ (by rintro i σ H2 _ ⟨_,_,_,_,_,_,f2,_⟩;exact aO.of (f2 _ _ ncl.1 ncl.2 hc)) ?_ ?_
  ·rintro i v0 σ H2 hx ⟨o3,o4,o5,o6,is,rfl,f2,J2,h2,li,ht⟩
   obtain⟨d,hd,hcel⟩:=xV hp hx
   have hi:i<cv.length:=(List.getElem?_eq_some_iff.mp hx).1
   obtain⟨a,t,c,p,ys,v,rfl,ha,hg,hpl,hat,hpv⟩:=hcel.keep (S.tup hJ f2)
   rw[a7M hd]at ht
   refine⟨a,_,rfl,bW.of ha,rfl,_,_,rfl,_,_,rfl,_,_,rfl,rfl,?_⟩
   refine⟨look,_,rfl,F1,_,rfl,_,rfl,_,rfl,t,c,p,ys,v,rfl,J2,hg,hpl,hat,fun H3 f3 J3=> ?_⟩
   have f23:=f2.trans f3
   have p3:=hpv.keep (S.tup J2 f3)
   have h3:=f3 _ _ nnl.1 nnl.2 h2
   refine⟨_,rfl,v,d,rfl,p3.dt,p3.vd.short.1,fun H4 s4=>⟨_,rfl,?_⟩⟩
   rw[p3.isT]
   have h4:=s4 _ _ h3
   have J4:=S.same s4 J3
   have f4:=f23.trans (eT.of s4)
   have p4:=p3.same s4
   rw[a5W]at ht
   rcases p3 with⟨j,rfl,rfl,bj⟩|⟨b,z,rfl,_,rfl,hz⟩
   ·rw[if_neg (show¬isT (.int j)=true from Bool.false_ne_true)]at ht
    refine bK ⟨_,rfl,.inl ⟨rfl,_,aO.of h4⟩,_,rfl,nl,_,_,rfl,rfl,h4,cQ (by rw[List.length_map];omega),?_⟩
    have bu:∀b ob,b≠nl->H4 b=some ob->upd H4 nl (.lst (is.map V.int++ [.int j])) b=some ob:=fun b ob nb e=>by rw[aG nb];exact e
    refine⟨_,_,_,_,is++ [j],rfl,fun b ob n1 n2 e=>bu _ _ (aX e hnl) (f4 _ _ n1 n2 e),S.stay _ _ (fun b ob mb e=>bu _ _ (fun z=>nW (z▸mb)) e) (fun b u e=>bu _ _ (fun z=>by rw[z,h4]at e;cases e) e) J4,(by rw[List.map_append];exact aJ),by rw[List.length_append];show is.length+ 1<=i+ 1;omega,ht⟩
   ·rw[if_pos (show isT (.tuple _)=true from rfl)]at ht
    refine cD ⟨_,rfl,sl,fun tp htp=> ?_⟩
    have s5:=aD.new (o:=.tup [.str ("value":Str),.ref b]) htp
    refine q _ _ (f4.trans (eT.of s5)) (S.same s5 J4) ?_
    rw[<- ht]
    exact⟨tp,_,rfl,aJ,p4.same s5,t,c,ys,p,hg,hat⟩
  ·rintro σ H2 ⟨o3,o4,o5,o6,is,rfl,f2,J2,h2,li,ht⟩
   rw[lcv,List.drop_length]at ht
   refine⟨_,rfl,sl,fun tp htp=> ?_⟩
   have s3:=aD.new (o:=.tup [.str ("call":Str),.ref nl]) htp
   refine q _ _ (f2.trans (eT.of s3)) (S.same s3 J2) ?_
   rw[<- ht]
   exact⟨tp,nl,rfl,aJ,s3 _ _ h2,hnl⟩
end
def dU(Ks:List Ky)(kvs:List (Ky×V)):Prop:=(kvs.map (·.1)).Nodup/\∀k∈kvs.map (·.1),k∈Ks
theorem wG{α:Type} [DecidableEq α]:∀{l m:List α},l.Nodup->(∀x∈l,x∈m)->l.length<=m.length
 | [],_,_,_=>Nat.zero_le _
 |x::r,m,h,hs=>by
  rw[List.nodup_cons]at h
  have hx:=hs x List.mem_cons_self
  have:=wG (l:=r) (m:=m.erase x) h.2 fun y hy=>(List.mem_erase_of_ne (fun e=>by rw[e]at hy;exact h.1 hy)).mpr (hs y (List.mem_cons_of_mem _ hy))
  rw[List.length_erase_of_mem hx]at this
  have:0<m.length:=List.length_pos_of_mem hx
  rw[List.length_cons]
  omega
theorem dU.len{Ks:List Ky}{kvs:List (Ky×V)}(h:dU Ks kvs):kvs.length<=Ks.length:=by
 have:=wG h.1 h.2
 rwa [List.length_map]at this
theorem dU.nil{Ks:List Ky}:dU Ks []:=⟨List.nodup_nil,fun k hk=>by cases hk⟩
theorem a4l{kvs:List (Ky×V)}{k:Ky}{v x:V}(h:aQ kvs k=some x):(aR kvs k v).map (·.1)=kvs.map (·.1):=by
 unfold aR
 rw[nZ,h,if_pos (show(some x).isSome=true from rfl),List.map_map]
 refine List.map_congr_left fun p _=> ?_
 show(if p.1=k then _ else _:Ky×V).1=p.1
 split<;>rfl
theorem dU.put{Ks:List Ky}{kvs:List (Ky×V)}{k:Ky}{v:V}(h:dU Ks kvs)(hk:k∈Ks):dU Ks (aR kvs k v):=by
 cases e:aQ kvs k with
 |some x=>unfold dU;rw[a4l e];exact h
 |none=>
  refine⟨a1H v h.1 e,fun k' hk'=> ?_⟩
  rw[wT v e,List.map_append]at hk'
  rcases List.mem_append.mp hk' with hk'|hk'
  ·exact h.2 k' hk'
  ·rw[List.mem_singleton.mp hk']
   exact hk
theorem mY{t t' c c':Str}{p p':Nat}(h:aU t c p=aU t' c' p'):t=t'/\c=c'/\p=p':=by
 unfold aU at h
 simp only[List.cons.injEq,Sum.inr.injEq,Sum.inl.injEq,and_true]at h
 exact⟨h.1,h.2.1,by omega⟩
structure mB where
 fi:Addr
 bd:Addr
 fd:Addr
 lk:Addr
 tr:Addr
 tl:Addr
 tabs:List (Str×BM)
 Ks:List Ky
 gv:Str->Str->Option (List V)
 kf0:List (Ky×V)
structure vD(tabs:List (Str×BM))(Ks:List Ky)(gv:Str->Str->Option (List V)):Prop where
 k8:Ks.length<=800
 g:∀t c ys,gv t c=some ys->∃B,(t,B)∈tabs/\Nl c/\Nl t/\aQ B.rus (.inr c:aB)=none/\ys.length=B.xs.length/\∀p,p<ys.length->aU t c p∈Ks
structure J3(CR CF CB CT:Addr)(X:mB)(H:Hp):Prop where
 kf:∃kf,(∀tb∈X.tabs,dE CF CB CT H X.fi X.bd X.fd X.lk tb.1 tb.2 kf)/\H X.fd=some (.dT kf)/\dU X.Ks kf/\(∀t c p v ys,X.gv t c=some ys->aQ kf (aU t c p)=some v->cO ys (p:Int)=some v)/\∀t c p,X.gv t c=none->aQ kf (aU t c p)=aQ X.kf0 (aU t c p)
 tr:∃dx,H X.tr=some (.ins CR dx (lW X.fi X.tl .non))
 tl:∃kt,H X.tl=some (.dT kt)/\dU X.Ks kt
 cols:∀t c ys B,X.gv t c=some ys->(t,B)∈X.tabs->∃l,aQ B.kvs (.inr c:aB)=some (.ref l)/\H l=some (.lst ys)
theorem dE.mvW{CF CB CT:Addr}{H H':Hp}{fi bd fd lk:Addr}{nm:Str}{B:BM}{kf:List (Ky×V)}(F:dE CF CB CT H fi bd fd lk nm B kf)(u:∀b o,b∈ [fi,bd,fd] ++ B.foot->H b=some o->H' b=some o):dE CF CB CT H' fi bd fd lk nm B kf:=by
 obtain⟨dx,e1⟩:=F.fin
 obtain⟨kb,e2,e3⟩:=F.bds
 obtain⟨⟨d1,b1⟩,⟨⟨d2,b2⟩,b3,b4⟩,b5,b6,b7⟩:=F.B
 exact⟨⟨dx,u _ _ (by simp[BM.foot]) e1⟩,⟨kb,u _ _ (by simp[BM.foot]) e2,e3⟩,⟨⟨d1,u _ _ (by simp[BM.foot]) b1⟩,⟨⟨d2,u _ _ (by simp[BM.foot]) b2⟩,u _ _ (by simp[BM.foot]) b3,u _ _ (by simp[BM.foot]) b4⟩,u _ _ (by simp[BM.foot]) b5,u _ _ (by simp[BM.foot]) b6,u _ _ (by simp[BM.foot]) b7⟩,u _ _ (by simp[BM.foot]) F.fnd,F.len⟩
theorem dE.isthere{CF CB CT:Addr}{H:Hp}{fi bd fd lk:Addr}{nm:Str}{B:BM}{kf:List (Ky×V)}(F:dE CF CB CT H fi bd fd lk nm B kf){b:Addr}(hb:b∈ [fi,bd,fd] ++ B.foot):H b≠none:=fun z=>by
 obtain⟨dx,e1⟩:=F.fin
 obtain⟨kb,e2,e3⟩:=F.bds
 obtain⟨⟨d1,b1⟩,⟨⟨d2,b2⟩,b3,b4⟩,b5,b6,b7⟩:=F.B
 have e0:=F.fnd
 simp only[BM.foot,List.cons_append,List.nil_append,List.mem_cons,List.not_mem_nil,or_false]at hb
 rcases hb with rfl|rfl|rfl|rfl|rfl|rfl|rfl|rfl|rfl|rfl
 ·rw[e1]at z;cases z
 ·rw[e2]at z;cases z
 ·rw[e0]at z;cases z
 ·rw[b1]at z;cases z
 ·rw[b2]at z;cases z
 ·rw[b3]at z;cases z
 ·rw[b4]at z;cases z
 ·rw[b5]at z;cases z
 ·rw[b6]at z;cases z
 ·rw[b7]at z;cases z
structure xB(X:mB)(W:List Addr):Prop where
 o:X.fd∈W/\X.tr∈W/\X.tl∈W
 f:∀tb∈X.tabs,∀b∈ [X.fi,X.bd,X.fd] ++ tb.2.foot,b∈W
 c:∀t c ys B l,X.gv t c=some ys->(t,B)∈X.tabs->aQ B.kvs (.inr c:aB)=some (.ref l)->l∈W
 n:∀b∈W,b=X.fd\/ b=X.tr\/ b=X.tl\/ (∃tb∈X.tabs,b∈ [X.fi,X.bd,X.fd] ++ tb.2.foot)\/ ∃t c ys B,X.gv t c=some ys/\(t,B)∈X.tabs/\aQ B.kvs (.inr c:aB)=some (.ref b)
theorem J3.st{CR CF CB CT:Addr}{X:mB}{W:List Addr}(w:xB X W):iP (J3 CR CF CB CT X) W X.fd X.tl where
 there:=fun H h b mb z=>by
  obtain⟨kf,F,e0,_⟩:=h.kf
  obtain⟨d3,t1⟩:=h.tr
  obtain⟨kt,t2,_⟩:=h.tl
  rcases w.n b mb with rfl|rfl|rfl|⟨tb,h1,h2⟩|⟨t,c,ys,B,g1,g2,g3⟩
  ·rw[e0]at z;cases z
  ·rw[t1]at z;cases z
  ·rw[t2]at z;cases z
  ·exact(F tb h1).isthere h2 z
  ·obtain⟨l,g4,g5⟩:=h.cols t c ys B g1 g2
   rw[g3]at g4
   cases g4
   rw[g5]at z;cases z
 stay:=fun H H' k kz h=>by
  obtain⟨kf,F,e0,r1,r2,r3⟩:=h.kf
  obtain⟨d3,t1⟩:=h.tr
  obtain⟨kt,t2,t3⟩:=h.tl
  exact⟨⟨kf,fun tb htb=>(F tb htb).mvW fun b o hb e=>k _ _ (w.f tb htb b hb) e,k _ _ w.o.1 e0,r1,r2,r3⟩,⟨d3,k _ _ w.o.2.1 t1⟩,⟨kt,k _ _ w.o.2.2 t2,t3⟩,fun t c ys B g1 g2=>by
   obtain⟨l,g3,g4⟩:=h.cols t c ys B g1 g2
   exact⟨l,g3,k _ _ (w.c t c ys B l g1 g2 g3) g4⟩⟩
 x:=fun H h=>let ⟨kf,_,e,_⟩:=h.kf;⟨kf,e⟩
 y:=fun H h=>let ⟨kt,e,_⟩:=h.tl;⟨kt,e⟩
theorem J3.look{CR CF CB CT:Addr}{X:mB}(ne:X.tl≠X.fd)(O:vD X.tabs X.Ks X.gv){H H':Hp}{t c:Str}{p:Nat}{ys:List V}{v:V}{kf kf' kt:List (Ky×V)}(hJ:J3 CR CF CB CT X H)(g:X.gv t c=some ys)(hp:p<ys.length)(ha:cO ys (p:Int)=some v)
 (hF:∀tb∈X.tabs,dE CF CB CT H X.fi X.bd X.fd X.lk tb.1 tb.2 kf)(w0:H X.fd=some (.dT kf))(w1:dU X.Ks kf)(w2:∀t c p v ys,X.gv t c=some ys->aQ kf (aU t c p)=some v->cO ys (p:Int)=some v)(w3:∀t c p,X.gv t c=none->aQ kf (aU t c p)=aQ X.kf0 (aU t c p))
 (hk:kf'=kf\/ kf'=aR kf (aU t c p) v)(fd':H' X.fd=some (.dT kf'))(tl0:H X.tl=some (.dT kt))(tk:dU X.Ks kt)(tl':H' X.tl=some (.dT (aR kt (aU t c p) (.bl true))))(fr:∀x o,x≠X.fd->x≠X.tl->H x=some o->H' x=some o):J3 CR CF CB CT X H':=by
 obtain⟨B0,hB0,_,_,_,_,hin⟩:=O.g t c ys g
 have mem:=hin p hp
 have k8:=O.k8
 have k:∀{x:Addr} {o:HO},H x=some o->(∀kvs,o≠ .dT kvs)->H' x=some o:=fun e n=>fr _ _ (fun y=>by rw[y,w0]at e;exact n _ (Option.some.inj e).symm) (fun y=>by rw[y,tl0]at e;exact n _ (Option.some.inj e).symm) e
 have w1':dU X.Ks kf':=by
  rcases hk with rfl|rfl
  ·exact w1
  ·exact w1.put mem
 have l':=w1'.len
 refine⟨⟨kf',fun tb htb=> ?_,fd',w1',fun t' c' p' v' ys' g' e=> ?_,fun t' c' p' g'=> ?_⟩,hJ.tr.imp fun _ e=>k e (fun _ y=>by cases y),⟨_,tl',tk.put mem⟩,fun t' c' ys' B' g1 g2=> ?_⟩
 ·obtain⟨dx,e1⟩:=(hF tb htb).fin
  obtain⟨kb,e2,e3⟩:=(hF tb htb).bds
  obtain⟨⟨d1,b1⟩,⟨⟨d2,b2⟩,b3,b4⟩,b5,b6,b7⟩:=(hF tb htb).B
  exact⟨⟨dx,k e1 (fun _ y=>by cases y)⟩,⟨kb,k e2 (fun _ y=>by cases y),e3⟩,⟨⟨d1,k b1 (fun _ y=>by cases y)⟩,⟨⟨d2,k b2 (fun _ y=>by cases y)⟩,k b3 (fun _ y=>by cases y),k b4 (fun _ y=>by cases y)⟩,k b5 (fun _ y=>by cases y),k b6 (fun _ y=>by cases y),k b7 (fun _ y=>by cases y)⟩,fd',by omega⟩
 ·rcases hk with rfl|rfl
  ·exact w2 t' c' p' v' ys' g' e
  ·rw[fT]at e
   split at e
   ·next h=>
    obtain⟨rfl,rfl,rfl⟩:=mY h
    rw[g]at g'
    rw[<- Option.some.inj g',<- Option.some.inj e]
    exact ha
   ·exact w2 t' c' p' v' ys' g' e
 ·rcases hk with rfl|rfl
  ·exact w3 t' c' p' g'
  ·rw[fT,if_neg (fun h=>by
    obtain⟨rfl,rfl,rfl⟩:=mY h
    rw[g]at g'
    cases g')]
   exact w3 t' c' p' g'
 ·obtain⟨l,g3,g4⟩:=hJ.cols t' c' ys' B' g1 g2
  exact⟨l,g3,k g4 (fun _ y=>by cases y)⟩
theorem a3H{X:Cx}{σ:St}{H₁:Hp}{f:eU}{q:Str}{params:Arguments}{body:Expr}{scope:Scope}{fa:Addr}{ps:List Str}{cp:List (Nat×Str)}{cv:List V}{k:Nat}{spB:List V->Hp->VK->Prop}{sc:Scope}{N:List Str}(la:gF q params body scope (eV X.env.cells scope.names []) H₁ fa)(L:pN X σ H₁ f)
 (hcell:∀x,X.env.scope.names.lookup x=some .cell->∃c,X.env.cells.lookup x=some c)
 (hcv:cp.map (fun p=>σ[p.1]?)=cv.map fun v=>some (some v))
 (hb:∀(pm ctv:Value) (c:Addr) (clos:List (Str×Addr)) (us:List Value),us.length=ps.length->bindArgs (PySem.W.kla_fn "<lambda>" q params body scope clos pm (.ref c) ctv) ⟨us,[]⟩=pure (ps.zip us))
 (hbody:∀(cd:Value) (A:Around) (outer:List Env) (s:Shared) (H:Hp) (vs:List V) (Q:VK),bT k (A.deeper (PySem.W.envX q scope s.heap.objs.size fa cd (eV X.env.cells scope.names [])))->spB vs H Q->
  ∃t,PE (oA X.prog X.w X.K X.mg X.base (ps++ cp.map (·.2)) q scope fa cd (eV X.env.cells scope.names []) A outer s H) body t/\t ((vs++ cv).map some) H Q)
 (hs:X.env.scope=sc:=by rfl)(hN:X.N=N:=by rfl)
 (hcp:∀p∈cp,N[p.1]?=some p.2/\sc.names.lookup p.2=some .cell/\scope.names.lookup p.2=some .free:=by decide+kernel)
 (free:∀y∈scope.names,y.2= .free->sc.names.lookup y.1=some .cell:=by decide+kernel)
 (kind:scope.kind= .function:=by rfl)(co:scope.isCoroutine=false:=by rfl)(gen:scope.isGenerator=false:=by rfl)(nocell:∀y∈scope.names,y.2≠ .cell:=by decide+kernel)(par:∀x∈ps,scope.names.lookup x=some .local:=by decide+kernel)(nd:(ps++ cp.map (·.2)).Nodup:=by decide+kernel):
 eF X.prog X.w X.K X.mg X.base (k+ 1) fa (mS fa f q params body scope (eV X.env.cells scope.names []) ps.length spB):=by
 subst hs hN
 exact a2Y L hcell hcv hcp free kind co gen nocell par nd hb hbody
theorem oQ{f:eU}{H:Hp}{b:Addr}{o:HO}(h:dO f H b=some o):f b=none/\H b=some o:=by
 cases e:f b with
 |none=>rw[dN e]at h;exact⟨rfl,h⟩
 |some ob=>rw[kC e]at h;cases h
theorem zE{f:eU}{H:Hp}(h:∀b o,f b=some o->H b=none):dO f (dR f H)=H:=by
 funext b
 cases e:f b with
 |none=>rw[dN e,eJ e]
 |some ob=>rw[kC e,h b ob e]
def JL(f:eU)(LL J:Hp->Prop)(H:Hp):Prop:=LL H/\(∀b o,f b=some o->H b=some (Fz o))/\J (dO f H)
theorem JL.st{f:eU}{LL J:Hp->Prop}{W:List Addr}{x y:Addr}(S:iP J W x y)(sl:∀H H',fL H H'->LL H->LL H'):iP (JL f LL J) W x y where
 there:=fun H h b mb z=>S.there _ h.2.2 b mb (by
  cases e:f b with
  |none=>rw[dN e];exact z
  |some ob=>exact kC e)
 stay:=fun H H' k kz h=>⟨sl _ _ kz h.1,fun b o e=>kz _ _ (h.2.1 b o e),S.stay _ _ (fun b o mb e=>by
  obtain⟨e1,e2⟩:=oQ e
  rw[dN e1]
  exact k _ _ mb e2) (fun b u e=>by
  obtain⟨e1,e2⟩:=oQ e
  rw[dN e1]
  exact kz _ _ e2) h.2.2⟩
 x:=fun H h=>let ⟨k,e⟩:=S.x _ h.2.2;⟨k,(oQ e).2⟩
 y:=fun H h=>let ⟨k,e⟩:=S.y _ h.2.2;⟨k,(oQ e).2⟩
section
variable{P:Program}{w:World}{K:Fg}{mg:Str->Option Value}{base:Heap}{k:Nat}{q:Str}{params:Arguments}{body:Expr}{scope:Scope}{clos:List (Str×Addr)}{fa:Addr}{f:eU}
theorem a6o{LL J:Hp->Prop}{W:List Addr}{x y:Addr}(S:iP J W x y)(sl:∀H H',fL H H'->LL H->LL H'){H H':Hp}(h:JL f LL J H)(fr:∀b o,f b=some o->H' b=none)(u:eT x y (dO f H) H')(j:J H'):eT x y H (dR f H')/\JL f LL J (dR f H'):=by
 have f2:eT x y H (dR f H'):=fun b o n1 n2 e=>by
  cases e2:f b with
  |none=>rw[eJ e2];exact u _ _ n1 n2 (by rw[dN e2];exact e)
  |some ob=>rw[h.2.1 b ob e2]at e;rw[lI e2];exact e
 obtain⟨k1,e1⟩:=S.x _ h.2.2
 obtain⟨k2,e2⟩:=S.y _ h.2.2
 have ex:=(oQ e1).2
 have ey:=(oQ e2).2
 refine⟨f2,sl _ _ (fun b u' e=>f2 _ _ (fun z=>by rw[z,ex]at e;cases e) (fun z=>by rw[z,ey]at e;cases e) e) h.1,fun b o e=>lI e,?_⟩
 rw[zE fr]
 exact j
def wL(J:Hp->Prop)(x y:Addr)(gv:Str->Str->Option (List V)):List V->Hp->VK->Prop:=fun vs H Q=>∃(t c:Str) (p:Nat) (ys:List V) (v:V),vs= [.str t,.str c,.int (p:Int)] /\J H/\gv t c=some ys/\p<ys.length/\cO ys (p:Int)=some v/\∀H',eT x y H H'->J H'->Q v H'
theorem a8G{LL J:Hp->Prop}{W:List Addr}{x y:Addr}{gv:Str->Str->Option (List V)}(S:iP J W x y)(sl:∀H H',fL H H'->LL H->LL H')(la:∀H,LL H->gF q params body scope clos H fa)
 (F:eF P w K mg base k fa (mS fa f q params body scope clos 3 (wL J x y gv))):eF P w K mg base k fa (rJ (JL f LL J) x y gv):=by
 refine F.imp fun vs H Q E h=> ?_
 obtain⟨t,c,p,ys,v,rfl,hJ,hg,hp,ha,qq⟩:=h
 refine⟨rfl,la _ hJ.1,hJ.2.1,t,c,p,ys,v,rfl,hJ.2.2,hg,hp,ha,fun H' u j fr=> ?_⟩
 obtain⟨f2,j2⟩:=a6o S sl hJ fr u j
 exact qq _ f2 j2
def zL(J:Hp->Prop)(mv:Str->Nat->Prop):List V->Hp->VK->Prop:=fun vs H Q=>∃(t:Str) (m:Nat),vs= [.str t] /\mv t m/\J H/\∀H',aD H H'->Q (.int (m:Int)) H'
theorem a6c{LL J:Hp->Prop}{mv:Str->Nat->Prop}(la:∀H,LL H->gF q params body scope clos H fa)
 (F:eF P w K mg base k fa (mS fa f q params body scope clos 1 (zL J mv))):eF P w K mg base k fa (wO (JL f LL J) mv):=by
 refine F.imp fun vs H Q E h=> ?_
 obtain⟨t,m,rfl,hm,hJ,qq⟩:=h
 refine⟨rfl,la _ hJ.1,hJ.2.1,t,m,rfl,hm,hJ.2.2,fun H' s' fr=> ?_⟩
 refine qq _ (fun b o e=> ?_)
 cases e2:f b with
 |none=>rw[eJ e2];exact s' b o (by rw[dN e2];exact e)
 |some ob=>rw[hJ.2.1 b ob e2]at e;rw[lI e2];exact e
end
theorem nT{q:Str}{params:Arguments}{body:Expr}{scope:Scope}{clos:List (Str×Addr)}{H H':Hp}{fa:Addr}(s:fL H H')(h:gF q params body scope clos H fa):gF q params body scope clos H' fa:=by
 obtain⟨pm,c,ctv,o,e1,e2,e3⟩:=h
 exact⟨pm,c,ctv,o,s _ _ e1,s _ _ e2,e3⟩
theorem a8Z{P:Program}{w:World}{K:Fg}{mg:Str->Option Value}{base:Heap}{k:Nat}{q q':Str}{params params':Arguments}{body body':Expr}{scope scope':Scope}{clos clos':List (Str×Addr)}{la lm:Addr}{f:eU}{J:Hp->Prop}{W:List Addr}{x y:Addr}{gv:Str->Str->Option (List V)}{mv:Str->Nat->Prop}{H:Hp}(S:iP J W x y)(free:∀b o,f b=some o->H b=none)(hJ:J H)(lA:gF q params body scope clos H la)(lB:gF q' params' body' scope' clos' H lm)
 (F1:eF P w K mg base k la (mS la f q params body scope clos 3 (wL J x y gv)))(F2:eF P w K mg base k lm (mS lm f q' params' body' scope' clos' 1 (zL J mv))):
 ∃J',J' (dR f H)/\iP J' W x y/\(∀H1,J' H1->(∀b o,f b=some o->H1 b=some (Fz o))/\J (dO f H1))/\eF P w K mg base k la (rJ J' x y gv)/\eF P w K mg base k lm (wO J' mv):=by
 have st:∀H H':Hp,fL H H'->(gF q params body scope clos H la/\gF q' params' body' scope' clos' H lm)->gF q params body scope clos H' la/\gF q' params' body' scope' clos' H' lm:=fun H H' s h=>⟨nT s h.1,nT s h.2⟩
 have kz:fL H (dR f H):=fun b u e=>by
  cases e2:f b with
  |none=>rw[eJ e2];exact e
  |some ob=>rw[free b ob e2]at e;cases e
 refine⟨JL f (fun H=>gF q params body scope clos H la/\gF q' params' body' scope' clos' H lm) J,⟨st _ _ kz ⟨lA,lB⟩,fun b o e=>lI e,?_⟩,JL.st S st,fun H1 h=>h.2,a8G S st (fun H h=>h.1) F1,a6c (fun H h=>h.2) F2⟩
 rw[zE free]
 exact hJ
abbrev jI:Str:=("Finder.gathered":Str)++ ".<locals>." ++ "<lambda>"
def a8r(H H':Hp):Prop:=∀b o,(∀φ,o≠ .ext φ)->H b=some o->H' b=some o
def mvX(tabs:List (Str×BM))(t:Str)(m:Nat):Prop:=∃B,(t,B)∈tabs/\B.xs.length=m
section
variable{P:Program}{w:World}{K:Fg}{mg:Str->Option Value}{base:Heap}
def sG(P:Program)(w:World)(K:Fg)(mg:Str->Option Value)(base:Heap)(spg:Sp)(gr:Addr)(tabs:List (Str×BM))(gv:Str->Str->Option (List V))(fd tl:Addr)(nm c:Str)(p:Nat)(tf:PyData ⊕ List Int)(H:Hp):Prop:=
 ∀(look many:Addr) (J:Hp->Prop) (W:List Addr) (HB:Hp) (Q':VK),a8r H HB->J HB->iP J W fd tl->eF P w K mg base 6 look (rJ J fd tl gv)->eF P w K mg base 6 many (wO J (mvX tabs))->
  (∀H' fv,eT fd tl HB H'->J H'->oF K gv HB H' fv tf->Q' fv H')->spg [.ref gr,.ref look,.ref many,.str nm,.str c,.int (p:Int)] HB Q' E0
def a2N(P:Program)(w:World)(K:Fg)(mg:Str->Option Value)(base:Heap)(CR CF CB CT CG zt:Addr)(spg:Sp):Sp:=fun vs H Q _=>∃(X:mB) (W:List Addr) (gr dx:Addr) (fs:List (Str×V)) (nm c:Str) (B:BM) (p:Nat) (tf:PyData ⊕ List Int),vs= [.ref X.fi,.ref X.tr,.str nm,.str c,.int (p:Int)] /\J3 CR CF CB CT X H/\X.tl≠X.fd/\vD X.tabs X.Ks X.gv/\xB X W/\zt∉W/\(nm,B)∈X.tabs/\aQ B.rus (.inr c:aB)=some (.ref gr)/\H gr=some (.ins CG dx fs)/\fs.lookup ("gather":Str)=none/\gP jI H zt/\sG P w K mg base spg gr X.tabs X.gv X.fd X.tl nm c p tf H/\
 ∀H' fv,(∀b o,b≠X.fd->b≠X.tl->b≠zt->H b=some o->H' b=some o)->J3 CR CF CB CT X H'->gP jI H' zt->oF K X.gv H H' fv tf->Q fv H'
abbrev kJ:List Str:=["self","trial","table","column","place"]
theorem a53:aV kJ kJ (aN gQ):=⟨rfl,rfl,rfl,by decide+kernel,rfl,by decide+kernel,by decide+kernel⟩
theorem a6r(T:aW K mg){CR CF CB CT CG:Addr}(R:lF K mg CR)(Y:eW K mg CF)(Wb:bU K mg CB)(Z:cI K mg CT)(clG:cW K CG){z:Addr×Addr}(B2:jP K mg "Finder" "gathered" "Finder.gathered" gQ z)(M:iO mg base z.1 z.2){spg:Sp}(G_gather:aL P w K mg base aC 8 CG "gather" ["self","look","many","table","column","place"] spg):aL P w K mg base aC 9 CF "gathered" kJ (a2N P w K mg base CR CF CB CT CG z.2 spg):=by
 have G_look:aL P w K mg base aC 5 CR "look" ["self","table","column","place"] (a1Q CR CF CB CT):=a6w T R Y Wb Z
 have G_many:aL P w K mg base aC 1 CT "many" ["self"] (lL CT):=mW T Z
 refine B2.known Y.c a53 (fun _ _ _ _ _ _ us hl=>wK (fun _ _ _ _ _=>rfl) us hl) (fun vs H Q E h=> ?_) (fun f A outer s H vs Q E hr h=> ?_)
 ·obtain⟨X,W,gr,dx,fs,nm,c,B,p,tf,rfl,_⟩:=h
  rfl
 ·obtain⟨X,W,gr,dx,fs,nm,c,B,p,tf,rfl,hJ,netl,O,wof,nzW,hB,hru,hgr,hno,tb,use,q⟩:=h
  have S:=J3.st (CR:=CR) (CF:=CF) (CB:=CB) (CT:=CT) wof
  have hu:=eB hr
  have hcl:∀x,(cY aC P w K mg base kJ "Finder.gathered" (aN gQ) f (.ref z.1) A outer s H E).nox.env.scope.names.lookup x=some .cell->∃c,(cY aC P w K mg base kJ "Finder.gathered" (aN gQ) f (.ref z.1) A outer s H E).nox.env.cells.lookup x=some c:=fun x hx=>Option.isSome_iff_exists.mp (PySem.W.cellsFrom_some _ _ _ (.inl hx))
  refine⟨_,(aI (bA (a7I (fY hu (aT (fY hu (aT (pv 0) rfl) (pv 2) (fun _ _=>rfl)) rfl) (pv 3) (fun _ _=>rfl)) clG G_gather hr (aA (wH M rfl (iY (sc:=aN gQ) (N:=kJ) (cp:=[(1,"trial")]) hcl).clos rfl) (aA (wH M rfl (iY (sc:=aN gQ) (N:=kJ) (cp:=[(0,"self")]) hcl).clos rfl) (aA (pv 2) (aA (pv 3) (aA (pv 4) aE)))))))),?_⟩
  obtain⟨kf,F0,e0,r1,r2,r3⟩:=hJ.kf
  have F:=F0 _ hB
  obtain⟨d0,e1⟩:=F.fin
  obtain⟨kb,e2,e3⟩:=F.bds
  obtain⟨⟨d1,b1⟩,_,b5,_,_⟩:=id F.B
  refine⟨_,rfl,X.fi,CF,d0,_,_,rfl,e1,Y.cl,Y.n_boards,(jL _ _ _).1,_,rfl,X.bd,_,rfl,e3▸cA.k (k:=Sum.inr nm) e2,B.b,CB,d1,_,_,rfl,b1,Wb.cl,Wb.n_rules,(dH _ _ _ _).2.1,_,rfl,B.ru,_,rfl,hru▸cA.k (k:=Sum.inr c) b5,gr,dx,_,rfl,hgr,hno,tb,fun la HA hla sA tA lA=>⟨tA,fun lm HB hlm sB tB lB=>⟨_,rfl,_,rfl,_,rfl,fun f' Ln=> ?_⟩⟩⟩
  obtain⟨S0,t0,_⟩:=id tb
  have uB:a0O z.2 H HB:=fun b o n e=>sB b o n (sA b o n e)
  have nz:∀{b:Addr} {o:HO},H b=some o->(∀φ,o≠ .ext φ)->b≠z.2:=fun e n y=>by rw[y,t0]at e;exact n _ (Option.some.inj e).symm
  obtain⟨SA,tA0,_⟩:=id tA
  have kzAB:fL HA HB:=fun b u e=>sB _ _ (fun y=>by rw[y,tA0]at e;cases e) e
  have kzB:fL H HB:=fun b u e=>uB _ _ (nz e (fun φ y=>by cases y)) e
  have JB:J3 CR CF CB CT X HB:=S.stay _ _ (fun b o mb e=>uB _ _ (fun y=>nzW (y▸mb)) e) kzB hJ
  have F1:=a3H (sc:=aN gQ) (N:=kJ) (ps:=["theirs","name","row"]) (cp:=[(1,"trial")]) (cv:=[.ref X.tr]) (k:=5) (spB:=wL (J3 CR CF CB CT X) X.fd X.tl X.gv) (nT kzAB lA) Ln hcl rfl (fun _ _ _ _ us hl=>eM (fun _ _ _=>rfl) us hl) (fun cd A' outer' s' H' vs Q' hr' h'=>by
   obtain⟨t',c',p',ys',v',rfl,hJ',g',hp',ha',q'⟩:=h'
   refine⟨_,(bH (pv 3) R.cl G_look hr' aM (aA (pv 0) (aA (pv 1) (aA (pv 2) aE)))),?_⟩
   obtain⟨B',hB',cN,tN,cR,cL,cK⟩:=O.g t' c' ys' g'
   obtain⟨kf',F',w0,w1,w2,w3⟩:=hJ'.kf
   obtain⟨d3,t1⟩:=hJ'.tr
   obtain⟨kt',t2,t3⟩:=hJ'.tl
   obtain⟨l',g3,g4⟩:=hJ'.cols t' c' ys' B' g' hB'
   have kl:=w1.len
   have tl':=t3.len
   have k8:=O.k8
   refine⟨_,rfl,X.tr,d3,_,rfl,t1,(wE _ _ _).2.2.2,_,rfl,_,rfl,_,rfl,X.tr,X.tl,X.fi,X.bd,X.fd,X.lk,l',d3,t',c',p',B',kf',kt',ys',v',rfl,t1,t2,by omega,netl,F' _ hB',cR,cN,g3,g4,by omega,ha',fun v2 hv2=> ?_,by omega,fun H2 kf2 hk2 F2 ht2 fr2=>q' H2 fr2 (J3.look netl O hJ' g' hp' ha' F' w0 w1 w2 w3 hk2 F2.fnd t2 t3 ht2 fr2)⟩
   have:=w2 t' c' p' v2 ys' g' hv2
   rw[ha']at this
   exact(Option.some.inj this).symm)
  have F2:=a3H (sc:=aN gQ) (N:=kJ) (ps:=["theirs"]) (cp:=[(0,"self")]) (cv:=[.ref X.fi]) (k:=5) (spB:=zL (J3 CR CF CB CT X) (mvX X.tabs)) lB Ln hcl rfl (fun _ _ _ _ us hl=>eD (fun _=>rfl) us hl) (fun cd A' outer' s' H' vs Q' hr' h'=>by
   obtain⟨t',m',rfl,⟨B',hB',rfl⟩,hJ',q'⟩:=h'
   refine⟨_,(eO (aT (fY (eB hr') (aT (pv 1) rfl) (pv 0) (fun _ _=>rfl)) rfl) Z.cl G_many (hr'.mono (by decide)) aM),?_⟩
   obtain⟨kf',F0',_⟩:=hJ'.kf
   have F':=F0' _ hB'
   obtain⟨d0',e1'⟩:=F'.fin
   obtain⟨kb',e2',e3'⟩:=F'.bds
   obtain⟨⟨d1',b1'⟩,tb',_,_,_⟩:=id F'.B
   obtain⟨⟨d2',b2'⟩,_,_⟩:=id tb'
   exact⟨_,rfl,X.fi,CF,d0',_,_,rfl,e1',Y.cl,Y.n_boards,(jL _ _ _).1,_,rfl,X.bd,_,rfl,e3'▸cA.k (k:=Sum.inr t') e2',B'.b,CB,d1',_,_,rfl,b1',Wb.cl,Wb.n_given,(dH _ _ _ _).1,B'.g,d2',_,rfl,b2',jN,B'.g,B'.r,B'.e,B'.xs,B'.n,B'.kvs,rfl,tb',q' _ (aD.refl _)⟩)
  obtain⟨J',j1,S',j2,L1,L2⟩:=a8Z S Ln.free JB (nT kzAB lA) lB F1 F2
  have nofL:∀b o,HB b=some o->f' b=none:=fun b o e=>by
   cases e2:f' b with
   |none=>rfl
   |some ob=>rw[Ln.free b ob e2]at e;cases e
  have sL:aD HB (dR f' HB):=fun b o e=>by rw[eJ (nofL b o e)];exact e
  refine use la lm J' W (dR f' HB) _ (fun b o n e=>sL _ _ (uB _ _ (nz e n) e)) j1 S' L1 L2 fun H' fv fr J2 told=> ?_
  obtain⟨lf,JJ⟩:=j2 _ J2
  have KN:∀{b:Addr} {o:HO},(∀u,o≠Fz u)->H' b=some o->dO f' H' b=some o:=fun{b o} n e=>by
   cases e2:f' b with
   |none=>rw[dN e2];exact e
   |some ob=>rw[lf b ob e2]at e;exact absurd (Option.some.inj e).symm (n ob)
  have up:∀{b:Addr} {o:HO},b≠X.fd->b≠X.tl->HB b=some o->dO f' H' b=some o:=fun{b o} n1 n2 e=>by
   rw[dN (nofL b o e)]
   exact fr _ _ n1 n2 (sL _ _ e)
  obtain⟨kx,ex⟩:=S.x _ JB
  obtain⟨ky,ey⟩:=S.y _ JB
  have nxy:∀{b:Addr} {o:HO},HB b=some o->(∀kvs,o≠ .dT kvs)->b≠X.fd/\b≠X.tl:=fun e n=>⟨(fun y=>by rw[y,ex]at e;exact n _ (Option.some.inj e).symm),(fun y=>by rw[y,ey]at e;exact n _ (Option.some.inj e).symm)⟩
  refine q _ fv (fun b o n1 n2 n3 e=>up n1 n2 (uB _ _ n3 e)) JJ ?_ ?_
  ·obtain⟨SB,tB0,tB1⟩:=tB
   have n0:=nxy tB0 (fun _ y=>by cases y)
   refine⟨SB,up n0.1 n0.2 tB0,fun c' hc'=> ?_⟩
   obtain⟨o,o1,o2⟩:=tB1 c' hc'
   have n1:=nxy o1 (fun _ y=>by cases y)
   exact⟨o,up n1.1 n1.2 o1,o2⟩
  ·have ktu:bF H' (dO f' H'):=fun a xs e=>KN (fun u y=>by cases y) e
   cases tf with
   |inl d=>
    obtain⟨a,v,r1',r2',r3',r4'⟩:=told
    exact⟨a,v,r1',ktu _ _ r2',r3'.keep ktu,r4'⟩
   |inr is=>
    obtain⟨a,l,r1',r2',r3',r4'⟩:=told
    refine⟨a,l,r1',ktu _ _ r2',KN (fun u y=>by cases y) r3',?_⟩
    cases e:H l with
    |none=>rfl
    |some o=>
     exfalso
     by_cases y:l=z.2
     ·rw[y]at r4'
      obtain⟨SB,tB0,_⟩:=tB
      rw[sL _ _ tB0]at r4'
      cases r4'
     ·rw[sL _ _ (uB _ _ y e)]at r4'
      cases r4'
def a2u(K:Fg)(CF CB CT:Addr)(sp:Sp):Sp:=fun vs H Q _=>∃(fi ce ta:Addr),vs= [.ref fi,.ref ce,.ref ta] /\
 ((∃v,H ta=some (.tup [.str ("value":Str),v])/\Q v H)\/
  ∃(bd fd lk l:Addr) (nm c:Str) (p:Nat) (B:BM) (kf:List (Ky×V)),H ta=some (.tup [.str ("call":Str),.ref l])/\dE CF CB CT H fi bd fd lk nm B kf/\H ce=some (.tup ((aU nm c p).map kV))/\sp [.ref B.b,.str c,.int (p:Int),.ref l] H Q E0)
theorem a6q:aV ["self","cell","told"] ["self","cell","told"] (aN a0N):=⟨rfl,rfl,rfl,by decide+kernel,rfl,by decide+kernel,by decide+kernel⟩
theorem a8J(T:aW K mg){CF CB CT:Addr}(Y:eW K mg CF)(Wb:bU K mg CB){sp:Sp}{k:Nat}(G:aL P w K mg base aC k CB "outcome" ["self","column","place","some"] sp):aL P w K mg base aC (k+ 1) CF "settle" ["self","cell","told"] (a2u K CF CB CT sp):=by
 refine Y.m_settle.known a6q (fun _ _ _ _ _ _ us hl=>eM (fun _ _ _=>rfl) us hl) (fun vs H Q E h=> ?_) (fun f cdv A outer s H vs Q E hr h=> ?_)
 ·obtain⟨fi,ce,ta,rfl,_⟩:=h
  rfl
 ·obtain⟨fi,ce,ta,rfl,h⟩:=h
  have hu:=eB hr
  refine⟨_,(aH (bM (cE oN (cJ fB (pv 2) bJ (fun _ _=>rfl)) cF (cH _)) (aI (bA (cJ fB (pv 2) bJ (fun _ _=>rfl)))) bP)
   (aI (bA (bH (fY hu (aT (pv 0) rfl) (cJ fB (pv 1) bJ (fun _ _=>rfl)) (fun _ _=>rfl)) Wb.cl G hr aM (aA (cJ fB (pv 1) bJ (fun _ _=>rfl)) (aA (cJ fB (pv 1) bJ (fun _ _=>rfl)) (aA (cJ fB (pv 2) bJ (fun _ _=>rfl)) aE))))))),?_⟩
  rcases h with⟨v,hta,q⟩|⟨bd,fd,lk,l,nm,c,p,B,kf,hta,F,hce,q⟩
  ·refine⟨_,rfl,ta,_,_,_,rfl,rfl,bW.of hta,rfl,rfl,_,rfl,dL (fun _=> ?_) (fun h=>absurd (decide_eq_true rfl) h)⟩
   exact⟨_,rfl,ta,_,_,_,rfl,rfl,bW.of hta,rfl,q⟩
  ·refine⟨_,rfl,ta,_,_,_,rfl,rfl,bW.of hta,rfl,rfl,_,rfl,dL (fun h=>absurd (V.str.inj (of_decide_eq_true h)) (by decide)) (fun _=> ?_)⟩
   obtain⟨d0,e1⟩:=F.fin
   obtain⟨kb,e2,e3⟩:=F.bds
   obtain⟨d1,b1⟩:=F.B.at_
   exact⟨_,rfl,fi,CF,d0,_,_,rfl,e1,Y.cl,Y.n_boards,(jL _ _ _).1,_,rfl,ce,_,_,_,rfl,rfl,bW.of hce,rfl,bd,_,rfl,e3▸cA.k (k:=Sum.inr nm) e2,B.b,d1,_,rfl,b1,nS,_,rfl,ce,_,_,_,rfl,rfl,bW.of hce,rfl,_,rfl,ce,_,_,_,rfl,rfl,bW.of hce,rfl,_,rfl,ta,_,_,_,rfl,rfl,bW.of hta,rfl,q⟩
def uQ(CF CB CT:Addr):Sp:=fun vs H Q _=>∃(fi bd fd lk ce:Addr) (nm c:Str) (p:Nat) (B:BM) (kf:List (Ky×V)) (r v:V),vs= [.ref fi,.ref ce] /\dE CF CB CT H fi bd fd lk nm B kf/\H ce=some (.tup ((aU nm c p).map kV))/\aQ B.rus (.inr c:aB)=some r/\aQ kf (aU nm c p)=some v/\Q .non H
abbrev a4s:List Str:=["self","cell","trial","told"]
theorem sY:aV a4s ["self","cell"] (aN pB):=⟨rfl,rfl,rfl,by decide+kernel,rfl,by decide+kernel,by decide+kernel⟩
theorem a7z(T:aW K mg){CF CB CT:Addr}(Y:eW K mg CF)(Wb:bU K mg CB):iU P w K mg base 5 "attempt" "Finder.attempt" pB ["self","cell"] (uQ CF CB CT):=by
 have G_knows:aL P w K mg base aC 4 CF "knows" ["self","cell"] (wX CF CB CT):=a0W T Y Wb
 refine zD sY (fun vs H Q E h=> ?_) (fun f cdv A outer s H vs Q E hr h=> ?_)
 ·obtain⟨fi,bd,fd,lk,ce,nm,c,p,B,kf,r,v,rfl,_⟩:=h
  rfl
 ·obtain⟨fi,bd,fd,lk,ce,nm,c,p,B,kf,r,v,rfl,F,hce,hru,hv,q⟩:=h
  refine⟨_,(aH (bM (cM (bH (pv 0) Y.cl G_knows hr aM (aA (pv 1) aE)) (fun _=>rfl)) (aI (bA iQ)) bP)
   (aH cB (aH cB (aH cB (aI cB))))),?_⟩
  obtain⟨d0,e1⟩:=F.fin
  refine⟨_,rfl,fi,d0,_,rfl,e1,kF,_,rfl,fi,bd,fd,lk,ce,nm,c,p,B,kf,r,rfl,F,hce,hru,_,rfl,?_⟩
  rw[hv]
  exact cD q
end
structure fU where
 fi:Addr
 bd:Addr
 fd:Addr
 lk:Addr
 tabs:List (Str×BM)
 Ks:List Ky
 gv:Str->Str->Option (List V)
 nm:Str
 c:Str
 B:BM
 gr:Addr
 fa:Addr
 ca:Addr
 mc:Addr
 fs:List (Str×V)
 g:List Int->PyData
 ok:List Int->Prop
structure nD(X:fU):Prop where
 o3:vD X.tabs X.Ks X.gv
 hB:(X.nm,X.B)∈X.tabs
 ru:aQ X.B.rus (.inr X.c:aB)=some (.ref X.gr)
 me:aQ X.B.mes (.inr X.c:aB)=some (.ref X.mc)
 no:X.gv X.nm X.c=none
 kin:∀p,p<X.B.xs.length->aU X.nm X.c p∈X.Ks
 rf:RF X.fs X.fa
 ga:X.fs.lookup ("gather":Str)=none
 gg:∀is,X.ok is->lR (X.g is)/\Vd (gU (X.g is))
 fl:X.fd≠X.lk
 mb:X.mc≠X.bd
 mm:∀tb∈X.tabs,X.mc≠tb.2.e/\X.mc≠tb.2.ru/\X.mc≠tb.2.me
 cc:∀tb∈X.tabs,X.ca≠tb.2.r/\X.ca≠tb.2.od
 cl:∀t c ys B,X.gv t c=some ys->(t,B)∈X.tabs->aQ B.kvs (.inr c:aB)≠some (.ref X.ca)
section
variable{P:Program}{w:World}{K:Fg}{mg:Str->Option Value}{base:Heap}
structure iK(P:Program)(w:World)(K:Fg)(mg:Str->Option Value)(base:Heap)(CF CB CT CG:Addr)(X:fU)(kf kl:List (Ky×V))(mk:List (aB×V))(H:Hp):Prop where
 F:∀tb∈X.tabs,dE CF CB CT H X.fi X.bd X.fd X.lk tb.1 tb.2 kf
 ko:dU X.Ks kf
 fo:∀t c p v ys,X.gv t c=some ys->aQ kf (aU t c p)=some v->cO ys (p:Int)=some v
 hl:H X.lk=some (.dT kl)
 lo:dU X.Ks kl
 cols:∀t c ys B,X.gv t c=some ys->(t,B)∈X.tabs->∃l,aQ B.kvs (.inr c:aB)=some (.ref l)/\H l=some (.lst ys)
 gr:∃dx,H X.gr=some (.ins CG dx X.fs)
 fn:jW P w K mg base 4 H X.fa X.ca X.g X.ok
 mc:H X.mc=some (.dK mk)
theorem iK.fnd{CF CB CT CG:Addr}{X:fU}{kf kl:List (Ky×V)}{mk:List (aB×V)}{H:Hp}(G:iK P w K mg base CF CB CT CG X kf kl mk H)(O:nD X):H X.fd=some (.dT kf):=(G.F _ O.hB).fnd
theorem iK.same{CF CB CT CG:Addr}{X:fU}{kf kl:List (Ky×V)}{mk:List (aB×V)}{H H':Hp}(G:iK P w K mg base CF CB CT CG X kf kl mk H)(s:aD H H'):iK P w K mg base CF CB CT CG X kf kl mk H':=
 ⟨fun tb h=>(G.F tb h).same s,G.ko,G.fo,s _ _ G.hl,G.lo,fun t c ys B g h=>let ⟨l,a,b⟩:=G.cols t c ys B g h;⟨l,a,s _ _ b⟩,G.gr.imp fun _ e=>s _ _ e,G.fn.keep (fL.of s),s _ _ G.mc⟩
def nC(K:Fg)(X:fU)(num:Int)(wo:Option (List Int×V))(mk mk':List (aB×V))(cs:List V)(v:V)(H H':Hp):PyData ⊕ List Int->Prop
 | .inl d=>Pv K H' v d/\zM X.gv v/\mk'=mk/\H' X.ca=some (.lst cs)
 | .inr is=>(wo=some (is,v)/\mk'=mk/\H' X.ca=some (.lst cs))\/
  ((∀vv,wo≠some (is,vv))/\∃tp sm,H tp=none/\H sm=none/\H' X.ca=some (.lst cs)/\H' tp=some (.tup [.ref sm,v])/\H' sm=some (.lst (is.map V.int))/\mk'=aR mk (.inl num:aB) (.ref tp)/\oP K v (gU (X.g is)))
def rR(a b c d e:Addr)(H H':Hp):Prop:=∀x o,x≠a->x≠b->x≠c->x≠d->x≠e->H x=some o->H' x=some o
def qF(H:Hp)(mk:List (aB×V))(p:Int):Option (List Int×V)->Prop
 |none=>aQ mk (.inl p:aB)=none
 |some jv=>oI H mk p jv.1 jv.2
theorem mV{q:Str}{H H':Hp}{z:Addr}(h:gP q H z)(k:∀b o,(∀x,o≠ .dT x)->(∀x,o≠ .dK x)->(∀x,o≠ .lst x)->H b=some o->H' b=some o):gP q H' z:=by
 obtain⟨S,h1,h2⟩:=h
 refine⟨S,k _ _ (fun x y=>by cases y) (fun x y=>by cases y) (fun x y=>by cases y) h1,fun c hc=> ?_⟩
 obtain⟨o,o1,o2⟩:=h2 c hc
 exact⟨o,k _ _ (fun x y=>by cases y) (fun x y=>by cases y) (fun x y=>by cases y) o1,o2⟩
theorem iK.to{CF CB CT CG zt:Addr}{X:fU}(O:nD X){kf kl kf' kl':List (Ky×V)}{mk mk':List (aB×V)}{cs:List V}{H H':Hp}(G:iK P w K mg base CF CB CT CG X kf kl mk H)(fr:rR X.fd X.lk zt X.ca X.mc H H')(tb:gP jI H zt)(hca:H X.ca=some (.lst cs))(hfd:H' X.fd=some (.dT kf'))(hlk:H' X.lk=some (.dT kl'))(hmc:H' X.mc=some (.dK mk'))(ko:dU X.Ks kf')(lo:dU X.Ks kl')(fo:∀t c p v ys,X.gv t c=some ys->aQ kf' (aU t c p)=some v->cO ys (p:Int)=some v):iK P w K mg base CF CB CT CG X kf' kl' mk' H':=by
 obtain⟨S0,t0,_⟩:=tb
 have fd0:=G.fnd O
 have u:∀{b:Addr} {o:HO},H b=some o->(∀x,o≠ .dT x)->(∀x,o≠ .ext x)->b≠X.ca->b≠X.mc->H' b=some o:=fun{b o} e n1 n2 n3 n4=>fr b o (fun y=>by rw[y,fd0]at e;exact n1 _ (Option.some.inj e).symm) (fun y=>by rw[y,G.hl]at e;exact n1 _ (Option.some.inj e).symm) (fun y=>by rw[y,t0]at e;exact n2 _ (Option.some.inj e).symm) n3 n4 e
 have na:∀{b:Addr} {o:HO},H b=some o->(∀x,o≠ .lst x)->b≠X.ca:=fun e n y=>by rw[y,hca]at e;exact n _ (Option.some.inj e).symm
 have nm:∀{b:Addr} {o:HO},H b=some o->(∀x,o≠ .dK x)->b≠X.mc:=fun e n y=>by rw[y,G.mc]at e;exact n _ (Option.some.inj e).symm
 have ui:∀{b C dx:Addr} {fs:List (Str×V)},H b=some (.ins C dx fs)->H' b=some (.ins C dx fs):=fun e=>u e (fun _ y=>by cases y) (fun _ y=>by cases y) (na e (fun _ y=>by cases y)) (nm e (fun _ y=>by cases y))
 have ul:∀{b:Addr} {xs:List V},H b=some (.lst xs)->b≠X.ca->H' b=some (.lst xs):=fun e n=>u e (fun _ y=>by cases y) (fun _ y=>by cases y) n (nm e (fun _ y=>by cases y))
 have ud:∀{b:Addr} {xs:List (aB×V)},H b=some (.dK xs)->b≠X.mc->H' b=some (.dK xs):=fun e n=>u e (fun _ y=>by cases y) (fun _ y=>by cases y) (na e (fun _ y=>by cases y)) n
 have kz:fL H H':=fun a x e=>u e (fun _ y=>by cases y) (fun _ y=>by cases y) (na e (fun _ y=>by cases y)) (nm e (fun _ y=>by cases y))
 have l':=ko.len
 have k8:=O.o3.k8
 refine⟨fun tb htb=> ?_,ko,fo,hlk,lo,fun t c ys B g h=>let ⟨l,h1,h2⟩:=G.cols t c ys B g h;⟨l,h1,ul h2 (fun y=>O.cl t c ys B g h (y▸h1))⟩,G.gr.imp fun _ e=>ui e,G.fn.keep kz,hmc⟩
 obtain⟨d0,e1⟩:=(G.F tb htb).fin
 obtain⟨kb,e2,e3⟩:=(G.F tb htb).bds
 obtain⟨⟨d1,b1⟩,⟨⟨d2,b2⟩,b3,b4⟩,b5,b6,b7⟩:=(G.F tb htb).B
 obtain⟨m1,m2,m3⟩:=O.mm tb htb
 obtain⟨c1,c2⟩:=O.cc tb htb
 exact⟨⟨d0,ui e1⟩,⟨kb,ud e2 O.mb.symm,e3⟩,⟨⟨d1,ui b1⟩,⟨⟨d2,ui b2⟩,ul b3 c1.symm,ud b4 m1.symm⟩,ud b5 m2.symm,ud b6 m3.symm,ul b7 c2.symm⟩,hfd,by omega⟩
theorem a4X{κ:Type} [DecidableEq κ]{kvs:List (κ×V)}{k:κ}{v:V}(h:aQ kvs k=some v):(k,v)∈kvs:=by
 unfold aQ at h
 cases e:kvs.find? fun kv=>decide (kv.1=k)with
 |none=>rw[e]at h;cases h
 |some kv=>
  rw[e]at h
  have h2:kv.2=v:=Option.some.inj h
  have h1:kv.1=k:=by have:=List.find?_some e;simpa using this
  rw[<- h1,<- h2]
  exact List.mem_of_find?_eq_some e
open Classical in
noncomputable def yQ (tabs:List (Str×BM)) (gv:Str->Str->Option (List V)):List Addr:=tabs.flatMap fun tb=>tb.2.kvs.filterMap fun kv=>match kv with
 |(.inr c,.ref l)=>if(gv tb.1 c).isSome/\aQ tb.2.kvs (.inr c:aB)=some (.ref l) then some l else none
 |_=>none
theorem a9t{tabs:List (Str×BM)}{gv:Str->Str->Option (List V)}{t c:Str}{ys:List V}{B:BM}{l:Addr}(g:gv t c=some ys)(h:(t,B)∈tabs)(e:aQ B.kvs (.inr c:aB)=some (.ref l)):l∈yQ tabs gv:=by
 refine List.mem_flatMap.mpr ⟨(t,B),h,List.mem_filterMap.mpr ⟨_,a4X e,?_⟩⟩
 show(if(gv t c).isSome/\aQ B.kvs (.inr c:aB)=some (.ref l) then some l else none)=some l
 rw[if_pos ⟨by rw[g];rfl,e⟩]
theorem a3V{tabs:List (Str×BM)}{gv:Str->Str->Option (List V)}{l:Addr}(h:l∈yQ tabs gv):∃t c ys B,gv t c=some ys/\(t,B)∈tabs/\aQ B.kvs (.inr c:aB)=some (.ref l):=by
 obtain⟨tb,h1,h2⟩:=List.mem_flatMap.mp h
 obtain⟨kv,h3,h4⟩:=List.mem_filterMap.mp h2
 split at h4
 ·next c l'=>
  split at h4
  ·next hc=>
   cases h4
   obtain⟨ys,hy⟩:=Option.isSome_iff_exists.mp hc.1
   exact⟨tb.1,c,ys,tb.2,hy,h1,hc.2⟩
  ·cases h4
 ·cases h4
theorem dE.noext{CF CB CT:Addr}{H:Hp}{fi bd fd lk:Addr}{nm:Str}{B:BM}{kf:List (Ky×V)}(F:dE CF CB CT H fi bd fd lk nm B kf){b:Addr}(hb:b∈ [fi,bd,fd] ++ B.foot){φ:Heap->Prop}(z:H b=some (HO.ext φ)):False:=by
 obtain⟨dx,e1⟩:=F.fin
 obtain⟨kb,e2,e3⟩:=F.bds
 obtain⟨⟨d1,b1⟩,⟨⟨d2,b2⟩,b3,b4⟩,b5,b6,b7⟩:=F.B
 have e0:=F.fnd
 simp only[BM.foot,List.cons_append,List.nil_append,List.mem_cons,List.not_mem_nil,or_false]at hb
 rcases hb with rfl|rfl|rfl|rfl|rfl|rfl|rfl|rfl|rfl|rfl
 ·rw[e1]at z;cases z
 ·rw[e2]at z;cases z
 ·rw[e0]at z;cases z
 ·rw[b1]at z;cases z
 ·rw[b2]at z;cases z
 ·rw[b3]at z;cases z
 ·rw[b4]at z;cases z
 ·rw[b5]at z;cases z
 ·rw[b6]at z;cases z
 ·rw[b7]at z;cases z
noncomputable def W3 (X:mB):List Addr:=[X.fd,X.tr,X.tl] ++ (X.tabs.flatMap fun tb=> [X.fi,X.bd,X.fd] ++ tb.2.foot)++ yQ X.tabs X.gv
theorem a54(X:mB):xB X (W3 X) where
 o:=⟨by simp[W3],by simp[W3],by simp[W3]⟩
 f:=fun tb h b hb=>List.mem_append_left _ (List.mem_append_right _ (List.mem_flatMap.mpr ⟨tb,h,hb⟩))
 c:=fun t c ys B l g h e=>List.mem_append_right _ (a9t g h e)
 n:=fun b hb=>by
  rcases List.mem_append.mp hb with hb|hb
  ·rcases List.mem_append.mp hb with hb|hb
   ·simp only[List.mem_cons,List.not_mem_nil,or_false]at hb
    rcases hb with h|h|h
    ·exact .inl h
    ·exact .inr (.inl h)
    ·exact .inr (.inr (.inl h))
   ·obtain⟨tb,h1,h2⟩:=List.mem_flatMap.mp hb
    exact .inr (.inr (.inr (.inl ⟨tb,h1,h2⟩)))
  ·exact .inr (.inr (.inr (.inr (a3V hb))))
def tL(P:Program)(w:World)(K:Fg)(mg:Str->Option Value)(base:Heap)(CF CB CT CG zt:Addr)(spg:Sp):Sp:=fun vs H Q _=>∃(X:fU) (ce:Addr) (p:Nat) (num:Int) (tf:PyData ⊕ List Int) (kf kl:List (Ky×V)) (mk:List (aB×V)) (cs:List V) (wo:Option (List Int×V)),vs= [.ref X.fi,.ref ce] /\nD X/\iK P w K mg base CF CB CT CG X kf kl mk H/\mk.length<90/\H ce=some (.tup ((aU X.nm X.c p).map kV))/\p<X.B.xs.length/\cO X.B.xs (p:Int)=some (.int num)/\aQ kf (aU X.nm X.c p)=none/\gP jI H zt/\H X.ca=some (.lst cs)/\cs.length<900/\qF H mk num wo/\(∀tl,sG P w K mg base spg X.gr X.tabs X.gv X.fd tl X.nm X.c p tf H)/\(∀is,tf= .inr is->X.ok is/\is.length<=100)/\
 ∀H' v kf' kl' mk',iK P w K mg base CF CB CT CG X kf' kl' mk' H'->gP jI H' zt->rR X.fd X.lk zt X.ca X.mc H H'->aQ kf' (aU X.nm X.c p)=some v->(∀t c p',X.gv t c=none->aU t c p'≠aU X.nm X.c p->aQ kf' (aU t c p')=aQ kf (aU t c p'))->nC K X num wo mk mk' cs v H H' tf->Q .non H'
theorem a4P(T:aW K mg){CR CF CB CT CG:Addr}(R:lF K mg CR)(Y:eW K mg CF)(Wb:bU K mg CB)(Z:cI K mg CT)(Gr:qQ K CG){z:Addr×Addr}(B2:jP K mg "Finder" "gathered" "Finder.gathered" gQ z)(M:iO mg base z.1 z.2){spg:Sp}(G_gather:aL P w K mg base aC 8 CG "gather" ["self","look","many","table","column","place"] spg):iU P w K mg base 10 "attempt" "Finder.attempt" pB ["self","cell"] (tL P w K mg base CF CB CT CG z.2 spg):=by
 have G_knows:aL P w K mg base aC 4 CF "knows" ["self","cell"] (wX CF CB CT):=a0W T Y Wb
 have GI:dJ P w K mg base aC 1 CR ["self","finder"] (a2U CR):=a8Q T R
 have G_gd:aL P w K mg base aC 9 CF "gathered" kJ (a2N P w K mg base CR CF CB CT CG z.2 spg):=a6r T R Y Wb Z Gr.cl B2 M G_gather
 have G_st:aL P w K mg base aC 7 CF "settle" ["self","cell","told"] (a2u K CF CB CT (a1v P w K mg base 4 CB CT CG)):=a8J T Y Wb (a6A T Wb Z Gr (k:=4) (Nat.le_refl _))
 refine zD sY (fun vs H Q E h=> ?_) (fun f cdv A outer s H vs Q E hr h=> ?_)
 ·obtain⟨X,ce,p,num,tf,kf,kl,mk,cs,wo,rfl,_⟩:=h
  rfl
 ·obtain⟨X,ce,p,num,tf,kf,kl,mk,cs,wo,rfl,O,G,mk9,hce,hp,hnum,hno,tb,hca,cl,hw,use,hok,q⟩:=h
  have GF:=G.F _ O.hB
  have fd0:H X.fd=some (.dT kf):=GF.fnd
  have k8:=O.o3.k8
  have hu:=eB hr
  refine⟨_,(aH (bM (cM (bH (pv 0) Y.cl G_knows (hr.mono (by decide)) aM (aA (pv 1) aE)) (fun _=>rfl)) (aI (bA iQ)) bP)
   (aH (bR (i:=2) sY.nd rfl (Or.inl rfl) (jC GI (hr.mono (by decide)) R.c aM (aA (pv 0) aE)))
   (aH (bR (i:=3) sY.nd rfl (Or.inl rfl) (bH (pv 0) Y.cl G_gd hr aM (aA (pv 2) (aA (cJ fB (pv 1) bJ (fun _ _=>rfl)) (aA (cJ fB (pv 1) bJ (fun _ _=>rfl)) (aA (cJ fB (pv 1) bJ (fun _ _=>rfl)) aE))))))
   (aH (bM (cE oZ (aT (pv 2) rfl) iQ (cH _)) (aH (jQ hu (aT (pv 0) rfl) (pv 1) (aT (pv 2) rfl) rfl) (aI (jQ hu (aT (pv 0) rfl) (pv 1) (bH (pv 0) Y.cl G_st (hr.mono (by decide)) aM (aA (pv 1) (aA (pv 3) aE))) rfl))) bP)
   (aI (bA (aT (pv 2) rfl))))))),?_⟩
  obtain⟨d0,e1⟩:=GF.fin
  refine⟨_,rfl,X.fi,d0,_,rfl,e1,kF,_,rfl,X.fi,X.bd,X.fd,X.lk,ce,X.nm,X.c,p,X.B,kf,_,rfl,GF,hce,O.ru,_,rfl,?_⟩
  rw[hno]
  refine bK ⟨_,rfl,?_⟩
  intro tr dt htr hdt ne
  refine⟨tr,dt,X.fi,rfl,aJ,fun H1 tl htl t1 t2 b1=>⟨rfl,?_⟩⟩
  have s1:aD H H1:=fun b o e=>b1 b o (aX e htr) (by rw[aG (aX e htr),aG (aX e hdt)];exact e)
  have htl0:H tl=none:=by
   by_cases y:tl=tr
   ·rw[y];exact htr
   ·by_cases y2:tl=dt
    ·rw[y2];exact hdt
    ·rw[aG y,aG y2]at htl;exact htl
  have ce1:=s1 _ _ hce
  obtain⟨dxg,hgr⟩:=G.gr
  let Y8:mB:=⟨X.fi,X.bd,X.fd,X.lk,tr,tl,X.tabs,X.Ks,X.gv,kf⟩
  have J1:J3 CR CF CB CT Y8 H1:=⟨⟨kf,fun tb h=>(G.F tb h).same s1,s1 _ _ fd0,G.ko,G.fo,fun _ _ _ _=>rfl⟩,⟨dt,t1⟩,⟨[],t2,dU.nil⟩,fun t c ys B g h=>let ⟨l,h1,h2⟩:=G.cols t c ys B g h;⟨l,h1,s1 _ _ h2⟩⟩
  have ntf:tl≠X.fd:=fun y=>by rw[y,fd0]at htl0;cases htl0
  have wof:=a54 Y8
  obtain⟨Sz,tz,_⟩:=id tb
  have tb1:gP jI H1 z.2:=mV tb fun b o _ _ _ e=>s1 _ _ e
  have nzW:z.2∉W3 Y8:=by
   intro hm
   have t1z:=s1 _ _ tz
   rcases wof.n _ hm with h|h|h|⟨tb',h1,h2⟩|⟨t',c',ys',B',g1,g2,g3⟩
   ·have h:z.2=X.fd:=h
    rw[h,s1 _ _ fd0]at t1z;cases t1z
   ·have h:z.2=tr:=h
    rw[h,t1]at t1z;cases t1z
   ·have h:z.2=tl:=h
    rw[h,t2]at t1z;cases t1z
   ·exact((G.F tb' h1).same s1).noext h2 t1z
   ·obtain⟨l',g4,g5⟩:=G.cols t' c' ys' B' g1 g2
    have g3:aQ B'.kvs (.inr c':aB)=some (.ref z.2):=g3
    rw[g3]at g4
    cases g4
    rw[s1 _ _ g5]at t1z;cases t1z
  refine⟨_,rfl,X.fi,d0,_,rfl,s1 _ _ e1,kF,_,rfl,_,rfl,ce,_,_,_,rfl,rfl,bW.of ce1,rfl,_,rfl,ce,_,_,_,rfl,rfl,bW.of ce1,rfl,_,rfl,ce,_,_,_,rfl,rfl,bW.of ce1,rfl,
   Y8,W3 Y8,X.gr,dxg,X.fs,X.nm,X.c,X.B,p,tf,rfl,J1,ntf,O.o3,wof,nzW,O.hB,O.ru,s1 _ _ hgr,O.ga,tb1,(fun look many J W HB Q' kx=>use tl look many J W HB Q' (fun b o n e=>kx b o n (s1 _ _ e))),fun H2 fv fr J2 tb2 told=> ?_⟩
  obtain⟨kf2,F2',w02,ko2,fo2,ru2⟩:=J2.kf
  have F2:dE CF CB CT H2 X.fi X.bd X.fd X.lk X.nm X.B kf2:=F2' _ O.hB
  obtain⟨d3,tr2⟩:=J2.tr
  obtain⟨kt2,tl2,to2⟩:=J2.tl
  obtain⟨a1,a2,a3,a4⟩:=wE X.fi tl .non
  obtain⟨d02,f2⟩:=F2.fin
  have up2:∀{x:Addr} {o:HO},x≠X.fd->x≠z.2->H x=some o->H2 x=some o:=fun n1 n2 e=>fr _ _ n1 (aX e htl0) n2 (s1 _ _ e)
  have nz:∀{b:Addr} {o:HO},H b=some o->(∀x,o≠ .ext x)->b≠z.2:=fun e n y=>by rw[y,tz]at e;exact n _ (Option.some.inj e).symm
  have nf:∀{b:Addr} {o:HO},H b=some o->(∀x,o≠ .dT x)->b≠X.fd:=fun e n y=>by rw[y,fd0]at e;exact n _ (Option.some.inj e).symm
  have lk2:=up2 O.fl.symm (nz G.hl (fun _ y=>by cases y)) G.hl
  have ce2:=up2 (nf hce (fun _ y=>by cases y)) (nz hce (fun _ y=>by cases y)) hce
  have nl2:=G.lo.len
  refine⟨_,rfl,tr,CR,d3,_,_,rfl,tr2,R.cl,R.n_lacking,a3,rfl,_,rfl,cD ?_⟩
  refine⟨_,rfl,tr,CR,d3,_,_,rfl,tr2,R.cl,R.n_looked,a2,_,rfl,X.fi,CF,d02,_,_,rfl,f2,Y.cl,Y.n_looked,(jL _ _ _).2.2,_,rfl,X.lk,_,rfl,.inr ⟨kl,aU X.nm X.c p,ce,lk2,rfl,ce2,cQ (by omega),rfl⟩,?_⟩
  have u3:bO X.lk H2 (upd H2 X.lk (.dT (aR kl (aU X.nm X.c p) (.ref tl)))):=fun b o n e=>by rw[aG n];exact e
  have lk3:upd H2 X.lk (.dT (aR kl (aU X.nm X.c p) (.ref tl))) X.lk=some (.dT (aR kl (aU X.nm X.c p) (.ref tl))):=aJ
  have n3:∀b,upd H2 X.lk (.dT (aR kl (aU X.nm X.c p) (.ref tl))) b=none->H2 b=none:=fun b y=>by
   have:b≠X.lk:=fun y'=>by rw[y',aJ]at y;cases y
   rw[aG this]at y
   exact y
  generalize upd H2 X.lk (.dT (aR kl (aU X.nm X.c p) (.ref tl)))=H3 at u3 lk3 n3|-
  have k3:∀{b:Addr} {o:HO},H2 b=some o->(∀x,o≠ .dT x)->H3 b=some o:=fun e n=>u3 _ _ (fun y=>by rw[y,lk2]at e;exact n _ (Option.some.inj e).symm) e
  have fd3:=u3 _ _ O.fl F2.fnd
  have F3:dE CF CB CT H3 X.fi X.bd X.fd X.lk X.nm X.B kf2:=by
   obtain⟨d0,e1⟩:=F2.fin
   obtain⟨kb,e2,e3⟩:=F2.bds
   obtain⟨⟨d1,b1⟩,⟨⟨d2,b2⟩,b3,b4⟩,b5,b6,b7⟩:=F2.B
   exact⟨⟨d0,k3 e1 (fun _ y=>by cases y)⟩,⟨kb,k3 e2 (fun _ y=>by cases y),e3⟩,⟨⟨d1,k3 b1 (fun _ y=>by cases y)⟩,⟨⟨d2,k3 b2 (fun _ y=>by cases y)⟩,k3 b3 (fun _ y=>by cases y),k3 b4 (fun _ y=>by cases y)⟩,k3 b5 (fun _ y=>by cases y),k3 b6 (fun _ y=>by cases y),k3 b7 (fun _ y=>by cases y)⟩,fd3,F2.len⟩
  have fr3:∀{x:Addr} {o:HO},x≠X.fd->x≠X.lk->x≠z.2->H x=some o->H3 x=some o:=fun n1 n2 n3 e=>u3 _ _ n2 (up2 n1 n3 e)
  have q3:∀{x:Addr} {o:HO},H x=some o->(∀y,o≠ .dT y)->(∀y,o≠ .ext y)->H3 x=some o:=fun e n1 n2=>k3 (up2 (nf e n1) (nz e n2) e) n1
  have ce3:=q3 hce (fun _ y=>by cases y) (fun _ y=>by cases y)
  have tr3:=k3 tr2 (fun _ y=>by cases y)
  have tb3:gP jI H3 z.2:=mV tb2 fun b o n1 _ _ e=>k3 e n1
  have ca3:=q3 hca (fun _ y=>by cases y) (fun _ y=>by cases y)
  have mc3:=q3 G.mc (fun _ y=>by cases y) (fun _ y=>by cases y)
  have gr3:=q3 hgr (fun _ y=>by cases y) (fun _ y=>by cases y)
  have kz3:fL H H3:=fun b u e=>q3 e (fun _ y=>by cases y) (fun _ y=>by cases y)
  have none3:∀{x:Addr},H3 x=none->H x=none:=fun{x} e=>by
   cases e2:H x with
   |none=>rfl
   |some o=>
    by_cases y1:x=X.fd
    ·rw[y1,fd3]at e;cases e
    ·by_cases y2:x=X.lk
     ·rw[y2,lk3]at e;cases e
     ·by_cases y3:x=z.2
      ·obtain⟨S3,h3,_⟩:=tb3
       rw[y3,h3]at e;cases e
      ·rw[fr3 y1 y2 y3 e2]at e;cases e
  have l2:kf2.length<=X.Ks.length:=ko2.len
  have fin:∀(H5:Hp) (v:V) (mk':List (aB×V)),(∀x o,x≠X.ca->x≠X.mc->H3 x=some o->H5 x=some o)->H5 X.mc=some (.dK mk')->(∀H6,bO X.fd H5 H6->nC K X num wo mk mk' cs v H H6 tf)->
   ∃d5 H6,H5 X.fi=some (.ins CF d5 (fG X.bd X.fd X.lk))/\hZ H5 X.fd (.ref ce) v H6/\H6 tr=some (.ins CR d3 (lW X.fi tl .non))/\Q .non H6:=fun H5 v mk' f5 mc5 en=>by
   have k5:∀{b:Addr} {o:HO},H3 b=some o->(∀x,o≠ .lst x)->(∀x,o≠ .dK x)->H5 b=some o:=fun e n1 n2=>f5 _ _ (fun y=>by rw[y,ca3]at e;exact n1 _ (Option.some.inj e).symm) (fun y=>by rw[y,mc3]at e;exact n2 _ (Option.some.inj e).symm) e
   obtain⟨d5,e5⟩:=F3.fin
   have fd5:=k5 fd3 (fun _ y=>by cases y) (fun _ y=>by cases y)
   have ce5:=k5 ce3 (fun _ y=>by cases y) (fun _ y=>by cases y)
   refine⟨d5,_,k5 e5 (fun _ y=>by cases y) (fun _ y=>by cases y),.inr ⟨kf2,aU X.nm X.c p,ce,fd5,rfl,ce5,cQ (by omega),rfl⟩,?_⟩
   have u6:bO X.fd H5 (upd H5 X.fd (.dT (aR kf2 (aU X.nm X.c p) v))):=fun b o n e=>by rw[aG n];exact e
   have fd6:upd H5 X.fd (.dT (aR kf2 (aU X.nm X.c p) v)) X.fd=some (.dT (aR kf2 (aU X.nm X.c p) v)):=aJ
   generalize upd H5 X.fd (.dT (aR kf2 (aU X.nm X.c p) v))=H6 at u6 fd6|-
   have k6:∀{b:Addr} {o:HO},H5 b=some o->(∀x,o≠ .dT x)->H6 b=some o:=fun e n=>u6 _ _ (fun y=>by rw[y,fd5]at e;exact n _ (Option.some.inj e).symm) e
   have fr6:rR X.fd X.lk z.2 X.ca X.mc H H6:=fun x o n1 n2 n3 n4 n5 e=>u6 _ _ n1 (f5 _ _ n4 n5 (fr3 n1 n2 n3 e))
   refine⟨k6 (k5 tr3 (fun _ y=>by cases y) (fun _ y=>by cases y)) (fun _ y=>by cases y),?_⟩
   refine q H6 v (aR kf2 (aU X.nm X.c p) v) (aR kl (aU X.nm X.c p) (.ref tl)) mk' (G.to O fr6 tb hca fd6 (u6 _ _ O.fl.symm (k5 lk3 (fun _ y=>by cases y) (fun _ y=>by cases y))) (k6 mc5 (fun _ y=>by cases y)) (ko2.put (O.kin p hp)) (G.lo.put (O.kin p hp)) (fun t c p' v' ys g e=> ?_)) (mV tb3 fun b o n1 n2 n3 e=>k6 (k5 e n3 n2) n1) fr6 (by rw[fT,if_pos rfl]) (fun t c p' g ne=> ?_) (en H6 u6)
   ·rw[fT,if_neg (fun y=>by
     obtain⟨rfl,rfl,_⟩:=mY y
     rw[O.no]at g
     cases g)]at e
    exact fo2 t c p' v' ys g e
   ·rw[fT,if_neg ne]
    exact ru2 t c p' g
  obtain⟨d03,f3⟩:=F3.fin
  cases tf with
  |inl d=>
   obtain⟨ta,v,rfl,hta,hpv,hgv⟩:=told
   have kt3:bF H2 H3:=fun a xs e=>k3 e (fun _ y=>by cases y)
   obtain⟨d5,H6,g1,g2,g3,g4⟩:=fin H3 v mk (fun x o _ _ e=>e) mc3 (fun H6 b6=>by
    exact⟨(hpv.keep kt3).keep (fun a xs e=>b6 _ _ (fun y=>by rw[y,fd3]at e;cases e) e),hgv,rfl,b6 _ _ (fun y=>by rw[y,fd3]at ca3;cases ca3) ca3⟩)
   exact⟨_,rfl,X.fi,d03,_,rfl,f3,kF,_,rfl,_,rfl,X.fi,ce,ta,rfl,.inl ⟨v,kt3 _ _ hta,_,rfl,X.fi,CF,d5,_,_,rfl,g1,Y.cl,Y.n_found,(jL _ _ _).2.1,_,rfl,X.fd,H6,rfl,g2,_,rfl,tr,CR,d3,_,_,rfl,g3,R.cl,R.n_lacking,a3,g4⟩⟩
  |inr is=>
   obtain⟨ta,l,rfl,hta,hl2,hl0⟩:=told
   have hl3:=k3 hl2 (fun _ y=>by cases y)
   have hta3:=k3 hta (fun _ y=>by cases y)
   have hlH:H l=none:=dW s1 hl0
   obtain⟨okis,l100⟩:=hok is rfl
   obtain⟨sh,vd⟩:=O.gg is okis
   have was3:∀{js vv},oI H mk num js vv->oI H3 mk num js vv:=fun⟨tp,lo,w1,w2,w3⟩=>⟨tp,lo,w1,q3 w2 (fun _ y=>by cases y) (fun _ y=>by cases y),q3 w3 (fun _ y=>by cases y) (fun _ y=>by cases y)⟩
   refine⟨_,rfl,X.fi,d03,_,rfl,f3,kF,_,rfl,_,rfl,X.fi,ce,ta,rfl,.inr ⟨X.bd,X.fd,X.lk,l,X.nm,X.c,p,X.B,kf2,hta3,F3,ce3,l,X.gr,X.mc,X.fa,X.ca,dxg,X.c,X.fs,p,num,X.B,mk,X.g,X.ok,is,cs,rfl,F3.B,O.ru,O.me,mc3,by omega,hp,hnum,gr3,O.rf,G.fn.keep kz3,hl3,ca3,cl,okis,l100,sh,vd,?_⟩⟩
   have called:(∀vv,wo≠some (is,vv))->∀H5 v tp,(∀x o,x≠X.ca->x≠X.mc->H3 x=some o->H5 x=some o)->H5 X.ca=some (.lst cs)->H3 tp=none->H5 tp=some (.tup [.ref l,v])->H5 X.mc=some (.dK (aR mk (.inl num:aB) (.ref tp)))->oP K v (gU (X.g is))->
    ∃d5 H6,H5 X.fi=some (.ins CF d5 (fG X.bd X.fd X.lk))/\hZ H5 X.fd (.ref ce) v H6/\H6 tr=some (.ins CR d3 (lW X.fi tl .non))/\Q .non H6:=fun hh H5 v tp f5 g1 n2 g3 g4 g5=>by
    have fd5:H5 X.fd=some (.dT kf2):=f5 _ _ (fun y=>by rw[<- y,fd3]at ca3;cases ca3) (fun y=>by rw[<- y,fd3]at mc3;cases mc3) fd3
    refine fin H5 v _ f5 g4 (fun H6 b6=> ?_)
    ·have k6:∀{b:Addr} {o:HO},H5 b=some o->(∀x,o≠ .dT x)->H6 b=some o:=fun e n=>b6 _ _ (fun y=>by rw[y,fd5]at e;exact n _ (Option.some.inj e).symm) e
     refine .inr ⟨hh,tp,l,none3 n2,hlH,k6 g1 (fun _ y=>by cases y),k6 g3 (fun _ y=>by cases y),k6 (f5 _ _ ?_ (fun y=>by rw[y,mc3]at hl3;cases hl3) hl3) (fun _ y=>by cases y),rfl,?_⟩
     ·exact fun y=>by rw[y,hca]at hlH;cases hlH
     ·exact g5
   rcases wo with _|⟨js,vv⟩
   ·have hn:∀vv,(none:Option (List Int×V))≠some (is,vv):=fun _ y=>by cases y
    refine .inr ⟨.inl hw,fun H5 v tp f5 g1 n2 g3 g4 g5=> ?_⟩
    obtain⟨d5,H6,r1,r2,r3,r4⟩:=called hn H5 v tp f5 g1 n2 g3 g4 g5
    exact⟨_,rfl,X.fi,CF,d5,_,_,rfl,r1,Y.cl,Y.n_found,(jL _ _ _).2.1,_,rfl,X.fd,H6,rfl,r2,_,rfl,tr,CR,d3,_,_,rfl,r3,R.cl,R.n_lacking,a3,r4⟩
   ·have hw:oI H mk num js vv:=hw
    by_cases hj:js=is
    ·subst hj
     refine .inl ⟨vv,was3 hw,?_⟩
     obtain⟨d5,H6,r1,r2,r3,r4⟩:=fin H3 vv mk (fun x o _ _ e=>e) mc3 (fun H6 b6=>by
      exact .inl ⟨rfl,rfl,b6 _ _ (fun y=>by rw[y,fd3]at ca3;cases ca3) ca3⟩)
     exact⟨_,rfl,X.fi,CF,d5,_,_,rfl,r1,Y.cl,Y.n_found,(jL _ _ _).2.1,_,rfl,X.fd,H6,rfl,r2,_,rfl,tr,CR,d3,_,_,rfl,r3,R.cl,R.n_lacking,a3,r4⟩
    ·refine .inr ⟨.inr ⟨js,vv,was3 hw,hj⟩,fun H5 v tp f5 g1 n2 g3 g4 g5=> ?_⟩
     obtain⟨d5,H6,r1,r2,r3,r4⟩:=called (fun v2 y=>hj (congrArg (·.1) (Option.some.inj y))) H5 v tp f5 g1 n2 g3 g4 g5
     exact⟨_,rfl,X.fi,CF,d5,_,_,rfl,r1,Y.cl,Y.n_found,(jL _ _ _).2.1,_,rfl,X.fd,H6,rfl,r2,_,rfl,tr,CR,d3,_,_,rfl,r3,R.cl,R.n_lacking,a3,r4⟩
def gN(CF:Addr)(sp:Sp):Sp:=fun vs H Q _=>∃(fi ce bd fd lk d0:Addr) (ky:Ky),vs= [.ref fi,.ref ce] /\H fi=some (.ins CF d0 (fG bd fd lk))/\
 ∀H1 wl,H wl=none->aD H H1->H1 wl=some (.lst [.ref ce])->sp [.ref fi,.ref ce] H1 (fun v H2=>v= .non/\∃d2 kf v2,H2 wl=some (.lst [.ref ce])/\H2 fi=some (.ins CF d2 (fG bd fd lk))/\H2 fd=some (.dT kf)/\H2 ce=some (.tup (ky.map kV))/\aQ kf ky=some v2/\∀H3,bO wl H2 H3->Q v2 H3) E0
abbrev Nvo:List Str:=["self","cell","waiting","lacking"]
theorem wR:aV Nvo ["self","cell"] (aN a2M):=⟨rfl,rfl,rfl,by decide+kernel,rfl,by decide+kernel,by decide+kernel⟩
theorem a4V(T:aW K mg){CF:Addr}(Y:eW K mg CF){k:Nat}{sp:Sp}(mono:jY sp)(G:aL P w K mg base aC k CF "attempt" ["self","cell"] sp):aL P w K mg base aC (k+ 1) CF "value_of" ["self","cell"] (gN CF sp):=by
 refine Y.m_value_of.known wR (fun _ _ _ _ _ _ us hl=>dF (fun _ _=>rfl) us hl) (fun vs H Q E h=> ?_) (fun f cdv A outer s H vs Q E hr h=> ?_)
 ·obtain⟨fi,ce,bd,fd,lk,d0,ky,rfl,_⟩:=h
  rfl
 ·obtain⟨fi,ce,bd,fd,lk,d0,ky,rfl,hfi,q⟩:=h
  have hu:=eB hr
  refine⟨_,(aH (bR (i:=2) wR.nd rfl (Or.inl rfl) (fW (aA (pv 1) aE)))
   (aH (wY PassesOwn.never (yM (pv 2) (fun _=>rfl)) (aH (bR (i:=3) wR.nd rfl (Or.inl rfl) (bH (pv 0) Y.cl G hr aM (aA (cJ gZ (pv 2) (vL zF bJ) (fun _ _=>rfl)) aE)))
   (aI (bM (cE oZ (pv 3) iQ (cH _)) (aI (cC (a8S PySem.F.plainAttrs_list PySem.F.slot_list_pop PySem.F.type_list_pop a4a (pv 2)))) (aI cB)))))
   (aI (bA (fY hu (aT (pv 0) rfl) (pv 1) (fun _ _=>rfl)))))),?_⟩
  refine⟨_,rfl,sl,fun wl hwl=> ?_⟩
  have s1:=aD.new (o:=.lst [.ref ce]) hwl
  have w1:upd H wl (.lst [.ref ce]) wl=some (.lst [.ref ce]):=aJ
  generalize upd H wl (.lst [.ref ce])=H1 at s1 w1|-
  have q1:=q H1 wl hwl s1 w1
  let Wf:Nat->St->Hp->Prop:=fun m σ H2=>(m=1/\σ= [some (.ref fi),some (.ref ce),some (.ref wl),none] /\H2=H1)\/ (m=0/\σ= [some (.ref fi),some (.ref ce),some (.ref wl),some .non] /\∃d2 kf v2,H2 wl=some (.lst [])/\H2 fi=some (.ins CF d2 (fG bd fd lk))/\H2 fd=some (.dT kf)/\H2 ce=some (.tup (ky.map kV))/\aQ kf ky=some v2/\Q v2 H2)
  refine⟨Wf,⟨1,.inl ⟨rfl,rfl,rfl⟩⟩,?_⟩
  rintro m σ H2 (⟨rfl,rfl,rfl⟩|⟨rfl,rfl,d2,kf,v2,h1,h2,h3,h4,h5,h6⟩)
  ·refine⟨_,rfl,_,.inl ⟨_,aO.of w1,rfl⟩,?_⟩
   refine dL (fun g=> ?_) (fun g=>absurd rfl g)
   refine⟨fun σ' H'=>∃m',m'<1/\Wf m' σ' H',fun σ' H' h=>h,?_⟩
   refine⟨_,rfl,fi,d0,_,rfl,s1 _ _ hfi,kF,_,rfl,_,rfl,wl,_,_,_,rfl,rfl,aO.of w1,rfl,?_⟩
   refine mono _ _ _ _ (fun v H3 hQ=> ?_) q1
   obtain⟨rfl,d2,kf,v2,h1,h2,h3,h4,h5,h6⟩:=hQ
   refine⟨_,rfl,rfl,_,rfl,cD ?_⟩
   refine⟨_,rfl,.inl ⟨rfl,_,aO.of h1⟩,wl,_,_,rfl,rfl,h1,rfl,?_⟩
   have u:bO wl H3 (upd H3 wl (.lst [])):=fun b o n e=>by rw[aG n];exact e
   refine⟨0,by decide,.inr ⟨rfl,rfl,d2,kf,v2,aJ,u _ _ (fun y=>by rw[y,h1]at h2;cases h2) h2,u _ _ (fun y=>by rw[y,h1]at h3;cases h3) h3,u _ _ (fun y=>by rw[y,h1]at h4;cases h4) h4,h5,h6 _ u⟩⟩
  ·refine⟨_,rfl,_,.inl ⟨_,aO.of h1,rfl⟩,?_⟩
   refine dL (fun g=>by cases g) (fun g=> ?_)
   refine⟨_,rfl,fi,CF,d2,_,_,rfl,h2,Y.cl,Y.n_found,(jL _ _ _).2.1,_,rfl,fd,v2,rfl,.inr ⟨kf,ky,ce,.inl h3,rfl,h4,h5.symm⟩,h6⟩
theorem a9d{CF CB CT:Addr}:jY (uQ CF CB CT):=fun vs H Q Q' hQ h=>by
 obtain⟨fi,bd,fd,lk,ce,nm,c,p,B,kf,r,v,a1,a2,a3,a4,a5,q⟩:=h
 exact⟨fi,bd,fd,lk,ce,nm,c,p,B,kf,r,v,a1,a2,a3,a4,a5,hQ _ _ q⟩
theorem a9p{CF CB CT CG zt:Addr}{spg:Sp}:jY (tL P w K mg base CF CB CT CG zt spg):=fun vs H Q Q' hQ h=>by
 obtain⟨X,ce,p,num,tf,kf,kl,mk,cs,wo,a1,a2,a3,a4,a5,a6,a7,a8,a9,b1,b2,b3,b4,b5,q⟩:=h
 exact⟨X,ce,p,num,tf,kf,kl,mk,cs,wo,a1,a2,a3,a4,a5,a6,a7,a8,a9,b1,b2,b3,b4,b5,fun H' v kf' kl' mk' c1 c2 c3 c4 c5 c6=>hQ _ _ (q H' v kf' kl' mk' c1 c2 c3 c4 c5 c6)⟩
def iV(CS CB CT:Addr)(s bd ch fi:Addr)(kb:List (aB×V))(nm:Str)(B:BM)(H:Hp):Prop:=(∃dx,H s=some (.ins CS dx (dP bd ch fi)))/\H bd=some (.dK kb)/\Nl nm/\aQ kb (.inr nm:aB)=some (.ref B.b)/\bS CB CT H B
theorem iV.same{CS CB CT s bd ch fi:Addr}{kb:List (aB×V)}{nm:Str}{B:BM}{H H':Hp}(h:iV CS CB CT s bd ch fi kb nm B H)(e:aD H H'):iV CS CB CT s bd ch fi kb nm B H':=
 ⟨h.1.imp fun _ x=>e _ _ x,e _ _ h.2.1,h.2.2.1,h.2.2.2.1,h.2.2.2.2.same e⟩
def a2v(CS CB CT:Addr):Sp:=fun vs H Q _=>∃(s bd ch fi:Addr) (kb:List (aB×V)) (nm t:Str) (p:Nat) (B:BM),vs= [.ref s,.str nm,.str t,.int (p:Int)] /\iV CS CB CT s bd ch fi kb nm B H/\Nl t/\t∈B.ord/\p<B.xs.length/\∀H',aD H H'->Q .non H'
theorem a9g:aV ["self","table","column","place"] ["self","table","column","place"] (aN a18):=⟨rfl,rfl,rfl,by decide+kernel,rfl,by decide+kernel,by decide+kernel⟩
theorem a4v(T:aW K mg){CS CB CT:Addr}(Y:cU K mg CS)(W:bU K mg CB)(Z:cI K mg CT):aL P w K mg base aC 4 CS "check_cell" ["self","table","column","place"] (a2v CS CB CT):=by
 have G_with:aL P w K mg base aC 3 CS "board_with" ["self","table","column"] (xA CS CB CT):=a0p T Y W
 have G_pl:bI P w K mg base aC 2 "check_place" ["place","places"] rK:=uN T
 have G_many:aL P w K mg base aC 1 CT "many" ["self"] (lL CT):=mW T Z
 refine Y.m_check_cell.known a9g (fun _ _ _ _ _ _ us hl=>mI (fun _ _ _ _=>rfl) us hl) (fun vs H Q E h=> ?_) (fun f cdv A outer s H vs Q E hr h=> ?_)
 ·obtain⟨s',bd,ch,fi,kb,nm,t,p,B,rfl,_⟩:=h
  rfl
 ·obtain⟨s',bd,ch,fi,kb,nm,t,p,B,rfl,hS,ht,hm,hp,q⟩:=h
  refine⟨_,aI (cC (bQ G_pl (hr.mono (by decide)) aM (aA (pv 3) (aA (eO (aT (bH (pv 0) Y.cl G_with hr aM (aA (pv 1) (aA (pv 2) aE))) rfl) Z.cl G_many (hr.mono (by decide)) aM) aE)))),?_⟩
  obtain⟨dx,hs⟩:=hS.1
  refine⟨_,rfl,_,rfl,s',dx,_,rfl,hs,dC,_,rfl,_,rfl,s',bd,ch,fi,dx,kb,nm,t,B,rfl,hs,hS.2.1,hS.2.2.1,hS.2.2.2.1,hS.2.2.2.2,ht,hm,fun H1 s1=> ?_⟩
  obtain⟨dB,hb⟩:=hS.2.2.2.2.at_
  obtain⟨dT,hT⟩:=hS.2.2.2.2.tab.at_
  exact⟨B.b,CB,dB,_,_,rfl,s1 _ _ hb,W.cl,W.n_given,(dH _ _ _ _).1,B.g,dT,_,rfl,s1 _ _ hT,jN,B.g,B.r,B.e,B.xs,B.n,B.kvs,rfl,hS.2.2.2.2.tab.same s1,p,B.xs.length,rfl,hp,q H1 s1⟩
def iI(CS CF CB CT:Addr)(sp:Sp):Sp:=fun vs H Q _=>∃(s bd ch fi df:Addr) (kb:List (aB×V)) (nm t:Str) (p:Nat) (B:BM) (fs:List (Str×V)),vs= [.ref s,.str nm,.str t,.int (p:Int)] /\iV CS CB CT s bd ch fi kb nm B H/\Nl t/\t∈B.ord/\p<B.xs.length/\H fi=some (.ins CF df fs)/\fs.lookup ("value_of":Str)=none/\
 ∀H1 ce,H ce=none->aD H H1->H1 ce=some (.tup ((aU nm t p).map kV))->sp [.ref fi,.ref ce] H1 Q E0
theorem a4h:aV ["self","table","column","place"] ["self","table","column","place"] (aN a3J):=⟨rfl,rfl,rfl,by decide+kernel,rfl,by decide+kernel,by decide+kernel⟩
theorem a61(T:aW K mg){CS CF CB CT:Addr}(Y:cU K mg CS)(F:eW K mg CF)(W:bU K mg CB)(Z:cI K mg CT){k:Nat}{sp:Sp}(hk:4<=k)(G:aL P w K mg base aC k CF "value_of" ["self","cell"] sp):aL P w K mg base aC (k+ 1) CS "cell" ["self","table","column","place"] (iI CS CF CB CT sp):=by
 have G_chk:aL P w K mg base aC 4 CS "check_cell" ["self","table","column","place"] (a2v CS CB CT):=a4v T Y W Z
 refine Y.m_cell.known a4h (fun _ _ _ _ _ _ us hl=>mI (fun _ _ _ _=>rfl) us hl) (fun vs H Q E h=> ?_) (fun f cdv A outer s H vs Q E hr h=> ?_)
 ·obtain⟨s',bd,ch,fi,df,kb,nm,t,p,B,fs,rfl,_⟩:=h
  rfl
 ·obtain⟨s',bd,ch,fi,df,kb,nm,t,p,B,fs,rfl,hS,ht,hm,hp,hfi,hno,q⟩:=h
  refine⟨_,aH (cC (bH (pv 0) Y.cl G_chk (hr.mono hk) aM (aA (pv 1) (aA (pv 2) (aA (pv 3) aE)))))
   (aI (bA (bH (aT (pv 0) rfl) F.cl G hr aM (aA (fA (aA (pv 1) (aA (pv 2) (aA (pv 3) aE)))) aE)))),?_⟩
  obtain⟨dx,hs⟩:=hS.1
  refine⟨_,rfl,s',dx,_,rfl,hs,dC,_,rfl,_,rfl,_,rfl,s',bd,ch,fi,kb,nm,t,p,B,rfl,hS,ht,hm,hp,fun H1 s1=> ?_⟩
  refine⟨_,rfl,s',CS,dx,_,_,rfl,s1 _ _ hs,Y.cl,Y.n_finder,(kX _ _ _).2.2.1,fi,df,fs,rfl,s1 _ _ hfi,hno,_,rfl,_,rfl,_,rfl,sl,fun ce hce=> ?_⟩
  exact q _ ce (dW s1 hce) (s1.trans (aD.new hce)) aJ
theorem qF.same{H H':Hp}{mk:List (aB×V)}{p:Int}:∀{wo:Option (List Int×V)},qF H mk p wo->aD H H'->qF H' mk p wo
 |none,h,_=>h
 |some jv,⟨tp,lo,a,b,c⟩,s=>⟨tp,lo,a,s _ _ b,s _ _ c⟩
theorem nC.to{X:fU}{num:Int}{wo:Option (List Int×V)}{mk mk':List (aB×V)}{cs:List V}{v:V}{H H1 H2 H3:Hp}{wl:Addr}{zs:List V}(s:aD H H1)(w1:H1 wl=some (.lst zs))(w2:H2 wl=some (.lst zs))(hwl:H wl=none)(b:bO wl H2 H3)(cn:H X.ca≠none):
 ∀{told:PyData ⊕ List Int},(∀is,told= .inr is->Vd (gU (X.g is)))->nC K X num wo mk mk' cs v H1 H2 told->nC K X num wo mk mk' cs v H H3 told
 | .inl d,_,⟨a1,a0,a2,a3⟩=>⟨a1.keep (fun a xs e=>b _ _ (fun y=>by rw[y,w2]at e;cases e) e),a0,a2,b _ _ (fun y=>cn (y▸hwl)) a3⟩
 | .inr is,_,.inl ⟨a1,a2,a3⟩=> .inl ⟨a1,a2,b _ _ (fun y=>cn (y▸hwl)) a3⟩
 | .inr is,hv,.inr ⟨a1,tp,sm,a3,a4,a5,a7,a8,a9,a10⟩=>by
  have nw:∀{x:Addr},H1 x=none->x≠wl:=fun e y=>by rw[y,w1]at e;cases e
  refine .inr ⟨a1,tp,sm,dW s a3,dW s a4,b _ _ (fun y=>cn (y▸hwl)) a5,b _ _ (nw a3) a7,b _ _ (nw a4) a8,a9,?_⟩
  exact a10
theorem a7r{CS CF CB CT CG:Addr}{X:fU}{s ch:Addr}{kb:List (aB×V)}{kf kl:List (Ky×V)}{mk:List (aB×V)}{H:Hp}{Q:VK}{p:Nat}{v:V}(O:nD X)(G:iK P w K mg base CF CB CT CG X kf kl mk H)(hS:iV CS CB CT s X.bd ch X.fi kb X.nm X.B H)(nc:Nl X.c)(co:X.c∈X.B.ord)(hp:p<X.B.xs.length)(hv:aQ kf (aU X.nm X.c p)=some v)(q:∀H',aD H H'->Q v H'):
 iI CS CF CB CT (gN CF (uQ CF CB CT)) [.ref s,.str X.nm,.str X.c,.int (p:Int)] H Q E0:=by
 have GF:=G.F _ O.hB
 obtain⟨df,hfi⟩:=GF.fin
 refine⟨s,X.bd,ch,X.fi,df,kb,X.nm,X.c,p,X.B,_,rfl,hS,nc,co,hp,hfi,kF,fun H1 ce hce s1 c1=> ?_⟩
 refine⟨X.fi,ce,X.bd,X.fd,X.lk,df,aU X.nm X.c p,rfl,s1 _ _ hfi,fun H2 wl hwl s2 w2=> ?_⟩
 have F2:=(GF.same s1).same s2
 obtain⟨d2,f2⟩:=F2.fin
 exact⟨X.fi,X.bd,X.fd,X.lk,ce,X.nm,X.c,p,X.B,kf,_,v,rfl,F2,s2 _ _ c1,O.ru,hv,rfl,d2,kf,v,w2,f2,F2.fnd,s2 _ _ c1,hv,fun H3 b=>q H3 fun x o e=>b _ _ (fun y=>by rw[y]at e;rw[s1 _ _ e]at hwl;cases hwl) (s2 _ _ (s1 _ _ e))⟩
theorem a4F{CS CF CB CT CG zt:Addr}{spg:Sp}{X:fU}{s ch:Addr}{kb:List (aB×V)}{kf kl:List (Ky×V)}{mk:List (aB×V)}{H:Hp}{Q:VK}{p:Nat}{num:Int}{tf:PyData ⊕ List Int}{cs:List V}{wo:Option (List Int×V)}(O:nD X)(G:iK P w K mg base CF CB CT CG X kf kl mk H)(mk9:mk.length<90)(hS:iV CS CB CT s X.bd ch X.fi kb X.nm X.B H)(nc:Nl X.c)(co:X.c∈X.B.ord)(hp:p<X.B.xs.length)(hnum:cO X.B.xs (p:Int)=some (.int num))(hno:aQ kf (aU X.nm X.c p)=none)(tb:gP jI H zt)(hca:H X.ca=some (.lst cs))(cl:cs.length<900)(hw:qF H mk num wo)(use:∀tl,sG P w K mg base spg X.gr X.tabs X.gv X.fd tl X.nm X.c p tf H)(hok:∀is,tf= .inr is->X.ok is/\is.length<=100)
 (q:∀H' v kf' kl' mk',iK P w K mg base CF CB CT CG X kf' kl' mk' H'->gP jI H' zt->rR X.fd X.lk zt X.ca X.mc H H'->aQ kf' (aU X.nm X.c p)=some v->(∀t c p',X.gv t c=none->aU t c p'≠aU X.nm X.c p->aQ kf' (aU t c p')=aQ kf (aU t c p'))->nC K X num wo mk mk' cs v H H' tf->Q v H'):
 iI CS CF CB CT (gN CF (tL P w K mg base CF CB CT CG zt spg)) [.ref s,.str X.nm,.str X.c,.int (p:Int)] H Q E0:=by
 have GF:=G.F _ O.hB
 have fd0:=GF.fnd
 obtain⟨df,hfi⟩:=GF.fin
 refine⟨s,X.bd,ch,X.fi,df,kb,X.nm,X.c,p,X.B,_,rfl,hS,nc,co,hp,hfi,kF,fun H1 ce hce s1 c1=> ?_⟩
 refine⟨X.fi,ce,X.bd,X.fd,X.lk,df,aU X.nm X.c p,rfl,s1 _ _ hfi,fun H2 wl hwl s2 w2=> ?_⟩
 have s12:=s1.trans s2
 have hwl0:H wl=none:=dW s1 hwl
 have tk:∀{z:Addr},gP jI H z->gP jI H2 z:=fun h=>mV h fun b o _ _ _ e=>s12 _ _ e
 refine⟨X,ce,p,num,tf,kf,kl,mk,cs,wo,rfl,O,G.same s12,mk9,s2 _ _ c1,hp,hnum,hno,tk tb,s12 _ _ hca,cl,hw.same s12,(fun tl look many J W HB Q' kx=>use tl look many J W HB Q' (fun b o n e=>kx b o n (s12 _ _ e))),hok,fun H3 v kf' kl' mk' G3 tb3 fr3 hv3 ru3 en3=>⟨rfl,?_⟩⟩
 obtain⟨d3,f3⟩:=(G3.F _ O.hB).fin
 have fd3:=(G3.F _ O.hB).fnd
 obtain⟨Sz,tz,_⟩:=id tb
 have nw:∀{x:Addr} {o:HO},H x=some o->x≠wl:=fun e y=>by rw[y,hwl0]at e;cases e
 have w3:H3 wl=some (.lst [.ref ce]):=fr3 _ _ (nw fd0).symm (nw G.hl).symm (nw tz).symm (nw hca).symm (nw G.mc).symm w2
 have c3:H3 ce=some (.tup ((aU X.nm X.c p).map kV)):=by
  have ne:∀{x:Addr} {o:HO},H x=some o->ce≠x:=fun e y=>by rw[<- y,hce]at e;cases e
  exact fr3 _ _ (ne fd0) (ne G.hl) (ne tz) (ne hca) (ne G.mc) (s2 _ _ c1)
 refine⟨d3,kf',v,w3,f3,fd3,c3,hv3,fun H4 b4=> ?_⟩
 have fr4:rR X.fd X.lk zt X.ca X.mc H H4:=fun x o n1 n2 n3 n4 n5 e=>b4 _ _ (nw e) (fr3 _ _ n1 n2 n3 n4 n5 (s12 _ _ e))
 have k4:∀{x:Addr} {o:HO},H3 x=some o->(∀y,o≠ .lst y)->H4 x=some o:=fun e n=>b4 _ _ (fun y=>by rw[y,w3]at e;exact n _ (Option.some.inj e).symm) e
 refine q H4 v kf' kl' mk' (G.to O fr4 tb hca (k4 fd3 (fun _ y=>by cases y)) (k4 G3.hl (fun _ y=>by cases y)) (k4 G3.mc (fun _ y=>by cases y)) G3.ko G3.lo G3.fo) (mV tb3 fun b o _ _ n e=>k4 e n) fr4 hv3 ru3 ?_
 exact nC.to s12 w2 w3 hwl0 b4 (by rw[hca];exact fun y=>by cases y) (fun is e=>(O.gg is (hok is e).1).2) en3
end
theorem a7s{C CB CT:Addr}:jY (yI C CB CT):=fun vs H Q Q' hQ h=>by
 obtain⟨p,dx,bd,nm,m,kb,e1,e2,e3,e4,e5,q⟩:=h
 exact⟨p,dx,bd,nm,m,kb,e1,e2,e3,e4,e5,fun H' b g r e ru me od a1 a2 a3 a4 a5=>hQ _ _ (q H' b g r e ru me od a1 a2 a3 a4 a5)⟩
theorem a4Z{K:Fg}{CB CT:Addr}:jY (zI K CB CT):=fun vs H Q Q' hQ h=>by
 obtain⟨B,t,a,ys,ds,e1,e2,e3,e4,e5,e6,e7,e8,e9,e10,e11,e12,q⟩:=h
 exact⟨B,t,a,ys,ds,e1,e2,e3,e4,e5,e6,e7,e8,e9,e10,e11,e12,fun H' l a1 a2 a3 a4=>hQ _ _ (q H' l a1 a2 a3 a4)⟩
theorem a8x{K:Fg}{CB CT:Addr}:jY (xJ K CB CT):=fun vs H Q Q' hQ h=>by
 obtain⟨B,t,a,C,dx,fs,e1,e2,e3,e4,e5,e6,e7,e8,e9,e10,q⟩:=h
 exact⟨B,t,a,C,dx,fs,e1,e2,e3,e4,e5,e6,e7,e8,e9,e10,fun H' m a1 a2 a3 a4=>hQ _ _ (q H' m a1 a2 a3 a4)⟩
theorem a0H{C CB CT:Addr}{sp:Sp}(h:jY sp):jY (sO C CB CT sp):=fun vs H Q Q' hQ g=>by
 obtain⟨p,dx,a,B,t,e1,e2,e3,e4,q⟩:=g
 exact⟨p,dx,a,B,t,e1,e2,e3,e4,h _ _ _ _ (fun v H' z=>hQ _ _ z) q⟩
theorem iR{H:Hp}{a b:Addr}{o:HO}(h:upd H a o b=none):H b=none/\b≠a:=by
 have:b≠a:=fun y=>by rw[y,aJ]at h;cases h
 rw[aG this]at h
 exact⟨h,this⟩
section
variable{P:Program}{w:World}{K:Fg}{mg:Str->Option Value}{base:Heap}
theorem a6U(bd ch fi:Addr):aK "finder" (.ref fi) (aK "changes" (.ref ch) (aK "boards" (.ref bd) []))=dP bd ch fi:=by
 rfl
def spSI(CS CF:Addr):Sp:=fun vs H Q _=>∃(p dx:Addr),vs= [.ref p] /\H p=some (.ins CS dx [])/\
 ∀H' bd ch fi fd lk df,(∀x∈ [bd,ch,fi,fd,lk],H x=none)->fd≠lk->H' p=some (.ins CS dx (dP bd ch fi))->H' bd=some (.dK [])->H' ch=some (.lst [])->H' fi=some (.ins CF df (fG bd fd lk))->H' fd=some (.dT [])->H' lk=some (.dT [])->bO p H H'->Q .non H'
theorem a9u:aV ["self"] ["self"] (aN a1F):=⟨rfl,rfl,rfl,by decide+kernel,rfl,by decide+kernel,by decide+kernel⟩
theorem a7R(T:aW K mg){CS CF:Addr}(Y:cU K mg CS)(Z:eW K mg CF):dJ P w K mg base aC 3 CS ["self"] (spSI CS CF):=by
 have GI:dJ P w K mg base aC 1 CF ["self","boards"] (xP CF):=a1V T Z
 refine(Y.m_init.known a9u (fun _ _ _ _ _ _ us hl=>eD (fun _=>rfl) us hl) (fun vs H Q E h=> ?_) (fun f cdv A outer s H vs Q E hr h=> ?_)).init Y.mks Y.kc
 ·obtain⟨p,dx,rfl,_⟩:=h
  rfl
 ·obtain⟨p,dx,rfl,hp,q⟩:=h
  refine⟨_,(aH (cG (pv 0) qD rfl)
   (aH (cG (pv 0) (fW aE) rfl)
   (aI (cG (pv 0) (jC GI hr Z.c aM (aA (aT (pv 0) rfl) aE)) rfl)))),?_⟩
  intro bd hbd
  have s1:=aD.new (o:=.dK []) hbd
  have b1:upd H bd (.dK []) bd=some (.dK []):=aJ
  have n1:∀{b:Addr},upd H bd (.dK []) b=none->H b=none/\b≠bd:=iR
  generalize upd H bd (.dK [])=H1 at s1 b1 n1|-
  refine⟨_,rfl,p,CS,dx,[],rfl,s1 _ _ hp,Y.cl,Y.n_boards,(by show 0<1000;decide),?_⟩
  have u2:bO p H1 (upd H1 p (.ins CS dx (aK "boards" (.ref bd) []))):=fun b o n z=>by rw[aG n];exact z
  have p2:upd H1 p (.ins CS dx (aK "boards" (.ref bd) [])) p=some (.ins CS dx (aK "boards" (.ref bd) [])):=aJ
  have n2:∀{b:Addr},upd H1 p (.ins CS dx (aK "boards" (.ref bd) [])) b=none->H1 b=none/\b≠p:=iR
  generalize upd H1 p (.ins CS dx (aK "boards" (.ref bd) []))=H2 at u2 p2 n2|-
  refine⟨sl,fun ch hch=> ?_⟩
  have s3:=aD.new (o:=.lst []) hch
  have c3:upd H2 ch (.lst []) ch=some (.lst []):=aJ
  have n3:∀{b:Addr},upd H2 ch (.lst []) b=none->H2 b=none/\b≠ch:=iR
  generalize upd H2 ch (.lst [])=H3 at s3 c3 n3|-
  refine⟨_,rfl,p,CS,dx,_,rfl,s3 _ _ p2,Y.cl,Y.n_changes,(by show 1<1000;decide),?_⟩
  have u4:bO p H3 (upd H3 p (.ins CS dx (aK "changes" (.ref ch) (aK "boards" (.ref bd) [])))):=fun b o n z=>by rw[aG n];exact z
  have p4:upd H3 p (.ins CS dx (aK "changes" (.ref ch) (aK "boards" (.ref bd) []))) p=some (.ins CS dx (aK "changes" (.ref ch) (aK "boards" (.ref bd) []))):=aJ
  have n4:∀{b:Addr},upd H3 p (.ins CS dx (aK "changes" (.ref ch) (aK "boards" (.ref bd) []))) b=none->H3 b=none/\b≠p:=iR
  generalize upd H3 p (.ins CS dx (aK "changes" (.ref ch) (aK "boards" (.ref bd) [])))=H4 at u4 p4 n4|-
  have npb:bd≠p:=fun y=>by rw[y,hp]at hbd;cases hbd
  have npc:ch≠p:=fun y=>by rw[y,p2]at hch;cases hch
  refine⟨_,rfl,p,CS,dx,_,_,rfl,p4,Y.cl,Y.n_boards,(show List.lookup ("boards":Str) (aK "changes" (V.ref ch) (aK "boards" (V.ref bd) []))=some (.ref bd) from rfl),?_⟩
  intro fi df hfi hdf ne
  refine⟨fi,df,bd,rfl,aJ,fun H5 fd lk hfd hlk nfl g1 g2 g3 b5=>⟨rfl,?_⟩⟩
  have s5:aD H4 H5:=fun b o z=>b5 b o (aX z hfi) (by rw[aG (aX z hfi),aG (aX z hdf)];exact z)
  have fr:∀{x:Addr},upd (upd H4 df (.own fi)) fi (.ins CF df []) x=none->H4 x=none:=fun{x} z=>(iR (iR z).1).1
  refine⟨_,rfl,p,CS,dx,_,rfl,s5 _ _ p4,Y.cl,Y.n_finder,(by show 2<1000;decide),?_⟩
  rw[a6U]
  have u6:bO p H5 (upd H5 p (.ins CS dx (dP bd ch fi))):=fun b o n z=>by rw[aG n];exact z
  have dn:∀{x:Addr},H4 x=none->H x=none/\x≠p:=fun z=>⟨(n1 (n2 (n3 (n4 z).1).1).1).1,(n4 z).2⟩
  have gH:=dn (fr hfd)
  have frl:=dn (fr hlk)
  have frf:=dn hfi
  have hc0:H ch=none:=(n1 (n2 hch).1).1
  refine q _ bd ch fi fd lk df (fun x hx=> ?_) nfl aJ (u6 _ _ npb (s5 _ _ (u4 _ _ npb (s3 _ _ (u2 _ _ npb b1))))) (u6 _ _ npc (s5 _ _ (u4 _ _ npc c3))) (u6 _ _ frf.2 g1) (u6 _ _ gH.2 g2) (u6 _ _ frl.2 g3) (fun b o n z=>u6 _ _ n (s5 _ _ (u4 _ _ n (s3 _ _ (u2 _ _ n (s1 _ _ z))))))
  simp only[List.mem_cons,List.not_mem_nil,or_false]at hx
  rcases hx with rfl|rfl|rfl|rfl|rfl
  ·exact hbd
  ·exact hc0
  ·exact frf.1
  ·exact gH.1
  ·exact frl.1
def oW(CS:Addr)(s bd ch:Addr)(cs:List V)(kb:List (aB×V))(H:Hp):Prop:=(∃dx fi,H s=some (.ins CS dx (dP bd ch fi)))/\H ch=some (.lst cs)/\H bd=some (.dK kb)
def vZ(CS CF:Addr)(s bd ch fi fd lk:Addr)(cs:List V)(kb:List (aB×V))(H0 H:Hp):Prop:=(∃dx,H s=some (.ins CS dx (dP bd ch fi)))/\H ch=some (.lst cs)/\H bd=some (.dK kb)/\(∃df,H fi=some (.ins CF df (fG bd fd lk)))/\H fd=some (.dT [])/\H lk=some (.dT [])/\fd≠lk/\H0 fi=none/\H0 fd=none/\H0 lk=none
def a0m(CS CF CB CT:Addr):Sp:=fun vs H Q _=>∃(s bd ch:Addr) (cs:List V) (kb:List (aB×V)) (nm:Str) (m:Nat),vs= [.ref s,.str nm,.int (m:Int)] /\oW CS s bd ch cs kb H/\cs.length<900/\kb.length<4/\Nl nm/\aQ kb (.inr nm:aB)=none/\m<=30/\
 ∀H' fi fd lk c b g r e ru me od,vZ CS CF s bd ch fi fd lk (cs++ [.ref c]) (aR kb (.inr nm:aB) (.ref b)) H H'->bS CB CT H' ⟨b,g,r,e,ru,me,od,dA 0 m,(m:Int),[],[],[],[]⟩ ->BM.sep ⟨b,g,r,e,ru,me,od,dA 0 m,(m:Int),[],[],[],[]⟩ ->(∀x∈ [b,g,r,e,ru,me,od],H x=none)->(∀x o,x≠s->x≠ch->x≠bd->H x=some o->H' x=some o)->Q .non H'
theorem a8i:aV ["self","name","many"] ["self","name","many"] (aN a3N):=⟨rfl,rfl,rfl,by decide+kernel,rfl,by decide+kernel,by decide+kernel⟩
theorem a86(T:aW K mg){CS CF CB CT CC:Addr}(Y:cU K mg CS)(Z:eW K mg CF)(W:bU K mg CB)(U:cI K mg CT)(C:rL K mg CC):aL P w K mg base aC 9 CS "table" ["self","name","many"] (a0m CS CF CB CT):=by
 have G_is_name:bI P w K mg base aC 1 "is_name" ["thing"] (lM K):=mC T
 have G_size:bI P w K mg base aC 2 "check_size" ["many"] vQ:=a3L T
 have GI:dJ P w K mg base aC 1 CC ["self","boards","name","size"] (a0B CC):=a6V T C
 have G_make:aL P w K mg base aC 8 CS "make" ["self","change"] (sK CS CF CC (yI CC CB CT)):=vU T Y Z C.cl a7s (a5b T C W U)
 refine Y.m_table.known a8i (fun _ _ _ _ _ _ us hl=>eM (fun _ _ _=>rfl) us hl) (fun vs H Q E h=> ?_) (fun f cdv A outer s H vs Q E hr h=> ?_)
 ·obtain⟨s',bd,ch,cs,kb,nm,m,rfl,_⟩:=h
  rfl
 ·obtain⟨s',bd,ch,cs,kb,nm,m,rfl,hS,cl,kl,hn,hv,hm,q⟩:=h
  have hu:=eB hr
  refine⟨_,(aH (bM (PW.pt (gB (dI (cM (bQ G_is_name (hr.mono (by decide)) aM (aA (pv 1) aE)) (fun _=>rfl))) (gY (jM (oT hu (pv 1) (aT (pv 0) rfl)))))) (aI cB) bP)
   (aH (cC (bQ G_size (hr.mono (by decide)) aM (aA (pv 2) aE)))
   (aH (bM (cE wU (cT a2Z rfl T.len gI (aA (aT (pv 0) rfl) aE)) (oC T.g_MOST_TABLES) (cH _)) (aI cB) bP)
   (aI (cC (bH (pv 0) Y.cl G_make hr aM (aA (jC GI (hr.mono (by decide)) C.c aM (aA (aT (pv 0) rfl) (aA (pv 1) (aA (pv 2) aE)))) aE))))))),?_⟩
  have h8:=hn.2.1
  obtain⟨⟨dx,fi0,h1⟩,h2,h3⟩:=hS
  obtain⟨a1,a2,a3,a4⟩:=kX bd ch fi0
  refine⟨_,rfl,_,.str nm,rfl,.str nm,lH (by omega),fun H0 s9=>⟨_,rfl,?_⟩⟩
  rw[show fE (.str nm)=true from hn.name]
  have h1:=s9 _ _ h1
  have h2':=s9 _ _ h2
  have h3':=s9 _ _ h3
  refine bK ⟨_,rfl,_,rfl,s',CS,dx,_,_,rfl,h1,Y.cl,Y.n_boards,a1,bd,_,rfl,cA.k (k:=Sum.inr nm) h3',_,rfl,?_⟩
  rw[hv]
  refine bK ⟨_,rfl,m,rfl,hm,?_⟩
  refine⟨_,rfl,s',CS,dx,_,_,rfl,h1,Y.cl,Y.n_boards,a1,bd,kb,rfl,h3',_,_,rfl,rfl,_,rfl,?_⟩
  refine dL (fun g=>absurd (of_decide_eq_true g) (by omega)) (fun g=> ?_)
  refine⟨_,rfl,s',dx,_,rfl,h1,dC,_,rfl,s',CS,dx,_,_,rfl,h1,Y.cl,Y.n_boards,a1,_,rfl,_,rfl,?_⟩
  intro c dc hc hdc ne
  refine⟨c,dc,bd,nm,m,rfl,aJ,fun H1 b1 c1=>⟨rfl,?_⟩⟩
  have s1:aD H0 H1:=fun b o z=>b1 b o (aX z hc) (by rw[aG (aX z hc),aG (aX z hdc)];exact z)
  refine⟨s',c,bd,ch,fi0,dx,dc,cs,_,rfl,c1,(sX _ _ _).2.2.2,c,dc,bd,nm,m,kb,rfl,c1,s1 _ _ h3',by omega,hm,fun H2 b g r e ru me od B2 sp2 fr2 bd2 u2=> ?_⟩
  have ns:s'≠bd:=fun y=>by rw[y,h3']at h1;cases h1
  have nc:ch≠bd:=fun y=>by rw[y,h3']at h2';cases h2'
  have nsc:s'≠ch:=fun y=>by rw[y,h2']at h1;cases h1
  refine⟨u2 _ _ ns (s1 _ _ h1),u2 _ _ nc (s1 _ _ h2'),cl,fun H3 fi fd lk df f1 f2 f3 nfl g1 g2 g3 g4 g5 u3=> ?_⟩
  have n0:∀{x:Addr},H2 x=none->H x=none:=fun{x} e=>by
   cases e2:H x with
   |none=>rfl
   |some o=>
    by_cases y:x=bd
    ·rw[y,bd2]at e;cases e
    ·rw[u2 _ _ y (s1 _ _ (s9 _ _ e2))]at e;cases e
  have k3:∀{x:Addr} {o:HO},H2 x=some o->x≠s'->x≠ch->H3 x=some o:=fun e n m=>u3 _ _ n m e
  have fr:∀x∈ [b,g,r,e,ru,me,od],H x=none:=fun x hx=>dW (s9.trans s1) (fr2 x hx)
  have nb:∀{x:Addr},x∈ [b,g,r,e,ru,me,od] ->x≠s'/\x≠ch:=fun hx=>⟨fun y=>by{have:=s1 _ _ h1;rw[<- y,fr2 _ hx]at this;cases this},fun y=>by{have:=s1 _ _ h2';rw[<- y,fr2 _ hx]at this;cases this}⟩
  obtain⟨⟨d1,e1⟩,⟨⟨d2,e2⟩,e3,e4⟩,e5,e6,e7⟩:=B2
  have kb2:∀{x:Addr} {o:HO},x∈ [b,g,r,e,ru,me,od] ->H2 x=some o->H3 x=some o:=fun hx e=>k3 e (nb hx).1 (nb hx).2
  exact q H3 fi fd lk c b g r e ru me od ⟨⟨dx,g1⟩,g2,k3 bd2 ns.symm nc.symm,⟨df,g3⟩,g4,g5,nfl,n0 f1,n0 f2,n0 f3⟩ ⟨⟨d1,kb2 (by simp) e1⟩,⟨⟨d2,kb2 (by simp) e2⟩,kb2 (by simp) e3,kb2 (by simp) e4⟩,kb2 (by simp) e5,kb2 (by simp) e6,kb2 (by simp) e7⟩ sp2 fr (fun x o n1 n2 n3 e=>k3 (u2 _ _ n3 (s1 _ _ (s9 _ _ e))) n1 n2)
theorem bS.off{CS CB CT s ch:Addr}{cs:List V}{H H':Hp}{B:BM}(h:bS CB CT H B)(hs:∃dx bd ch' fi,H s=some (.ins CS dx (dP bd ch' fi)))(hc:H ch=some (.lst cs))(n1:ch≠B.r)(n2:ch≠B.od)(u:∀x o,x≠s->x≠ch->H x=some o->H' x=some o):bS CB CT H' B:=by
 obtain⟨dx,bd,ch',fi,hs⟩:=hs
 obtain⟨⟨d1,e1⟩,⟨⟨d2,e2⟩,e3,e4⟩,e5,e6,e7⟩:=h
 have k:∀{x:Addr} {o:HO},H x=some o->(∀a b c,o≠ .ins a b c)->x≠ch->H' x=some o:=fun e n m=>u _ _ (fun y=>by rw[y,hs]at e;exact n _ _ _ (Option.some.inj e).symm) m e
 have nc:∀{x:Addr} {o:HO},H x=some o->(∀a,o≠ .lst a)->x≠ch:=fun e n y=>by rw[y,hc]at e;exact n _ (Option.some.inj e).symm
 refine⟨⟨d1,u _ _ (a4w e1 hs (show 4≠3 by decide)) (nc e1 (fun _ y=>by cases y)) e1⟩,⟨⟨d2,u _ _ (fun y=> ?_) (nc e2 (fun _ y=>by cases y)) e2⟩,k e3 (fun _ _ _ y=>by cases y) n1.symm,k e4 (fun _ _ _ y=>by cases y) (nc e4 (fun _ y=>by cases y))⟩,k e5 (fun _ _ _ y=>by cases y) (nc e5 (fun _ y=>by cases y)),k e6 (fun _ _ _ y=>by cases y) (nc e6 (fun _ y=>by cases y)),k e7 (fun _ _ _ y=>by cases y) n2.symm⟩
 rw[y,hs]at e2
 cases e2
structure sU(bd ch:Addr)(B:BM):Prop where
 r:ch≠B.r
 o:ch≠B.od
 e:bd≠B.e
 u:bd≠B.ru
 m:bd≠B.me
def yE(K:Fg)(CS CF CB CT:Addr):Sp:=fun vs H Q _=>∃(s bd ch a:Addr) (cs:List V) (kb:List (aB×V)) (nm t:Str) (ys:List V) (ds:List PyData) (B:BM),vs= [.ref s,.str nm,.str t,.ref a] /\oW CS s bd ch cs kb H/\cs.length<900/\Nl nm/\aQ kb (.inr nm:aB)=some (.ref B.b)/\bS CB CT H B/\B.sep/\sU bd ch B/\pQ B t/\Nl t/\H a=some (.lst ys)/\a≠B.od/\bN K H ys ds/\ys.length=B.xs.length/\ys.length<=30/\B.kvs.length<8/\B.ord.length<8/\
 ∀H' fi fd lk c l,vZ CS CF s bd ch fi fd lk (cs++ [.ref c]) kb H H'->H l=none->bS CB CT H' {B with kvs:=aR B.kvs (.inr t:aB) (.ref l),ord:=B.ord++ [t]} ->H' l=some (.lst ys)->(∀x o,x≠s->x≠ch->x≠B.od->x≠B.e->H x=some o->H' x=some o)->Q .non H'
theorem a24:aV ["self","table","column","values","board"] ["self","table","column","values"] (aN a1Z):=⟨rfl,rfl,rfl,by decide+kernel,rfl,by decide+kernel,by decide+kernel⟩
theorem a22(T:aW K mg){CS CF CB CT CC:Addr}(Y:cU K mg CS)(Z:eW K mg CF)(W:bU K mg CB)(U:cI K mg CT)(C:nY K mg CC):aL P w K mg base aC 9 CS "give" ["self","table","column","values"] (yE K CS CF CB CT):=by
 have G_for:aL P w K mg base aC 3 CS "board_for" ["self","table","column"] (yF CS CB CT):=a2J T Y W
 have G_many:aL P w K mg base aC 1 CT "many" ["self"] (lL CT):=mW T U
 have G_cv:bI P w K mg base aC 4 "check_values" ["values","many"] (wM K):=a1q T
 have GI:dJ P w K mg base aC 1 CC ["self","board","column","content"] (xI CC):=a2V T C
 have G_make:aL P w K mg base aC 8 CS "make" ["self","change"] (sK CS CF CC (sO CC CB CT (zI K CB CT))):=vU T Y Z C.cl (a0H a4Z) (a1D T C W (a9j T W U))
 refine Y.m_give.known a24 (fun _ _ _ _ _ _ us hl=>mI (fun _ _ _ _=>rfl) us hl) (fun vs H Q E h=> ?_) (fun f cdv A outer s H vs Q E hr h=> ?_)
 ·obtain⟨s',bd,ch,a,cs,kb,nm,t,ys,ds,B,rfl,_⟩:=h
  rfl
 ·obtain⟨s',bd,ch,a,cs,kb,nm,t,ys,ds,B,rfl,hS,cl,hn,hv,hB,sep,ss,new,ht,ha,nao,hp,ly,l30,k8,o8,q⟩:=h
  refine⟨_,(aH (bR (i:=4) a24.nd rfl (Or.inl rfl) (bH (pv 0) Y.cl G_for (hr.mono (by decide)) aM (aA (pv 1) (aA (pv 2) aE))))
   (aH (cC (bQ G_cv (hr.mono (by decide)) aM (aA (pv 3) (aA (eO (aT (pv 4) rfl) U.cl G_many (hr.mono (by decide)) aM) aE))))
   (aI (cC (bH (pv 0) Y.cl G_make hr aM (aA (jC GI (hr.mono (by decide)) C.c aM (aA (pv 4) (aA (pv 2) (aA (pv 3) aE)))) aE)))))),?_⟩
  obtain⟨⟨dx,fi0,h1⟩,h2,h3⟩:=hS
  refine⟨_,rfl,s',dx,_,rfl,h1,dC,_,rfl,_,rfl,s',bd,ch,fi0,dx,kb,nm,t,B,rfl,h1,h3,hn,hv,hB,ht,o8,fun H1 s1=> ?_⟩
  obtain⟨dB,b1⟩:=(hB.same s1).at_
  obtain⟨dT,t1⟩:=(hB.same s1).tab.at_
  refine⟨_,rfl,_,rfl,B.b,CB,dB,_,_,rfl,b1,W.cl,W.n_given,(dH _ _ _ _).1,B.g,dT,_,rfl,t1,jN,B.g,B.r,B.e,B.xs,B.n,B.kvs,rfl,(hB.same s1).tab,?_⟩
  refine⟨a,ys,ds,by rw[ly];rfl,aO.of (s1 _ _ ha),hp.keep (bF.of s1),by omega,fun H2 s2=> ?_⟩
  have s12:=s1.trans s2
  refine⟨_,rfl,s',dx,_,rfl,s12 _ _ h1,dC,_,rfl,_,rfl,_,rfl,?_⟩
  intro c dc hc hdc ne
  refine⟨c,dc,B.b,a,t,rfl,aJ,fun H3 b3 c3=>⟨rfl,?_⟩⟩
  have s3:aD H H3:=fun b o z=>b3 b o (aX (s12 _ _ z) hc) (by rw[aG (aX (s12 _ _ z) hc),aG (aX (s12 _ _ z) hdc)];exact s12 _ _ z)
  have hB3:=hB.same s3
  refine⟨s',c,bd,ch,fi0,dx,dc,cs,_,rfl,c3,(zA _ _ _).2.2.2.1,c,dc,a,B,t,rfl,c3,hB3,new,B,t,a,ys,ds,rfl,hB3,sep,new,ht,s3 _ _ ha,nao,hp.keep (bF.of s3),ly,l30,k8,by omega,fun H4 l hl B4 l4 u4=> ?_⟩
  have hB0:=hB.ord
  have he0:=hB.tab.kept
  have k4:∀{x:Addr} {o:HO},H x=some o->x≠B.od->x≠B.e->H4 x=some o:=fun e n m=>u4 _ _ n m (s3 _ _ e)
  have ns:s'≠B.od/\s'≠B.e:=⟨fun y=>by{rw[y,hB0]at h1;cases h1},fun y=>by{rw[y,he0]at h1;cases h1}⟩
  have nce:ch≠B.e:=fun y=>by rw[y,he0]at h2;cases h2
  have nbo:bd≠B.od:=fun y=>by rw[y,hB0]at h3;cases h3
  have ns4:=k4 h1 ns.1 ns.2
  have ch4:=k4 h2 ss.o nce
  refine⟨ns4,ch4,cl,fun H5 fi fd lk df f1 f2 f3 nfl g1 g2 g3 g4 g5 u5=> ?_⟩
  have nn:∀{x:Addr},H4 x=none->H x=none:=fun{x} e=>by
   cases e2:H x with
   |none=>rfl
   |some o=>
    by_cases y:x=B.od
    ·rw[y,B4.ord]at e;cases e
    ·by_cases y2:x=B.e
     ·rw[y2,B4.tab.kept]at e;cases e
     ·rw[k4 e2 y y2]at e;cases e
  have hl0:H l=none:=dW s3 hl
  have nl:l≠s'/\l≠ch:=⟨fun y=>by{rw[y,h1]at hl0;cases hl0},fun y=>by{rw[y,h2]at hl0;cases hl0}⟩
  have nb:bd≠s'/\bd≠ch:=⟨fun y=>by{rw[y,h1]at h3;cases h3},fun y=>by{rw[y,h2]at h3;cases h3}⟩
  exact q H5 fi fd lk c l ⟨⟨dx,g1⟩,g2,u5 _ _ nb.1 nb.2 (k4 h3 nbo ss.e),⟨df,g3⟩,g4,g5,nfl,nn f1,nn f2,nn f3⟩ hl0 (B4.off ⟨dx,bd,ch,fi0,ns4⟩ ch4 ss.r ss.o u5) (u5 _ _ nl.1 nl.2 l4) (fun x o n1 n2 n3 n4 e=>u5 _ _ n1 n2 (k4 e n3 n4))
end
abbrev aF:=Str×Str
inductive hW(adj:aF->List aF)(s:aF):Nat->aF->Prop
 |zero:hW adj s 0 s
 |step {n:Nat} {x y:aF}:hW adj s n x->y∈adj x->hW adj s (n+ 1) y
theorem hW.inv{adj:aF->List aF}{s:aF}{n:Nat}{y:aF}(h:hW adj s (n+ 1) y):∃x,hW adj s n x/\y∈adj x:=by
 cases h with
 |step h1 h2=>exact⟨_,h1,h2⟩
structure mD(adj:aF->List aF)(s:aF)(ys:List aF):Prop where
 hd:ys[0]?=some s
 nd:ys.Nodup
 nx:∀i x,ys[i]?=some x->∃y,ys[(i+ 1)% ys.length]?=some y/\y∈adj x
inductive cS(cm:aF->Option aF)(s:aF):aF->List aF->Prop
 |nil:cS cm s s [s]
 |cons {x u:aF} {ps:List aF}:x≠s->cm x=some u->cS cm s u ps->cS cm s x (x::ps)
theorem cS.uniq{cm:aF->Option aF}{s:aF}:∀{x:aF} {ps qs:List aF},cS cm s x ps->cS cm s x qs->ps=qs
 |_,_,_,.nil,.nil=>rfl
 |_,_,_,.nil,.cons h _ _=>absurd rfl h
 |_,_,_,.cons h _ _,.nil=>absurd rfl h
 |_,_,_,.cons _ e b,.cons _ e' b'=>by
  rw[e]at e'
  cases e'
  rw[cS.uniq b b']
theorem cS.mem{cm:aF->Option aF}{s:aF}:∀{x y:aF} {ps:List aF},cS cm s x ps->y∈ps->∃qs,cS cm s y qs/\qs.length<=ps.length/\∃pre,ps=pre++ qs
 |_,y,_,.nil,h=>by rw[List.mem_singleton.mp h];exact⟨[_],.nil,Nat.le_refl _,[],rfl⟩
 |_,y,_,.cons (x:=x) (ps:=ps) h e b,hm=>by
  rcases List.mem_cons.mp hm with rfl|hm
  ·exact⟨_,.cons h e b,Nat.le_refl _,[],rfl⟩
  ·obtain⟨qs,h1,h2,pre,h3⟩:=cS.mem b hm
   exact⟨qs,h1,Nat.le_succ_of_le h2,x::pre,by rw[h3];rfl⟩
theorem cS.nodup{cm:aF->Option aF}{s:aF}:∀{x:aF} {ps:List aF},cS cm s x ps->ps.Nodup
 |_,_,.nil=>by simp
 |_,_,.cons (x:=x) (ps:=ps) h e b=>by
  rw[List.nodup_cons]
  refine⟨fun hm=> ?_,b.nodup⟩
  obtain⟨qs,h1,h2,_⟩:=b.mem hm
  have:=cS.uniq h1 (.cons h e b)
  rw[this,List.length_cons]at h2
  omega
theorem cS.last{cm:aF->Option aF}{s:aF}:∀{x:aF} {ps:List aF},cS cm s x ps->ps.getLast?=some s
 |_,_,.nil=>rfl
 |_,_,.cons (x:=x) (ps:=ps) h e b=>by
  have:=b.last
  cases ps with
  |nil=>cases b
  |cons p r=>rw[List.getLast?_cons_cons];exact this
theorem cS.head{cm:aF->Option aF}{s:aF}{x:aF}{ps:List aF}(h:cS cm s x ps):ps[0]?=some x:=by
 cases h<;>rfl
theorem cS.next{cm:aF->Option aF}{s:aF}:∀{x:aF} {ps:List aF} {i:Nat} {y z:aF},cS cm s x ps->ps[i]?=some y->ps[i+ 1]?=some z->y≠s/\cm y=some z
 |_,_,i,y,z,.nil,h1,h2=>by simp at h2
 |_,_,0,y,z,.cons (x:=x) (ps:=ps) h e b,h1,h2=>by
  simp at h1
  subst h1
  have h2:ps[0]?=some z:=by simpa using h2
  rw[b.head]at h2
  cases h2
  exact⟨h,e⟩
 |_,_,i+ 1,y,z,.cons h e b,h1,h2=>cS.next (i:=i) b (by simpa using h1) (by simpa using h2)
theorem cS.ext{cm cm':aF->Option aF}{s:aF}(hc:∀x u,cm x=some u->cm' x=some u):∀{x:aF} {ps:List aF},cS cm s x ps->cS cm' s x ps
 |_,_,.nil=> .nil
 |_,_,.cons h e b=> .cons h (hc _ _ e) (b.ext hc)
theorem cS.drop{cm:aF->Option aF}{s:aF}:∀{x y:aF} {ps:List aF} {i:Nat},cS cm s x ps->ps[i]?=some y->cS cm s y (ps.drop i)
 |_,_,_,0,h,e=>by
  rw[h.head]at e
  cases e
  exact h
 |_,_,_,i+ 1,.nil,e=>by simp at e
 |_,_,_,i+ 1,.cons _ _ b,e=>cS.drop (i:=i) b (by simpa using e)
theorem cS.ring{adj:aF->List aF}{cm:aF->Option aF}{s x:aF}{ps:List aF}(hc:∀z u,cm z=some u->z∈adj u)(hs:s∈adj x)(h:cS cm s x ps):mD adj s ps.reverse:=by
 have hl:ps.getLast?=some s:=h.last
 have hpos:0<ps.length:=by
  cases ps with
  |nil=>simp at hl
  |cons=>simp
 have hls:ps[ps.length- 1]?=some s:=by rw[<- List.getLast?_eq_getElem?];exact hl
 refine⟨?_,?_,fun i z hz=> ?_⟩
 ·rw[List.getElem?_reverse hpos]
  simpa using hls
 ·exact List.pairwise_reverse.mpr (h.nodup.imp fun h=>Ne.symm h)
 ·have hi:i<ps.length:=by
   have:=(List.getElem?_eq_some_iff.mp hz).1
   simpa using this
  rw[List.length_reverse]
  rw[List.getElem?_reverse hi]at hz
  by_cases g:i+ 1<ps.length
  ·rw[Nat.mod_eq_of_lt g,List.getElem?_reverse g]
   obtain⟨y,hy⟩:∃y,ps[ps.length- 1- (i+ 1)]?=some y:=⟨_,List.getElem?_eq_getElem (by omega)⟩
   have e:ps.length- 1- i=(ps.length- 1- (i+ 1))+ 1:=by omega
   rw[e]at hz
   exact⟨y,hy,hc _ _ (h.next hy hz).2⟩
  ·have e:i+ 1=ps.length:=by omega
   rw[e,Nat.mod_self,List.getElem?_reverse hpos]
   have e0:ps.length- 1- i=0:=by omega
   rw[e0,h.head]at hz
   cases hz
   exact⟨s,by simpa using hls,hs⟩
theorem mD.walk{adj:aF->List aF}{s:aF}{ys:List aF}(R:mD adj s ys):∀(i:Nat) (x:aF),ys[i]?=some x->hW adj s i x
 |0,x,h=>by
  rw[R.hd]at h
  cases h
  exact .zero
 |i+ 1,x,h=>by
  have hi:i+ 1<ys.length:=(List.getElem?_eq_some_iff.mp h).1
  obtain⟨z,hz⟩:∃z,ys[i]?=some z:=⟨_,List.getElem?_eq_getElem (by omega)⟩
  obtain⟨y,h1,h2⟩:=R.nx i z hz
  rw[Nat.mod_eq_of_lt hi,h]at h1
  cases h1
  exact .step (R.walk i z hz) h2
theorem mD.pos{adj:aF->List aF}{s:aF}{ys:List aF}(R:mD adj s ys):0<ys.length:=(List.getElem?_eq_some_iff.mp R.hd).1
theorem mD.back{adj:aF->List aF}{s:aF}{ys:List aF}(R:mD adj s ys):hW adj s ys.length s:=by
 have hp:=R.pos
 obtain⟨z,hz⟩:∃z,ys[ys.length- 1]?=some z:=⟨_,List.getElem?_eq_getElem (by omega)⟩
 obtain⟨y,h1,h2⟩:=R.nx _ z hz
 have e:ys.length- 1+ 1=ys.length:=by omega
 rw[e,Nat.mod_self,R.hd]at h1
 cases h1
 have:=hW.step (R.walk _ z hz) h2
 rw[e]at this
 exact this
def jB(cm:aF->Option aF)(nodes:List aF):Nat:=(nodes.filter fun z=>(cm z).isNone).length
theorem a12{cm cm':aF->Option aF}(hc:∀x,(cm x).isSome->(cm' x).isSome):∀nodes:List aF,jB cm' nodes<=jB cm nodes
 | []=>Nat.le_refl _
 |z::r=>by
  have ih:=a12 hc r
  unfold jB at ih|-
  rw[List.filter_cons,List.filter_cons]
  cases e:cm z with
  |none=>cases e':cm' z<;>simp<;>omega
  |some u=>
   have:=hc z (by rw[e];rfl)
   cases e':cm' z with
   |none=>rw[e']at this;cases this
   |some u'=>simpa using ih
theorem vI{cm cm':aF->Option aF}(hc:∀x,(cm x).isSome->(cm' x).isSome){y:aF}(h0:cm y=none)(h1:(cm' y).isSome):∀{nodes:List aF},y∈nodes->jB cm' nodes+ 1<=jB cm nodes
 |z::r,hy=>by
  have le:=a12 hc r
  unfold jB at le|-
  rw[List.filter_cons,List.filter_cons]
  rcases List.mem_cons.mp hy with rfl|hy
  ·rw[h0]
   cases e':cm' y with
   |none=>rw[e']at h1;cases h1
   |some u=>simpa using Nat.succ_le_succ le
  ·have ih:=vI hc h0 h1 hy
   unfold jB at ih
   cases e:cm z with
   |none=>cases e':cm' z<;>simp<;>omega
   |some u=>
    have:=hc z (by rw[e];rfl)
    cases e':cm' z with
    |none=>rw[e']at this;cases this
    |some u'=>simpa using ih
theorem xK(cm:aF->Option aF)(nodes:List aF):jB cm nodes<=nodes.length:=List.length_filter_le _ _
def sH(adj:aF->List aF)(s:aF)(cm:aF->Option aF)(x:aF):Prop:=∀y∈adj x,y≠s/\(cm y).isSome
structure kG(adj:aF->List aF)(s:aF)(nodes:List aF)(r:Nat)(cm:aF->Option aF)(wz:List aF):Prop where
 c:∀z u,cm z=some u->z∈adj u/\z≠s
 d:∀x∈wz,∃ps,cS cm s x ps/\ps.length=r+ 1
 f:∀x,(x=s\/ (cm x).isSome)->sH adj s cm x\/ x∈wz
 w:∀x∈wz,x=s\/ (cm x).isSome
 q:∀x,hW adj s r x->x=s\/ (cm x).isSome
 n:∀k,k+ 1<=r->¬hW adj s (k+ 1) s
 b:wz= []\/ r+ jB cm nodes<=nodes.length
theorem kG.start{adj:aF->List aF}{s:aF}{nodes:List aF}:kG adj s nodes 0 (fun _=>none) [s] where
 c:=fun _ _ h=>by cases h
 d:=fun x hx=>by rw[List.mem_singleton.mp hx];exact⟨[s],.nil,rfl⟩
 f:=fun x hx=>by
  rcases hx with rfl|hx
  ·exact .inr (by simp)
  ·cases hx
 w:=fun x hx=> .inl (List.mem_singleton.mp hx)
 q:=fun x hx=>by cases hx;exact .inl rfl
 n:=fun k hk=>by omega
 b:=.inr (by have:=xK (fun _=>none) nodes;omega)
theorem kG.over{adj:aF->List aF}{s:aF}{nodes:List aF}{r:Nat}{cm:aF->Option aF}(B:kG adj s nodes r cm []):∀n,¬hW adj s (n+ 1) s:=by
 have all:∀n x,hW adj s n x->x=s\/ (cm x).isSome:=by
  intro n
  induction n with
  |zero=>intro x h;cases h;exact .inl rfl
  |succ n ih=>
   intro x h
   obtain⟨z,h1,h2⟩:=h.inv
   rcases B.f z (ih z h1)with g|g
   ·exact .inr (g x h2).2
   ·cases g
 intro n h
 obtain⟨z,h1,h2⟩:=h.inv
 rcases B.f z (all n z h1)with g|g
 ·exact(g s h2).1 rfl
 ·cases g
structure iX(adj:aF->List aF)(s:aF)(nodes:List aF)(r:Nat)(cm0:aF->Option aF)(wz:List aF)(i:Nat)(cm:aF->Option aF)(fz:List aF):Prop where
 c:∀z u,cm z=some u->z∈adj u/\z≠s
 e:∀z u,cm0 z=some u->cm z=some u
 d:∀x∈fz,∃ps,cS cm s x ps/\ps.length=r+ 2
 f:∀x,(x=s\/ (cm x).isSome)->sH adj s cm x\/ x∈wz.drop i\/ x∈fz
 w:∀x∈fz,x≠s/\(cm x).isSome/\cm0 x=none
 l:fz.length+ jB cm nodes<=jB cm0 nodes
theorem iX.start{adj:aF->List aF}{s:aF}{nodes:List aF}{r:Nat}{cm:aF->Option aF}{wz:List aF}(B:kG adj s nodes r cm wz):iX adj s nodes r cm wz 0 cm [] where
 c:=B.c
 e:=fun _ _ h=>h
 d:=fun _ h=>by cases h
 f:=fun x hx=>(B.f x hx).imp id fun h=> .inl (by simpa using h)
 w:=fun _ h=>by cases h
 l:=by simp
theorem iX.next{adj:aF->List aF}{s:aF}{nodes:List aF}{r i:Nat}{cm0 cm:aF->Option aF}{wz fz:List aF}{x:aF}(M:iX adj s nodes r cm0 wz i cm fz)(hx:wz[i]?=some x)(hd:sH adj s cm x):iX adj s nodes r cm0 wz (i+ 1) cm fz:=
 ⟨M.c,M.e,M.d,fun y hy=>by
  rcases M.f y hy with h|h|h
  ·exact .inl h
  ·have hi:i<wz.length:=(List.getElem?_eq_some_iff.mp hx).1
   rw[List.drop_eq_getElem_cons hi]at h
   rcases List.mem_cons.mp h with h|h
   ·have:wz[i]=x:=(List.getElem?_eq_some_iff.mp hx).2
    rw[h,this]
    exact .inl hd
   ·exact .inr (.inl h)
  ·exact .inr (.inr h),M.w,M.l⟩
noncomputable def gR (cm:aF->Option aF) (y x:aF):aF->Option aF:=fun z=>if z=y then some x else cm z
theorem iX.put{adj:aF->List aF}{s:aF}{nodes:List aF}{r i:Nat}{cm0 cm:aF->Option aF}{wz fz:List aF}{x y:aF}(B:kG adj s nodes r cm0 wz)(M:iX adj s nodes r cm0 wz i cm fz)(hx:x∈wz)(hy:y∈adj x)(hs:y≠s)(h0:cm y=none)(hn:y∈nodes):
 iX adj s nodes r cm0 wz i (gR cm y x) (fz++ [y]):=by
 have ext:∀z u,cm z=some u->gR cm y x z=some u:=fun z u h=>by
  unfold gR
  rw[if_neg (fun e=>by rw[e,h0]at h;cases h)]
  exact h
 have some':∀z,(cm z).isSome->(gR cm y x z).isSome:=fun z h=>by
  obtain⟨u,hu⟩:=Option.isSome_iff_exists.mp h
  rw[ext z u hu];rfl
 have at':gR cm y x y=some x:=by unfold gR;rw[if_pos rfl]
 refine⟨fun z u h=> ?_,fun z u h=>ext z u (M.e z u h),fun z hz=> ?_,fun z hz=> ?_,fun z hz=> ?_,?_⟩
 ·unfold gR at h
  by_cases e:z=y
  ·rw[if_pos e]at h
   cases h
   rw[e]
   exact⟨hy,hs⟩
  ·rw[if_neg e]at h
   exact M.c z u h
 ·rcases List.mem_append.mp hz with hz|hz
  ·obtain⟨ps,h1,h2⟩:=M.d z hz
   exact⟨ps,h1.ext ext,h2⟩
  ·rw[List.mem_singleton.mp hz]
   obtain⟨ps,h1,h2⟩:=B.d x hx
   exact⟨y::ps,.cons hs at' ((h1.ext M.e).ext ext),by rw[List.length_cons,h2]⟩
 ·by_cases e:z=y
  ·exact .inr (.inr (by rw[e];simp))
  ·have hz':z=s\/ (cm z).isSome:=hz.imp id fun h=>by
    unfold gR at h
    rw[if_neg e]at h
    exact h
   rcases M.f z hz' with h|h|h
   ·exact .inl fun u hu=>⟨(h u hu).1,some' u (h u hu).2⟩
   ·exact .inr (.inl h)
   ·exact .inr (.inr (List.mem_append_left _ h))
 ·rcases List.mem_append.mp hz with hz|hz
  ·obtain⟨h1,h2,h3⟩:=M.w z hz
   exact⟨h1,some' z h2,h3⟩
  ·rw[List.mem_singleton.mp hz]
   refine⟨hs,by rw[at'];rfl,?_⟩
   cases e:cm0 y with
   |none=>rfl
   |some u=>rw[M.e y u e]at h0;cases h0
 ·have h1:=vI some' h0 (by rw[at'];rfl) hn
  have h2:=M.l
  rw[List.length_append,List.length_singleton]
  omega
theorem iX.over{adj:aF->List aF}{s:aF}{nodes:List aF}{r:Nat}{cm0 cm:aF->Option aF}{wz fz:List aF}(B:kG adj s nodes r cm0 wz)(M:iX adj s nodes r cm0 wz wz.length cm fz)(hw:wz≠ []):kG adj s nodes (r+ 1) cm fz:=by
 have some':∀z,(cm0 z).isSome->(cm z).isSome:=fun z h=>by
  obtain⟨u,hu⟩:=Option.isSome_iff_exists.mp h
  rw[M.e z u hu];rfl
 have old:∀x,(x=s\/ (cm0 x).isSome)->sH adj s cm x:=fun x hx=>by
  rcases M.f x (hx.imp id (some' x))with h|h|h
  ·exact h
  ·simp at h
  ·obtain⟨h1,_,h3⟩:=M.w x h
   rcases hx with hx|hx
   ·exact absurd hx h1
   ·rw[h3]at hx;cases hx
 refine⟨M.c,M.d,fun x hx=> ?_,fun x hx=> .inr (M.w x hx).2.1,fun x hx=> ?_,fun k hk h=> ?_,?_⟩
 ·rcases M.f x hx with h|h|h
  ·exact .inl h
  ·simp at h
  ·exact .inr h
 ·obtain⟨z,h1,h2⟩:=hx.inv
  exact .inr (old z (B.q z h1) x h2).2
 ·by_cases g:k+ 1<=r
  ·exact B.n k g h
  ·have e:k=r:=by omega
   subst e
   obtain⟨z,h1,h2⟩:=h.inv
   exact(old z (B.q z h1) s h2).1 rfl
 ·by_cases g:fz= []
  ·exact .inl g
  ·refine .inr ?_
   have hl:=M.l
   have hp:0<fz.length:=List.length_pos_iff.mpr g
   rcases B.b with b|b
   ·exact absurd b hw
   ·omega
theorem a49:bootBuiltins "reversed"=some (.type "reversed"):=by kernel_rfl
def N2(z:aF):Prop:=Nl z.1/\Nl z.2
theorem N2.lay{z:aF}(h:N2 z):(iD z).canLay0=true:=wA h.1 h.2
theorem bO.upd{p:Addr}{H:Hp}{o:HO}:bO p H (upd H p o):=fun b u n e=>by rw[aG n];exact e
def kS(z:aF):List aB:=[.inr z.1,.inr z.2]
theorem a3P{z u:aF}(h:kS z=kS u):z=u:=by
 obtain⟨a,b⟩:=z
 obtain⟨c,d⟩:=u
 simp only[kS,List.cons.injEq,Sum.inr.injEq,and_true]at h
 rw[h.1,h.2]
def fQ(H:Hp)(v:V)(z:aF):Prop:=∃a,v= .ref a/\H a=some (.tup [.str z.1,.str z.2])
theorem fQ.mapT{H H':Hp}{v:V}{z:aF}(k:∀a xs,H a=some (.tup xs)->H' a=some (.tup xs))(h:fQ H v z):fQ H' v z:=let ⟨a,e,g⟩:=h;⟨a,e,k _ _ g⟩
theorem fQ.same{H H':Hp}{v:V}{z:aF}(s:aD H H')(h:fQ H v z):fQ H' v z:=h.mapT fun a xs e=>s _ _ e
theorem fQ.dt{K:Fg}{H:Hp}{v:V}{z:aF}(h:fQ H v z):Dt K H v (iD z):=by
 obtain⟨a,rfl,g⟩:=h
 exact .tup (bW.of g) (.cons (.str _) (.cons (.str _) .nil))
def bZ(H:Hp):List V->List aF->Prop:=Paired (fQ H)
theorem bZ.mapT{H H':Hp}(k:∀a xs,H a=some (.tup xs)->H' a=some (.tup xs)):∀{vs:List V} {zs:List aF},bZ H vs zs->bZ H' vs zs
 |_,_,.nil=> .nil
 |_,_,.cons r t=> .cons (r.mapT k) (bZ.mapT k t)
theorem bZ.same{H H':Hp}{vs:List V}{zs:List aF}(s:aD H H')(h:bZ H vs zs):bZ H' vs zs:=h.mapT fun a xs e=>s _ _ e
theorem bZ.length{H:Hp}{vs:List V}{zs:List aF}(h:bZ H vs zs):vs.length=zs.length:=Paired.length h
theorem bZ.at{H:Hp}:∀{vs:List V} {zs:List aF} {i:Nat} {v:V},bZ H vs zs->vs[i]?=some v->∃z,zs[i]?=some z/\fQ H v z
 |_,_,_,_,.nil,e=>by simp at e
 |_,_,0,_,.cons r _,e=>by simp at e;subst e;exact⟨_,rfl,r⟩
 |_,_,i+ 1,v,.cons _ t,e=>by
  obtain⟨z,h1,h2⟩:=bZ.at (i:=i) (v:=v) t (by simpa using e)
  exact⟨z,by simpa using h1,h2⟩
theorem bZ.snoc{H:Hp}{v:V}{z:aF}(h:fQ H v z):∀{vs:List V} {zs:List aF},bZ H vs zs->bZ H (vs++ [v]) (zs++ [z])
 |_,_,.nil=> .cons h .nil
 |_,_,.cons r t=> .cons r (bZ.snoc h t)
theorem bZ.rev{H:Hp}:∀{vs:List V} {zs:List aF},bZ H vs zs->bZ H vs.reverse zs.reverse
 |_,_,.nil=> .nil
 |_,_,.cons r t=>by
  rw[List.reverse_cons,List.reverse_cons]
  exact(bZ.rev t).snoc r
theorem bZ.dt{K:Fg}{H:Hp}:∀{vs:List V} {zs:List aF},bZ H vs zs->dD K H vs (zs.map iD)
 |_,_,.nil=> .nil
 |_,_,.cons r t=> .cons r.dt (bZ.dt t)
theorem bZ.last{H:Hp}{vs:List V}{zs:List aF}{z:aF}(h:bZ H vs (zs++ [z])):∃ws v,vs=ws++ [v] /\fQ H v z:=by
 have hl:=h.length
 rw[List.length_append,List.length_singleton]at hl
 have ne:vs≠ []:=fun e=>by rw[e]at hl;simp at hl
 refine⟨vs.dropLast,vs.getLast ne,(List.dropLast_concat_getLast ne).symm,?_⟩
 have hi:vs[zs.length]?=some (vs.getLast ne):=by
  rw[List.getLast_eq_getElem,List.getElem?_eq_getElem (by omega)]
  congr 2
  omega
 obtain⟨u,h1,h2⟩:=h.at hi
 rw[List.getElem?_append_right (Nat.le_refl _)]at h1
 simp at h1
 rw[h1]
 exact h2
def mM(H:Hp)(cvs:List (List aB×V))(cm:aF->Option aF):Prop:=∀z,(cm z=none/\aQ cvs (kS z)=none)\/ ∃u v,cm z=some u/\aQ cvs (kS z)=some v/\fQ H v u
theorem mM.mapT{H H':Hp}{cvs:List (List aB×V)}{cm:aF->Option aF}(k:∀a xs,H a=some (.tup xs)->H' a=some (.tup xs))(h:mM H cvs cm):mM H' cvs cm:=fun z=>(h z).imp id fun⟨u,v,e1,e2,e3⟩=>⟨u,v,e1,e2,e3.mapT k⟩
theorem pC{α:Type}{xs:List α}{i:Nat}{x:α}(h:xs[i]?=some x):xs.take (i+ 1)=xs.take i++ [x]:=by
 rw[List.take_add_one,h]
 rfl
section
variable{P:Program}{w:World}{K:Fg}{mg:Str->Option Value}{base:Heap}
def a2r(K:Fg):Sp:=fun vs H Q _=>∃(cd:Addr) (v0 vl:V) (cvs:List (List aB×V)) (cm:aF->Option aF) (s x:aF) (ps:List aF),vs= [.ref cd,v0,vl] /\H cd=some (.dT cvs)/\mM H cvs cm/\fQ H v0 s/\fQ H vl x/\cS cm s x ps/\ps.length<=900/\(∀p∈ps,N2 p)/\
 ∀H' l vs',aD H H'->H l=none->H' l=some (.lst vs')->bZ H' vs' ps.reverse->Q (.ref l) H'
theorem a1i:aV ["came_from","spot","last","way"] ["came_from","spot","last"] (aN a16):=⟨rfl,rfl,rfl,by decide+kernel,rfl,by decide+kernel,by decide+kernel⟩
theorem a3T(T:aW K mg):bI P w K mg base aC 1 "way_to" ["came_from","spot","last"] (a2r K):=by
 refine T.d_way_to.known a1i (fun _ _ _ _ _ _ us hl=>eM (fun _ _ _=>rfl) us hl) (fun vs H Q E h=> ?_) (fun f cdv A outer s H vs Q E hr h=> ?_)
 ·obtain⟨cd,v0,vl,cvs,cm,z,x,ps,rfl,_⟩:=h
  rfl
 ·obtain⟨cd,v0,vl,cvs,cm,z,x,ps,rfl,hcd,hcm,h0,hx,hB,h900,hN,q⟩:=h
  have hu:=eB hr
  refine⟨_,(aH (bR (i:=3) a1i.nd rfl (Or.inl rfl) (fW (aA (pv 2) aE)))
   (aH (wY PassesOwn.never (cE (lV hr.units) (cJ gZ (pv 3) (vL zF bJ) (fun _ _=>rfl)) (pv 1) (cH _)) (aI (cC (kH PySem.F.plainAttrs_list PySem.F.slot_list_append PySem.F.type_list_append kD (pv 3) (aA (fY hu (pv 0) (cJ gZ (pv 3) (vL zF bJ) (fun _ _=>rfl)) (fun _ _=>rfl)) aE)))))
   (aI (bA (a6S rfl (pv 3) rfl T.list iA rfl T.reversed a49))))),?_⟩
  refine⟨_,rfl,sl,fun wl hwl=> ?_⟩
  have tup0:∀{H2:Hp},bO wl H H2->∀a xs,H a=some (.tup xs)->H2 a=some (.tup xs):=fun{H2} b a xs e=>b _ _ (aX e hwl) e
  have hNz:N2 z:=by
   have:=hB.last
   exact hN z (List.mem_of_getLast? this)
  refine⟨fun m σ H2=>∃(i:Nat) (ws:List V),σ= [some (.ref cd),some v0,some vl,some (.ref wl)] /\m=ps.length- i/\i<ps.length/\bO wl H H2/\H2 wl=some (.lst ws)/\bZ H2 ws (ps.take (i+ 1)),⟨ps.length,0,[vl],rfl,by omega,?_,fun b o n e=>by rw[aG n];exact e,aJ,?_⟩,?_⟩
  ·have:=(List.getElem?_eq_some_iff.mp hB.head).1
   exact this
  ·rw[pC hB.head]
   exact .cons (hx.same (aD.new hwl)) .nil
  ·rintro m σ H2 ⟨i,ws,rfl,rfl,hi,b2,hw2,hS⟩
   obtain⟨y,hy⟩:∃y,ps[i]?=some y:=⟨_,List.getElem?_eq_getElem hi⟩
   have hyN:N2 y:=hN y (List.mem_of_getElem? hy)
   have hBi:=hB.drop hy
   rw[pC hy]at hS
   obtain⟨ws',v,rfl,hv⟩:=hS.last
   have h02:=h0.mapT (tup0 b2)
   refine⟨_,rfl,_,rfl,wl,_,_,_,rfl,rfl,aO.of hw2,a0r _ _,_,rfl,_,_,hv.dt,h02.dt,hyN.lay,hNz.lay,(show max 0 (max 0 0)+ 1<=64 by decide),_,rfl,?_⟩
   rw[vN]
   refine dL (fun g=> ?_) (fun g=> ?_)
   ·have g:y≠z:=by simpa using g
    have hlen:(ps.drop i).length=ps.length- i:=List.length_drop
    generalize hD:ps.drop i=pd at hBi hlen
    cases hBi with
    |nil=>exact absurd rfl g
    | @cons _ u ps' _ hu' hb'=>
     have hps':ps.drop (i+ 1)=ps':=by
      have:(ps.drop i).drop 1=ps':=by rw[hD];rfl
      rw[List.drop_drop]at this
      exact this
     have hi1:ps[i+ 1]?=some u:=by
      have:=hb'.head
      rw[<- hps',List.getElem?_drop]at this
      exact this
     obtain⟨av,rfl,hav⟩:=hv
     rcases hcm y with⟨e,_⟩|⟨u',v',e1,e2,e3⟩
     ·rw[e]at hu';cases hu'
     ·rw[e1]at hu'
      cases hu'
      have hl2:ps.take i++ [y]=ps.take (i+ 1):=(pC hy).symm
      have hwl':(ws'++ [V.ref av]).length<=900:=by
       rw[hS.length,hl2,List.length_take]
       omega
      refine⟨fun σ' H'=>∃(j:Nat) (ws:List V),σ'= [some (.ref cd),some v0,some vl,some (.ref wl)] /\j=i+ 1/\j<ps.length/\bO wl H H'/\H' wl=some (.lst ws)/\bZ H' ws (ps.take (j+ 1)),fun σ' H' ⟨j,ws,h1,h2,h3,h4,h5,h6⟩=>⟨ps.length- j,by omega,j,ws,h1,rfl,h3,h4,h5,h6⟩,?_⟩
      refine⟨_,rfl,.inl ⟨rfl,_,aO.of hw2⟩,_,rfl,_,rfl,_,rfl,wl,_,_,_,rfl,rfl,aO.of hw2,a0r _ _,cd,v',rfl,e2▸cA.t (k:=kS y) (b2 _ _ (aX hcd hwl) hcd) hav,wl,_,_,rfl,rfl,hw2,cQ (by omega),?_⟩
      have tup2:∀a xs,H2 a=some (.tup xs)->upd H2 wl (.lst (ws'++ [.ref av] ++ [v'])) a=some (.tup xs):=fun a xs e=>by rw[aG (kE e hw2 (fun z=>by cases z))];exact e
      refine⟨i+ 1,_,rfl,rfl,(List.getElem?_eq_some_iff.mp hi1).1,b2.trans bO.upd,aJ,?_⟩
      rw[pC hi1,<- hl2]
      exact(hS.mapT tup2).snoc ((e3.mapT (tup0 b2)).mapT tup2)
   ·have g:y=z:=by
     by_cases e:y=z
     ·exact e
     ·exact absurd (by simp[e]) g
    subst g
    have hi1:i+ 1=ps.length:=by
     have:=cS.uniq hBi .nil
     have hl:(ps.drop i).length=1:=by rw[this];rfl
     rw[List.length_drop]at hl
     omega
    refine⟨_,rfl,wl,_,rfl,aO.of hw2,fun l hl=> ?_⟩
    have s2:=aD.new (o:=.lst (ws'++ [v]).reverse) hl
    refine q _ l _ (fun b o e=>s2 _ _ (b2 _ _ (aX e hwl) e)) ?_ aJ ?_
    ·cases e:H l with
     |none=>rfl
     |some o=>rw[b2 _ _ (fun z=>by rw[z,hw2]at hl;cases hl) e]at hl;cases hl
    ·have e:ps.take i++ [y]=ps:=by rw[<- pC hy,hi1,List.take_length]
     rw[e]at hS
     exact(hS.same s2).rev
end
theorem a3W{n:Nat}(h:n<3000):n<sizeLine:=Nat.lt_trans h (by decide)
def fP(p q:Addr)(H H':Hp):Prop:=∀b o,b≠p->b≠q->H b=some o->H' b=some o
theorem fP.of{p q:Addr}{H H':Hp}(s:aD H H'):fP p q H H':=fun b o _ _ e=>s b o e
theorem fP.trans{p q:Addr}{H H1 H2:Hp}(a:fP p q H H1)(b:fP p q H1 H2):fP p q H H2:=fun c o n m e=>b c o n m (a c o n m e)
theorem fP.u1{p q:Addr}{H:Hp}{o:HO}:fP p q H (upd H p o):=fun b u n _ e=>by rw[aG n];exact e
theorem fP.u2{p q:Addr}{H:Hp}{o:HO}:fP p q H (upd H q o):=fun b u _ n e=>by rw[aG n];exact e
theorem xY{H H':Hp}{l:Addr}(s:aD H H')(h:H' l=none):H l=none:=by
 cases e:H l with
 |none=>rfl
 |some o=>rw[s l o e]at h;cases h
theorem cS.each{cm:aF->Option aF}{s:aF}:∀{x:aF} {ps:List aF},cS cm s x ps->∀p∈ps,p=s\/ ∃u,cm p=some u
 |_,_,.nil,p,hp=> .inl (List.mem_singleton.mp hp)
 |_,_,.cons h e b,p,hp=>by
  rcases List.mem_cons.mp hp with rfl|hp
  ·exact .inr ⟨_,e⟩
  ·exact b.each p hp
structure oM(H:Hp)(gd:Addr)(kvs:List (List aB×V))(adj:aF->List aF):Prop where
 d:H gd=some (.dT kvs)
 a:∀z,(aQ kvs (kS z)=none/\adj z= [])\/ ∃l vs,aQ kvs (kS z)=some (.ref l)/\H l=some (.lst vs)/\bZ H vs (adj z)
 n:∀z,∀y∈adj z,N2 y
 l:∀z,(adj z).length<=100
theorem oM.same{H H':Hp}{gd:Addr}{kvs:List (List aB×V)}{adj:aF->List aF}(s:aD H H')(h:oM H gd kvs adj):oM H' gd kvs adj:=
 ⟨s _ _ h.d,fun z=>(h.a z).imp id fun⟨l,vs,e1,e2,e3⟩=>⟨l,vs,e1,s _ _ e2,e3.same s⟩,h.n,h.l⟩
theorem mM.put{H:Hp}{cvs:List (List aB×V)}{cm:aF->Option aF}{y x:aF}{v:V}(h:mM H cvs cm)(hv:fQ H v x):mM H (aR cvs (kS y) v) (gR cm y x):=fun z=>by
 unfold gR
 rw[fT]
 by_cases e:z=y
 ·rw[if_pos e,if_pos (by rw[e])]
  exact .inr ⟨x,v,rfl,rfl,hv⟩
 ·rw[if_neg e,if_neg (fun h=>e (a3P h))]
  exact h z
theorem a0T{κ:Type} [DecidableEq κ](kvs:List (κ×V))(k:κ)(y:V):(aR kvs k y).length<=kvs.length+ 1:=by
 unfold aR
 split
 ·rw[List.length_map];omega
 ·rw[List.length_append];exact Nat.le_refl _
structure nH(H0 H:Hp)(cd fl:Addr)(cvs:List (List aB×V))(cm:aF->Option aF)(nodes:List aF)(fvs:List V)(fz:List aF):Prop where
 s:aD H0 H
 c:H cd=some (.dT cvs)
 o:mM H cvs cm
 l:cvs.length+ jB cm nodes<=nodes.length
 f:H fl=some (.lst fvs)
 z:bZ H fvs fz
theorem nH.same{H0 H H':Hp}{cd fl:Addr}{cvs:List (List aB×V)}{cm:aF->Option aF}{nodes:List aF}{fvs:List V}{fz:List aF}(s:aD H H')(h:nH H0 H cd fl cvs cm nodes fvs fz):nH H0 H' cd fl cvs cm nodes fvs fz:=
 ⟨h.s.trans s,s _ _ h.c,h.o.mapT fun a xs e=>s _ _ e,h.l,s _ _ h.f,h.z.same s⟩
section
variable{P:Program}{w:World}{K:Fg}{mg:Str->Option Value}{base:Heap}
def a0C(K:Fg):Sp:=fun vs H Q _=>∃(gd:Addr) (v0:V) (kvs:List (List aB×V)) (adj:aF->List aF) (s:aF) (nodes:List aF),vs= [.ref gd,v0] /\oM H gd kvs adj/\fQ H v0 s/\N2 s/\(∀z,∀y∈adj z,y∈nodes)/\nodes.length<=100/\
 ∀H',aD H H'->((∀n,¬hW adj s (n+ 1) s)->Q .non H')/\∀l vs' ys,H l=none->H' l=some (.lst vs')->bZ H' vs' ys->mD adj s ys->(∀n,n+ 1<ys.length->¬hW adj s (n+ 1) s)->Q (.ref l) H'
theorem nL:aV ["leanings","spot","came_from","waiting","farther","leaning","leant"] ["leanings","spot"] (aN a3C):=⟨rfl,rfl,rfl,by decide+kernel,rfl,by decide+kernel,by decide+kernel⟩
theorem a8j(T:aW K mg):bI P w K mg base aC 2 "ring_from" ["leanings","spot"] (a0C K):=by
 have G_way_to:bI P w K mg base aC 1 "way_to" ["came_from","spot","last"] (a2r K):=a3T T
 refine T.d_ring_from.known nL (fun _ _ _ _ _ _ us hl=>dF (fun _ _=>rfl) us hl) (fun vs H Q E h=> ?_) (fun f cdv A outer s H vs Q E hr h=> ?_)
 ·obtain⟨gd,v0,kvs,adj,z,nodes,rfl,_⟩:=h
  rfl
 ·obtain⟨gd,v0,kvs,adj,z,nodes,rfl,hG,h0,hzN,hnodes,h100,q⟩:=h
  have hu:=eB hr
  refine⟨_,(aH (bR (i:=2) nL.nd rfl (Or.inl rfl) qI)
   (aH (bR (i:=3) nL.nd rfl (Or.inl rfl) (fW (aA (pv 1) aE)))
   (aH (wY PassesOwn.never (yM (pv 3) (fun _=>rfl)) (aH (bR (i:=4) nL.nd rfl (Or.inl rfl) (fW aE))
   (aH (jO PassesOwn.never rfl (fX (pv 3)) (fH (i:=5) nL.nd rfl (Or.inl rfl)) (aI (jO PassesOwn.never rfl (fX (a4g hu (pv 0) (pv 5) (fW aE) ⟨rfl,rfl,rfl,rfl⟩)) (fH (i:=6) nL.nd rfl (Or.inl rfl))
   (aH (bM (cE (pY hr.units) (pv 6) (pv 1) (cH _)) (aI (bA (bQ G_way_to (hr.mono (by decide)) aM (aA (pv 2) (aA (pv 1) (aA (pv 5) aE)))))) bP)
   (aI (bM (jM (lN hu (pv 6) (pv 2))) (aH (jQ hu (pv 2) (pv 6) (pv 5) rfl) (aI (cC (kH PySem.F.plainAttrs_list PySem.F.slot_list_append PySem.F.type_list_append kD (pv 4) (aA (pv 6) aE))))) bP))))))
   (aI (bR (i:=3) nL.nd rfl (Or.inl rfl) (pv 4))))))
   (aI (bA iQ))))),?_⟩
  intro cd hcd
  have s1:=aD.new (o:=.dT []) hcd
  have hc1:=aJ (H:=H) (a:=cd) (o:=.dT [])
  generalize upd H cd (.dT [])=H1 at s1 hc1|-
  refine⟨_,rfl,sl,fun wl hwl=> ?_⟩
  have s2:=aD.new (o:=.lst [v0]) hwl
  let Wf:Nat->St->Hp->Prop:=fun m σ H2=>∃(r:Nat) (cm:aF->Option aF) (wz:List aF) (cvs:List (List aB×V)) (wl:Addr) (wvs:List V) (o4 o5 o6:Option V),σ= [some (.ref gd),some v0,some (.ref cd),some (.ref wl),o4,o5,o6] /\m=2* jB cm nodes+ (if wz= [] then 0 else 1)/\nH H H2 cd wl cvs cm nodes wvs wz/\H wl=none/\kG adj z nodes r cm wz
  refine⟨Wf,⟨_,0,fun _=>none,[z],[],wl,[v0],_,_,_,rfl,rfl,⟨s1.trans s2,s2 _ _ hc1,fun y=> .inl ⟨rfl,rfl⟩,by have:=xK (fun _=>none) nodes;simpa using this,aJ,.cons (h0.same (s1.trans s2)) .nil⟩,xY s1 hwl,kG.start⟩,?_⟩
  clear hwl s2 wl
  rintro m σ H2 ⟨r,cm,wz,cvs,wl,wvs,o4,o5,o6,rfl,hm,A2,hwl,B⟩
  refine⟨_,rfl,_,.inl ⟨wvs,aO.of A2.f,rfl⟩,?_⟩
  refine dL (fun g=> ?_) (fun g=> ?_)
  ·have hwz:wz≠ []:=fun e=>by
    have:=A2.z.length
    rw[e]at this
    have:wvs= []:=List.length_eq_zero_iff.mp this
    rw[this]at g
    cases g
   refine⟨fun σ' H'=>∃m',m'<m/\Wf m' σ' H',fun σ' H' h=>h,?_⟩
   refine⟨sl,fun fl hfl=> ?_⟩
   have s3:=aD.new (o:=.lst []) hfl
   have A3:nH H (upd H2 fl (.lst [])) cd fl cvs cm nodes [] []:=⟨A2.s.trans s3,s3 _ _ A2.c,A2.o.mapT fun a xs e=>s3 _ _ e,A2.l,aJ,.nil⟩
   have hw3:=s3 _ _ A2.f
   have hwz3:=A2.z.same s3
   have ncf:cd≠fl:=aX A2.c hfl
   have nwf:wl≠fl:=aX A2.f hfl
   have nwc:wl≠cd:=kE A2.f A2.c (fun z=>by cases z)
   have hfl0:H fl=none:=xY A2.s hfl
   generalize upd H2 fl (.lst [])=H3 at A3 hw3 hwz3|-
   refine⟨_,rfl,wl,rfl,⟨_,aO.of hw3⟩,?_⟩
   refine mH (K:=K) (a:=wl) (xs:=wvs) (fun i σ H4=>∃(cm':aF->Option aF) (fz:List aF) (cvs':List (List aB×V)) (fvs:List V) (o5 o6:Option V),σ= [some (.ref gd),some v0,some (.ref cd),some (.ref wl),some (.ref fl),o5,o6] /\fP cd fl H3 H4/\nH H H4 cd fl cvs' cm' nodes fvs fz/\iX adj z nodes r cm wz i cm' fz)
    ⟨cm,[],cvs,[],_,_,rfl,fP.of (aD.refl _),A3,iX.start B⟩ (by rintro i σ H4 _ ⟨_,_,_,_,_,_,_,b4,_⟩;exact aO.of (b4 _ _ nwc nwf hw3)) ?_ ?_
   ·rintro i x σ H4 hx ⟨cm',fz,cvs',fvs,o5,o6,rfl,b4,A4,M4⟩
    obtain⟨xz,hxz,hxs⟩:=hwz3.at hx
    have tup34:∀a xs,H3 a=some (.tup xs)->H4 a=some (.tup xs):=fun a xs e=>b4 _ _ (kE e A3.c (fun z=>by cases z)) (kE e A3.f (fun z=>by cases z)) e
    have hx4:=hxs.mapT tup34
    have hG4:=hG.same A4.s
    obtain⟨ax,rfl,hax⟩:=hx4
    refine⟨_,rfl,gd,rfl,.inr ⟨kvs,.inl hG4.d⟩,_,rfl,sl,fun dl hdl=> ?_⟩
    have s5:=aD.new (o:=.lst []) hdl
    have hdl5:=aJ (H:=H4) (a:=dl) (o:=.lst [])
    have A5:=A4.same s5
    have b5:fP cd fl H3 (upd H4 dl (.lst [])):=b4.trans (fP.of s5)
    have ndc:dl≠cd:=fun e=>by rw[e,A4.c]at hdl;cases hdl
    have ndf:dl≠fl:=fun e=>by rw[e,A4.f]at hdl;cases hdl
    have hG5:=hG4.same s5
    have hax5:=s5 _ _ hax
    generalize upd H4 dl (.lst [])=H5 at s5 hdl5 A5 b5 hG5 hax5|-
    obtain⟨la,avs,hget,hla,hSa,nlc,nlf⟩:∃(la:Addr) (avs:List V),(aQ kvs (kS xz)).getD (.ref dl)= .ref la/\H5 la=some (.lst avs)/\bZ H5 avs (adj xz)/\la≠cd/\la≠fl:=by
     rcases hG.a xz with⟨e1,e2⟩|⟨l,vs,e1,e2,e3⟩
     ·exact⟨dl,[],by rw[e1];rfl,hdl5,by rw[e2];exact .nil,ndc,ndf⟩
     ·have hs:=A5.s
      exact⟨l,vs,by rw[e1];rfl,hs _ _ e2,e3.same hs,aX e2 hcd,aX e2 hfl0⟩
    refine⟨_,cA.t (k:=kS xz) hG5.d hax5,?_⟩
    refine⟨la,hget,⟨_,aO.of hla⟩,?_⟩
    have hxw:xz∈wz:=List.mem_of_getElem? hxz
    refine mH (K:=K) (a:=la) (xs:=avs) (fun j σ H6=>∃(cm':aF->Option aF) (fz:List aF) (cvs':List (List aB×V)) (fvs:List V) (o6:Option V),σ= [some (.ref gd),some v0,some (.ref cd),some (.ref wl),some (.ref fl),some (.ref ax),o6] /\fP cd fl H5 H6/\nH H H6 cd fl cvs' cm' nodes fvs fz/\iX adj z nodes r cm wz i cm' fz/\∀y∈(adj xz).take j,y≠z/\(cm' y).isSome)
     ⟨cm',fz,cvs',fvs,_,rfl,fP.of (aD.refl _),A5,M4,fun y hy=>by simp at hy⟩ (by rintro j σ H6 _ ⟨_,_,_,_,_,_,b6,_⟩;exact aO.of (b6 _ _ nlc nlf hla)) ?_ ?_
    ·have hc5:=A5.c
     have hf5:=A5.f
     clear A4 M4 A5
     rintro j y σ H6 hy ⟨cm',fz,cvs',fvs,o6,rfl,b6,A6,M6,D6⟩
     obtain⟨yz,hyz,hys⟩:=hSa.at hy
     have tup56:∀a xs,H5 a=some (.tup xs)->H6 a=some (.tup xs):=fun a xs e=>b6 _ _ (kE e hc5 (fun z=>by cases z)) (kE e hf5 (fun z=>by cases z)) e
     have hy6:=hys.mapT tup56
     have hx6:=tup56 _ _ hax5
     have h06:=h0.same A6.s
     have hya:yz∈adj xz:=List.mem_of_getElem? hyz
     have hyN:=hG.n xz yz hya
     refine⟨_,rfl,_,rfl,_,_,hy6.dt,h06.dt,hyN.lay,hzN.lay,(show max 0 (max 0 0)+ 1<=64 by decide),_,rfl,?_⟩
     rw[vN]
     refine dL (fun g1=> ?_) (fun g1=> ?_)
     ·have g1:yz=z:=by simpa using g1
      subst g1
      obtain⟨ps,hB,hl⟩:=B.d xz hxw
      have hB':=hB.ext M6.e
      have hbl:r<=100:=by
       rcases B.b with b|b
       ·exact absurd b hwz
       ·omega
      refine⟨_,rfl,_,rfl,_,rfl,cd,v0,.ref ax,cvs',cm',yz,xz,ps,rfl,A6.c,A6.o,h06,⟨ax,rfl,hx6⟩,hB',by omega,fun p hp=> ?_,fun H' l vs' s7 hl' hl7 hS=> ?_⟩
      ·rcases hB'.each p hp with e|⟨u,e⟩
       ·rw[e];exact hzN
       ·exact hG.n u p (M6.c p u e).1
      ·exact(q H' (A6.s.trans s7)).2 l vs' ps.reverse (xY A6.s hl') hl7 hS (hB'.ring (fun z u h=>(M6.c z u h).1) hya) fun n hn=>B.n n (by rw[List.length_reverse]at hn;omega)
     ·have g1:yz≠z:=by simpa using g1
      obtain⟨ay,rfl,hay⟩:=hy6
      refine⟨_,rfl,_,rfl,cd,_,rfl,cA.t (k:=kS yz) A6.c hay,_,rfl,?_⟩
      have tk:(adj xz).take (j+ 1)=(adj xz).take j++ [yz]:=pC hyz
      rcases A6.o yz with⟨c1,c2⟩|⟨u,v,c1,c2,c3⟩
      ·rw[c2]
       refine cD ?_
       have hl6:=A6.l
       have hMl:=M6.l
       have hll:=xK cm nodes
       refine⟨_,rfl,_,rfl,_,rfl,cd,_,rfl,hZ.t (k:=kS yz) A6.c hay (a3W (by omega)),?_⟩
       have s7:aD H (upd H6 cd (.dT (aR cvs' (kS yz) (.ref ax)))):=A6.s.on hcd
       have hf7:upd H6 cd (.dT (aR cvs' (kS yz) (.ref ax))) fl=some (.lst fvs):=by rw[aG ncf.symm];exact A6.f
       have tup67:∀a xs,H6 a=some (.tup xs)->upd H6 cd (.dT (aR cvs' (kS yz) (.ref ax))) a=some (.tup xs):=fun a xs e=>by rw[aG (kE e A6.c (fun z=>by cases z))];exact e
       have hc7:=aJ (H:=H6) (a:=cd) (o:=.dT (aR cvs' (kS yz) (.ref ax)))
       have b7:fP cd fl H5 (upd H6 cd (.dT (aR cvs' (kS yz) (.ref ax)))):=b6.trans fP.u1
       generalize upd H6 cd (.dT (aR cvs' (kS yz) (.ref ax)))=H7 at s7 hf7 tup67 hc7 b7|-
       have hfz:fvs.length<=100:=by rw[A6.z.length];omega
       refine⟨_,rfl,.inl ⟨rfl,_,aO.of hf7⟩,_,rfl,fl,_,_,rfl,rfl,hf7,cQ (by omega),?_⟩
       have tup78:∀a xs,H7 a=some (.tup xs)->upd H7 fl (.lst (fvs++ [.ref ay])) a=some (.tup xs):=fun a xs e=>by rw[aG (kE e hf7 (fun z=>by cases z))];exact e
       have tup68:=fun a xs e=>tup78 a xs (tup67 a xs e)
       have M8:=M6.put B hxw hya g1 c1 (hnodes xz yz hya)
       refine⟨gR cm' yz xz,fz++ [yz],aR cvs' (kS yz) (.ref ax),fvs++ [.ref ay],_,rfl,b7.trans fP.u2,⟨s7.on hfl0,by rw[aG ncf];exact hc7,(A6.o.mapT tup68).put ⟨ax,rfl,tup68 _ _ hx6⟩,?_,aJ,(A6.z.mapT tup68).snoc ⟨ay,rfl,tup68 _ _ hay⟩⟩,M8,fun y' hy'=> ?_⟩
       ·have h1:=a0T cvs' (kS yz) (.ref ax)
        have h2:=vI (cm:=cm') (cm':=gR cm' yz xz) (y:=yz) (fun x h=>by unfold gR;split<;>simp_all) c1 (by unfold gR;rw[if_pos rfl];rfl) (hnodes xz yz hya)
        omega
       ·rw[tk]at hy'
        rcases List.mem_append.mp hy' with h|h
        ·obtain⟨d1,d2⟩:=D6 y' h
         exact⟨d1,by unfold gR;split<;>simp_all⟩
        ·rw[List.mem_singleton.mp h]
         exact⟨g1,by unfold gR;rw[if_pos rfl];rfl⟩
      ·rw[c2]
       refine bK ?_
       refine⟨cm',fz,cvs',fvs,_,rfl,b6,A6,M6,fun y' hy'=> ?_⟩
       rw[tk]at hy'
       rcases List.mem_append.mp hy' with h|h
       ·exact D6 y' h
       ·rw[List.mem_singleton.mp h]
        exact⟨g1,by rw[c1];rfl⟩
    ·rintro σ H6 ⟨cm',fz,cvs',fvs,o6,rfl,b6,A6,M6,D6⟩
     refine⟨cm',fz,cvs',fvs,_,_,rfl,b5.trans b6,A6,M6.next hxz fun y hy=>D6 y ?_⟩
     rw[hSa.length,List.take_length]
     exact hy
   ·rintro σ H4 ⟨cm',fz,cvs',fvs,o5,o6,rfl,b4,A4,M4⟩
    rw[hwz3.length]at M4
    have B':=M4.over B hwz
    have hMl:=M4.l
    refine⟨_,rfl,_,?_,r+ 1,cm',fz,cvs',fl,fvs,_,_,_,rfl,rfl,A4,hfl0,B'⟩
    rw[hm,if_neg hwz]
    by_cases e:fz= []
    ·rw[if_pos e]
     omega
    ·rw[if_neg e]
     have:0<fz.length:=List.length_pos_iff.mpr e
     omega
  ·have hwz:wz= []:=by
    have:=A2.z.length
    cases wvs with
    |nil=>exact List.length_eq_zero_iff.mp this.symm
    |cons=>exact absurd rfl g
   subst hwz
   exact(q H2 A2.s).1 B.over
def a1a(K:Fg):Sp:=fun vs H Q _=>∃(p C dx:Addr) (fs:List (Str×V)) (v:V),vs= [.ref p,v] /\H p=some (.ins C dx fs)/\cW K C/\bV K C "function" /\fs.length<1000/\Q .non (upd H p (.ins C dx (aK "function" v fs)))
theorem a4W:aV ["self","function"] ["self","function"] (aN a3E):=⟨rfl,rfl,rfl,by decide+kernel,rfl,by decide+kernel,by decide+kernel⟩
theorem a78(T:aW K mg){C:Addr}(Y:qC K mg C):aL P w K mg base aC 1 C "__init__" ["self","function"] (a1a K):=by
 refine Y.m_init.known a4W (fun _ _ _ _ _ _ us hl=>dF (fun _ _=>rfl) us hl) (fun vs H Q E h=> ?_) (fun f cdv A outer s H vs Q E hr h=> ?_)
 ·obtain⟨p,C',dx,fs,v,rfl,_⟩:=h
  rfl
 ·obtain⟨p,C',dx,fs,v,rfl,hp,hC,hN,hl,q⟩:=h
  refine⟨_,(aI (cG (pv 0) (pv 1) rfl)),?_⟩
  exact⟨_,rfl,_,rfl,p,C',dx,fs,rfl,hp,hC,hN,hl,q⟩
def gM(nl fa:Addr):List (Str×V):=[("function",V.ref fa),("names",V.ref nl)]
theorem pH(nl fa:Addr):(gM nl fa).lookup ("function":Str)=some (.ref fa)/\(gM nl fa).lookup ("names":Str)=some (.ref nl)/\(gM nl fa).lookup ("leans":Str)=none/\(gM nl fa).lookup ("gather":Str)=none/\(gM nl fa).lookup ("reckon":Str)=none:=⟨rfl,rfl,rfl,rfl,rfl⟩
def a3I(K:Fg)(C:Addr):Sp:=fun vs H Q _=>∃(p dx a fa:Addr) (zs:List Str),vs= [.ref p,.ref a,.ref fa] /\H p=some (.ins C dx [])/\aO K H a (zs.map V.str)/\a≠p/\zs.length<=6/\(∀z∈zs,Nl z)/\∀H' nl,bO p H H'->H nl=none->H' p=some (.ins C dx (gM nl fa))->H' nl=some (.lst (zs.map V.str))->Q .non H'
theorem a8U:aV ["self","names","function"] ["self","names","function"] (aN a3b):=⟨rfl,rfl,rfl,by decide+kernel,rfl,by decide+kernel,by decide+kernel⟩
theorem a6k(T:aW K mg){R C:Addr}(Z:qC K mg R)(Y:lS K mg C):dJ P w K mg base aC 4 C ["self","names","function"] (a3I K C):=by
 have G_init:aL P w K mg base aC 1 R "__init__" ["self","function"] (a1a K):=a78 T Z
 have G_names:bI P w K mg base aC 3 "checked_names" ["names"] (a0S K):=a6n T
 refine(Y.m_init.known a8U (fun _ _ _ _ _ _ us hl=>eM (fun _ _ _=>rfl) us hl) (fun vs H Q E h=> ?_) (fun f cdv A outer s H vs Q E hr h=> ?_)).init Y.mks Y.kc
 ·obtain⟨p,dx,a,fa,zs,rfl,_⟩:=h
  rfl
 ·obtain⟨p,dx,a,fa,zs,rfl,hp,hS,nap,z6,hz,q⟩:=h
  refine⟨_,(aH (cC (a42 (yR Z.c) Z.v_init G_init (hr.mono (by decide)) aM (aA (pv 0) (aA (pv 2) aE))))
   (aI (cG (pv 0) (bQ G_names hr aM (aA (pv 1) aE)) rfl))),?_⟩
  refine⟨_,rfl,_,rfl,p,C,dx,[],.ref fa,rfl,hp,Y.cl,Y.n_function,by decide,?_⟩
  have b1:bO p H (upd H p (.ins C dx (aK "function" (.ref fa) []))):=bO.upd
  have p1:upd H p (.ins C dx (aK "function" (.ref fa) [])) p=some (.ins C dx (aK "function" (.ref fa) [])):=aJ
  have n1:∀{b:Addr},upd H p (.ins C dx (aK "function" (.ref fa) [])) b=none->H b=none/\b≠p:=iR
  generalize upd H p (.ins C dx (aK "function" (.ref fa) []))=H1 at b1 p1 n1|-
  have hS1:aO K H1 a (zs.map V.str):=by
   rcases hS with(h|⟨o,h⟩)|h
   ·exact .inl (.inl (b1 _ _ nap h))
   ·exact .inl (.inr ⟨o,b1 _ _ nap h⟩)
   ·exact .inr h
  refine⟨_,rfl,a,zs,rfl,hS1,z6,hz,fun H2 nl s2 hnl h2=> ?_⟩
  obtain⟨hn0,nnp⟩:=n1 hnl
  refine⟨_,rfl,p,C,dx,_,rfl,s2 _ _ p1,Y.cl,Y.n_names,(by show 1<1000;decide),?_⟩
  exact q _ nl ((b1.trans (bO.of s2)).trans bO.upd) hn0 aJ (by rw[aG nnp];exact h2)
def a2A:Sp:=fun vs H Q _=>∃(a:Addr) (xs:List V) (zs:List aF),vs= [.ref a] /\H a=some (.lst xs)/\bZ H xs zs/\(∀z∈zs,N2 z)/\zs.length<=100/\
 ∀H' l ys,aD H H'->H l=none->H' l=some (.lst ys)->bZ H' ys (fJ zs)->Q (.ref l) H'
theorem a4R(T:aW K mg):bI P w K mg base aC 2 "each_once" ["spots"] a2A:=by
 refine T.d_each_once.known yZ (fun _ _ _ _ _ _ us hl=>eD (fun _=>rfl) us hl) (fun vs H Q E h=> ?_) (fun f cdv A outer s H vs Q E hr h=> ?_)
 ·obtain⟨a,xs,ps,rfl,_⟩:=h
  rfl
 ·obtain⟨a,xs,ps,rfl,ha,hsp,hN,h100,q⟩:=h
  refine⟨_,(aH (bR (i:=1) yZ.nd rfl (Or.inl rfl) (fW aE))
   (aH (jO PassesOwn.never rfl (fX (pv 0)) (fH (i:=2) yZ.nd rfl (Or.inl rfl)) (aI (bM (cE (a6J hr.units) (pv 2) (pv 1) (by with_unfolding_all rfl)) (aI (cC (kH PySem.F.plainAttrs_list PySem.F.slot_list_append PySem.F.type_list_append kD (pv 1) (aA (pv 2) aE)))) bP)))
   (aI (bA (pv 1))))),?_⟩
  have hq:aO K H a xs:=aO.of ha
  have hlx:xs.length=ps.length:=hsp.length
  refine⟨sl,fun l hl=> ?_⟩
  refine⟨_,rfl,a,rfl,⟨_,(aD.new hl).seq hq⟩,?_⟩
  refine mH (K:=K) (a:=a) (xs:=xs) (fun i σ H2=>∃o ys,σ= [some (.ref a),some (.ref l),o] /\aD H H2/\H2 l=some (.lst ys)/\bZ H ys (fJ (ps.take i))) ⟨_,[],rfl,aD.new hl,aJ,.nil⟩ (fun i σ H2 _ ⟨_,_,_,s2,_⟩=>s2.seq hq) ?_ ?_
  ·rintro i x σ H2 hx ⟨o,ys,rfl,s2,h2,hd⟩
   obtain⟨p,e,hp2⟩:=hsp.at hx
   have hp:=List.mem_of_getElem? e
   have hle:=hd.length
   have hyl:ys.length<=100:=by
    have h3:=a0e (ps.take i)
    rw[List.length_take]at h3
    omega
   have lay2:(PyData.list ((fJ (ps.take i)).map iD)).canLay0=true:=a0K fun p' hp'=>hN p' (List.mem_of_mem_take (zO hp'))
   have et:fJ (ps.take (i+ 1))=if p∈fJ (ps.take i) then fJ (ps.take i) else fJ (ps.take i)++ [p]:=by
    rw[List.take_add_one,e]
    exact a9z _ _
   refine⟨_,rfl,_,rfl,iD p,_,(fQ.dt hp2).same s2,Dt.lst (aO.of h2) (dD.same s2 (bZ.dt hd)),wA (hN p hp).1 (hN p hp).2,lay2,(show max 0 (max 0 0)+ 1<=62 by decide),_,rfl,?_⟩
   rw[a0u]
   by_cases hm:p∈fJ (ps.take i)
   ·rw[decide_eq_true hm]
    rw[if_pos hm]at et
    exact bK ⟨_,ys,rfl,s2,h2,by rw[et];exact hd⟩
   ·rw[decide_eq_false hm]
    rw[if_neg hm]at et
    refine cD ?_
    refine⟨_,rfl,.inl ⟨rfl,_,aO.of h2⟩,_,rfl,l,_,_,rfl,rfl,h2,cQ (by omega),?_⟩
    have s3:aD H (upd H2 l (.lst (ys++ [x]))):=s2.on hl
    refine⟨_,ys++ [x],rfl,s3,aJ,?_⟩
    rw[et]
    exact hd.snoc hp2
  ·rintro σ H2 ⟨o,ys,rfl,s2,h2,hd⟩
   refine⟨_,rfl,q H2 l ys s2 hl h2 ?_⟩
   rw[hlx,List.take_length]at hd
   exact hd.same s2
def vW(C:Addr):Sp:=fun vs H Q _=>∃(p dx nl fa:Addr) (t:Str) (zs:List Str),vs= [.ref p,.str t] /\H p=some (.ins C dx (gM nl fa))/\H nl=some (.lst (zs.map V.str))/\zs.length<=6/\(∀z∈zs,Nl z)/\Nl t/\
 ∀H' l ys,aD H H'->H l=none->H' l=some (.lst ys)->bZ H' ys (fJ (zs.map fun z=>(t,z)))->Q (.ref l) H'
theorem a8u:aV ["self","table"] ["self","table"] (aN rZ):=⟨rfl,rfl,rfl,by decide+kernel,rfl,by decide+kernel,by decide+kernel⟩
theorem a5G(T:aW K mg){C:Addr}(Y:lS K mg C):aL P w K mg base aC 3 C "leans" ["self","table"] (vW C):=by
 have G_each_once:bI P w K mg base aC 2 "each_once" ["spots"] a2A:=a4R T
 refine Y.m_leans.known a8u (fun _ _ _ _ _ _ us hl=>dF (fun _ _=>rfl) us hl) (fun vs H Q E h=> ?_) (fun f cdv A outer s H vs Q E hr h=> ?_)
 ·obtain⟨p,dx,nl,fa,t,zs,rfl,_⟩:=h
  rfl
 ·obtain⟨p,dx,nl,fa,t,zs,rfl,h1,h4,h6,h5,ht,q⟩:=h
  have hcl:∀x,(cY aC P w K mg base ["self","table"] "Cells.leans" (aN rZ) f cdv A outer s H E).nox.env.scope.names.lookup x=some .cell->∃c,(cY aC P w K mg base ["self","table"] "Cells.leans" (aN rZ) f cdv A outer s H E).nox.env.cells.lookup x=some c:=fun x hx=>Option.isSome_iff_exists.mp (PySem.W.cellsFrom_some _ _ _ (.inl hx))
  refine⟨_,(aI (bA (bQ G_each_once (hr.mono (by decide)) aM (aA (kY (iY (sc:=aN rZ) (N:=["self","table"]) (cp:=[(1,"table")]) hcl) rfl rfl (by decide) (fX (aT (pv 0) rfl)) (fun _ _ _ _ _=>jT) (fun _ _ _ _ _=>(fA (aA (pv 1) (aA (pv 0) aE))))) aE)))),?_⟩
  refine⟨_,rfl,p,C,dx,_,_,rfl,h1,Y.cl,Y.n_names,(pH nl fa).2.1,nl,rfl,⟨_,aO.of h4⟩,fun D hD=> ?_⟩
  refine kI (K:=K) (a:=nl) (xs:=zs.map V.str) (fun i ys H2=>aD H H2/\bZ H2 ys ((zs.take i).map fun z=>(t,z))) ⟨aD.new hD,.nil⟩ (by rintro i ys H2 _ ⟨s2,_⟩;exact aO.of (s2 _ _ h4)) ?_ ?_
  ·rintro i x ys H2 hx h2D ⟨s2,hd⟩
   rw[List.getElem?_map]at hx
   cases e:zs[i]? with
   |none=>rw[e]at hx;cases hx
   |some z=>
    rw[e]at hx
    cases hx
    have hi:i<zs.length:=(List.getElem?_eq_some_iff.mp e).1
    have hyl:ys.length<=6:=by
     have:=hd.length
     rw[List.length_map,List.length_take]at this
     omega
    refine⟨_,rfl,_,rfl,sl,fun tp htp=> ?_⟩
    have s3:aD H2 (upd H2 tp (.tup [.str t,.str z])):=aD.new htp
    have t3:upd H2 tp (.tup [.str t,.str z]) tp=some (.tup [.str t,.str z]):=aJ
    generalize upd H2 tp (.tup [.str t,.str z])=H3 at s3 t3|-
    have h3D:=s3 _ _ h2D
    refine⟨h3D,cQ (by omega),(s2.trans s3).on hD,?_⟩
    have kt:∀a xs,H3 a=some (.tup xs)->upd H3 D (.lst (ys++ [.ref tp])) a=some (.tup xs):=fun a xs e=>by
     rw[aG (fun y=>by rw[y,h3D]at e;cases e)]
     exact e
    have et:((zs.take (i+ 1)).map fun z=>(t,z))=((zs.take i).map fun z=>(t,z))++ [(t,z)]:=by
     rw[List.take_add_one,e,List.map_append]
     rfl
    rw[et]
    exact((hd.same s3).mapT kt).snoc ⟨tp,rfl,kt _ _ t3⟩
  ·rintro ys H2 h2D ⟨s2,hd⟩
   rw[List.length_map,List.take_length]at hd
   refine⟨D,ys,_,rfl,h2D,hd,fun z hz=> ?_,by rw[List.length_map];omega,fun H4 l' ys' s4 hl' h4' hs=> ?_⟩
   ·obtain⟨y,hy,rfl⟩:=List.mem_map.mp hz
    exact⟨ht,h5 y hy⟩
   ·exact q H4 l' ys' (s2.trans s4) (dW s2 hl') h4' hs
def rQ(K:Fg)(gv:Str->Str->Option (List V))(nm:Str)(p:Nat)(H:Hp)(z:Str)(d:PyData):Prop:=∃ys v,gv nm z=some ys/\p<ys.length/\cO ys (p:Int)=some v/\Pv K H v d
theorem rQ.keep{gv:Str->Str->Option (List V)}{nm:Str}{p:Nat}{H H':Hp}{z:Str}{d:PyData}(k:bF H H')(h:rQ K gv nm p H z d):rQ K gv nm p H' z d:=by
 obtain⟨ys,v,a,b,c,e⟩:=h
 exact⟨ys,v,a,b,c,e.keep k⟩
theorem Paired.imp{α β:Type}{R R':α->β->Prop}(h:∀a b,R a b->R' a b):∀{xs:List α} {ys:List β},Paired R xs ys->Paired R' xs ys
 |_,_,.nil=> .nil
 |_,_,.cons a t=> .cons (h _ _ a) (Paired.imp h t)
theorem Paired.snoc{α β:Type}{R:α->β->Prop}{x:α}{y:β}(h:R x y):∀{xs:List α} {ys:List β},Paired R xs ys->Paired R (xs++ [x]) (ys++ [y])
 |_,_,.nil=> .cons h .nil
 |_,_,.cons a t=> .cons a (Paired.snoc h t)
def jX(P:Program)(w:World)(K:Fg)(mg:Str->Option Value)(base:Heap)(C:Addr):Sp:=fun vs H Q _=>∃(gr look many nl fa x y dx:Addr) (nm c:Str) (p:Nat) (zs:List Str) (J:Hp->Prop) (W:List Addr) (gv:Str->Str->Option (List V)) (ds:List PyData),vs= [.ref gr,.ref look,.ref many,.str nm,.str c,.int (p:Int)] /\H gr=some (.ins C dx (gM nl fa))/\H nl=some (.lst (zs.map V.str))/\zs.length<=6/\eF P w K mg base 6 look (rJ J x y gv)/\J H/\iP J W x y/\Paired (rQ K gv nm p H) zs ds/\
 ∀H' fv,eT x y H H'->J H'->oF K gv H H' fv (gO ds [])->Q fv H'
abbrev qZ:List Str:=["self","look","many","table","column","place"]
theorem a5n:aV qZ qZ (aN qY):=⟨rfl,rfl,rfl,by decide+kernel,rfl,by decide+kernel,by decide+kernel⟩
theorem a5v{gv:Str->Str->Option (List V)}{H H0 H':Hp}{fv:V}(s:aD H H0):∀{t:PyData ⊕ List Int},oF K gv H0 H' fv t->oF K gv H H' fv t
 | .inl d,h=>h
 | .inr is,⟨ta,l,a,b,c,d⟩=>⟨ta,l,a,b,c,dW s d⟩
theorem a8k(T:aW K mg){C:Addr}(Y:lS K mg C):aL P w K mg base aC 8 C "gather" ["self","look","many","table","column","place"] (jX P w K mg base C):=by
 have G_turn:bI P w K mg base aC 7 "look_in_turn" ["look","cells"] (a2T P w K mg base 6):=a79 T (by decide)
 refine Y.m_gather.known a5n (fun _ _ _ _ _ _ us hl=>yL (fun _ _ _ _ _ _=>rfl) us hl) (fun vs H Q E h=> ?_) (fun f cdv A outer s H vs Q E hr h=> ?_)
 ·obtain⟨gr,look,many,nl,fa,x,y,dx,nm,c,p,zs,J,W,gv,ds,rfl,_⟩:=h
  rfl
 ·obtain⟨gr,look,many,nl,fa,x,y,dx,nm,c,p,zs,J,W,gv,ds,rfl,h1,h4,z6,F1,hJ,S,hr0,q⟩:=h
  have hcl:∀x,(cY aC P w K mg base qZ "Cells.gather" (aN qY) f cdv A outer s H E).nox.env.scope.names.lookup x=some .cell->∃c,(cY aC P w K mg base qZ "Cells.gather" (aN qY) f cdv A outer s H E).nox.env.cells.lookup x=some c:=fun x hx=>Option.isSome_iff_exists.mp (PySem.W.cellsFrom_some _ _ _ (.inl hx))
  refine⟨_,(aI (bA (bQ G_turn hr aM (aA (pv 1) (aA (kY (iY (sc:=aN qY) (N:=qZ) (cp:=[(3,"table"),(5,"place")]) hcl) rfl rfl (by decide) (fX (aT (pv 0) rfl)) (fun _ _ _ _ _=>jT) (fun _ _ _ _ _=>(fA (aA (pv 1) (aA (pv 0) (aA (pv 2) aE)))))) aE))))),?_⟩
  refine⟨_,rfl,_,rfl,gr,C,dx,_,_,rfl,h1,Y.cl,Y.n_names,(pH nl fa).2.1,nl,rfl,⟨_,aO.of h4⟩,fun D hD=> ?_⟩
  have lzd:zs.length=ds.length:=Paired.length hr0
  refine kI (K:=K) (a:=nl) (xs:=zs.map V.str) (fun i ys H2=>aD H H2/\Paired (rO K gv H2) ys (ds.take i)) ⟨aD.new hD,.nil⟩ (by rintro i ys H2 _ ⟨s2,_⟩;exact aO.of (s2 _ _ h4)) ?_ ?_
  ·rintro i xv ys H2 hx h2D ⟨s2,hd⟩
   rw[List.getElem?_map]at hx
   cases e:zs[i]? with
   |none=>rw[e]at hx;cases hx
   |some z=>
    rw[e]at hx
    cases hx
    have hi:i<zs.length:=(List.getElem?_eq_some_iff.mp e).1
    obtain⟨d,hdi,hrow⟩:=xV hr0 e
    have hyl:ys.length<=6:=by
     have:=Paired.length hd
     rw[List.length_take]at this
     omega
    refine⟨_,rfl,_,rfl,_,rfl,sl,fun tp htp=> ?_⟩
    have s3:aD H2 (upd H2 tp (.tup [.str nm,.str z,.int (p:Int)])):=aD.new htp
    have t3:upd H2 tp (.tup [.str nm,.str z,.int (p:Int)]) tp=some (.tup [.str nm,.str z,.int (p:Int)]):=aJ
    generalize upd H2 tp (.tup [.str nm,.str z,.int (p:Int)])=H3 at s3 t3|-
    have h3D:=s3 _ _ h2D
    refine⟨h3D,cQ (by omega),(s2.trans s3).on hD,?_⟩
    have kt:bF H3 (upd H3 D (.lst (ys++ [.ref tp]))):=fun a xs e=>by
     rw[aG (fun y=>by rw[y,h3D]at e;cases e)]
     exact e
    have kt2:bF H2 (upd H3 D (.lst (ys++ [.ref tp]))):=fun a xs e=>kt _ _ (s3 _ _ e)
    rw[List.take_add_one,hdi]
    obtain⟨ys',v,g1,g2,g3,g4⟩:=hrow.keep (fun a xs e=>kt2 _ _ (s2 _ _ e))
    exact Paired.snoc ⟨tp,nm,z,p,ys',v,rfl,kt _ _ t3,g1,g2,g3,g4⟩ (Paired.imp (fun a b h=>h.keep kt2) hd)
  ·rintro ys H2 h2D ⟨s2,hd⟩
   rw[List.length_map,lzd,List.take_length]at hd
   exact⟨look,D,x,y,J,W,gv,ys,ds,rfl,F1,S.same s2 hJ,S,h2D,hd,by omega,fun H' fv f' J' t=>q H' fv (fun b o n1 n2 e=>f' _ _ n1 n2 (s2 _ _ e)) J' (a5v s2 t)⟩
theorem a4B{C:Addr}{gr nl fa dx:Addr}{tabs:List (Str×BM)}{gv:Str->Str->Option (List V)}{fd tl:Addr}{nm c:Str}{p:Nat}{zs:List Str}{ds:List PyData}{H:Hp}(h1:H gr=some (.ins C dx (gM nl fa)))(h2:H nl=some (.lst (zs.map V.str)))(z6:zs.length<=6)(hd:Paired (rQ K gv nm p H) zs ds):sG P w K mg base (jX P w K mg base C) gr tabs gv fd tl nm c p (gO ds []) H:=
 fun look many J W HB Q' kx hJ S L1 L2 q=>⟨gr,look,many,nl,fa,fd,tl,dx,nm,c,p,zs,J,W,gv,ds,rfl,kx _ _ (fun _ y=>by cases y) h1,kx _ _ (fun _ y=>by cases y) h2,z6,L1,hJ,S,Paired.imp (fun a b h=>h.keep fun x xs e=>kx _ _ (fun _ y=>by cases y) e) hd,q⟩
def a0M(CS CB CT:Addr):Sp:=fun vs H Q _=>∃(s bd ch fi dx l:Addr) (sv:V) (kb:List (aB×V)) (ys:List V) (zs:List aF),vs= [.ref s,sv,.ref l] /\H s=some (.ins CS dx (dP bd ch fi))/\H bd=some (.dK kb)/\H l=some (.lst ys)/\bZ H ys zs/\(∀z∈zs,N2 z/\∃B:BM,aQ kb (.inr z.1:aB)=some (.ref B.b)/\bS CB CT H B/\z.2∈B.ord)/\∀H',aD H H'->Q .non H'
theorem uM:aV ["self","spot","leans","table","column","there"] ["self","spot","leans"] (aN a0A):=⟨rfl,rfl,rfl,by decide+kernel,rfl,by decide+kernel,by decide+kernel⟩
theorem a7i(T:aW K mg){CS CB CT:Addr}(Y:cU K mg CS)(W:bU K mg CB):aL P w K mg base aC 3 CS "check_leans" ["self","spot","leans"] (a0M CS CB CT):=by
 have G_has:aL P w K mg base aC 2 CB "has_column" ["self","column"] (wS CB CT):=a17 T W
 refine Y.m_check_leans.known uM (fun _ _ _ _ _ _ us hl=>eM (fun _ _ _=>rfl) us hl) (fun vs H Q E h=> ?_) (fun f cdv A outer s H vs Q E hr h=> ?_)
 ·obtain⟨s',bd,ch,fi,dx,l,sv,kb,ys,zs,rfl,_⟩:=h
  rfl
 ·obtain⟨s',bd,ch,fi,dx,l,sv,kb,ys,zs,rfl,h1,h2,h3,hz,hb,q⟩:=h
  have hu:=eB hr
  refine⟨_,(aI (jO PassesOwn.never rfl (fX (pv 2)) (uK rfl (lK (fH (i:=3) uM.nd rfl (Or.inl rfl)) (lK (fH (i:=4) uM.nd rfl (Or.inl rfl)) sM)))
   (aH (bR (i:=5) uM.nd rfl (Or.inl rfl) (pF (xZ (oT hu (pv 3) (aT (pv 0) rfl))) (pR (bH (fY hu (aT (pv 0) rfl) (pv 3) (fun _ _=>rfl)) W.cl G_has hr aM (aA (pv 4) aE)))))
   (aI (bM (PW.pt (oH (dI (cM (pv 5) (fun _=>rfl))) (pW (cE (lV hr.units) (fA (aA (pv 3) (aA (pv 4) aE))) (pv 1) (cH _))))) (aI cB) bP))))),?_⟩
  refine⟨_,rfl,l,rfl,⟨_,aO.of h3⟩,?_⟩
  refine mH (K:=K) (a:=l) (xs:=ys) (fun i σ H2=>∃o3 o4 o5,σ= [some (.ref s'),some sv,some (.ref l),o3,o4,o5] /\aD H H2) ⟨_,_,_,rfl,aD.refl _⟩ (by rintro i σ H2 _ ⟨_,_,_,_,s2⟩;exact aO.of (s2 _ _ h3)) ?_ ?_
  ·rintro i x σ H2 hx ⟨o3,o4,o5,rfl,s2⟩
   obtain⟨z,e,hz2⟩:=hz.at hx
   obtain⟨a,rfl,ha⟩:=hz2.same s2
   obtain⟨nz,B,b1,b2,b3⟩:=hb z (List.mem_of_getElem? e)
   have hB2:=b2.same s2
   obtain⟨dB,hB⟩:=hB2.at_
   refine⟨a,_,rfl,bW.of ha,rfl,_,_,rfl,_,_,rfl,rfl,?_⟩
   refine⟨_,rfl,_,rfl,s',CS,dx,_,_,rfl,s2 _ _ h1,Y.cl,Y.n_boards,(kX _ _ _).1,bd,_,rfl,cA.k (k:=Sum.inr z.1) (s2 _ _ h2),?_⟩
   rw[b1]
   refine⟨_,rfl,cD ?_⟩
   refine⟨_,rfl,s',CS,dx,_,_,rfl,s2 _ _ h1,Y.cl,Y.n_boards,(kX _ _ _).1,_,rfl,bd,_,rfl,b1▸cA.k (k:=Sum.inr z.1) (s2 _ _ h2),B.b,dB,_,rfl,hB,nS,_,rfl,B,z.2,rfl,hB2,nz.2,fun H3 s3=> ?_⟩
   rw[decide_eq_true b3]
   exact⟨_,rfl,_,rfl,bK ⟨_,_,_,rfl,s2.trans s3⟩⟩
  ·rintro σ H2 ⟨o3,o4,o5,rfl,s2⟩
   exact q H2 s2
theorem xH{κ:Type} [DecidableEq κ]:∀{kvs:List (κ×V)} {kv:κ×V},(kvs.map (·.1)).Nodup->kv∈kvs->aQ kvs kv.1=some kv.2
 | [],_,_,h=>by cases h
 |x::xs,kv,nd,h=>by
  rw[List.map_cons,List.nodup_cons]at nd
  unfold aQ
  rcases List.mem_cons.mp h with rfl|h
  ·simp[List.find?]
  ·have ne:¬x.1=kv.1:=fun y=>nd.1 (y▸List.mem_map.mpr ⟨kv,h,rfl⟩)
   have ih:=xH nd.2 h
   unfold aQ at ih
   rw[List.find?_cons_of_neg (by simpa using ne)]
   exact ih
def jF(H H':Hp):Prop:=∀b o,((∃C dx fs,o= .ins C dx fs)\/ ∃xs,o= .lst xs)->H b=some o->H' b=some o
theorem jF.of{H H':Hp}(s:aD H H'):jF H H':=fun b o _ e=>s _ _ e
theorem jF.trans{H H1 H2:Hp}(a:jF H H1)(b:jF H1 H2):jF H H2:=fun x o h e=>b _ _ h (a _ _ h e)
def oV(spl:Sp)(gr:Addr)(nm:Str)(ys:List aF)(H:Hp):Prop:=∀(Hb:Hp) (Q':VK),jF H Hb->(∀H' l vs,aD Hb H'->Hb l=none->H' l=some (.lst vs)->bZ H' vs ys->Q' (.ref l) H')->spl [.ref gr,.str nm] Hb Q' E0
theorem a7x{C gr nl fa dx:Addr}{nm:Str}{zs:List Str}{H:Hp}(h1:H gr=some (.ins C dx (gM nl fa)))(h2:H nl=some (.lst (zs.map V.str)))(z6:zs.length<=6)(hz:∀z∈zs,Nl z)(ht:Nl nm):oV (vW C) gr nm (fJ (zs.map fun z=>(nm,z))) H:=
 fun Hb Q' k q=>⟨gr,dx,nl,fa,nm,zs,rfl,k _ _ (.inl ⟨_,_,_,rfl⟩) h1,k _ _ (.inr ⟨_,rfl⟩) h2,z6,hz,ht,q⟩
def qN(CB CT CG bd:Addr)(spl:Sp)(gl:List aF)(H:Hp)(kv:aB×V):Prop:=∃(nm:Str) (B:BM),kv=((.inr nm:aB),V.ref B.b)/\Nl nm/\bS CB CT H B/\bd≠B.ru/\(B.rus.map (·.1)).Nodup/\B.rus.length<=8/\∀rv∈B.rus,∃(c:Str) (gr dx:Addr) (fs:List (Str×V)) (ys:List aF),rv=((.inr c:aB),V.ref gr)/\Nl c/\H gr=some (.ins CG dx fs)/\fs.lookup ("leans":Str)=none/\oV spl gr nm ys H/\(∀y∈ys,N2 y/\y∈gl)/\ys.length<=100
def a02(CS CB CT CG:Addr)(spl:Sp):Sp:=fun vs H Q _=>∃(s bd ch fi dx l:Addr) (sv:V) (kb:List (aB×V)) (ys:List V) (sp:aF) (zs gl:List aF),vs= [.ref s,sv,.ref l] /\H s=some (.ins CS dx (dP bd ch fi))/\H bd=some (.dK kb)/\(kb.map (·.1)).Nodup/\kb.length<=4/\H l=some (.lst ys)/\bZ H ys zs/\(∀z∈zs,N2 z/\z∈gl)/\zs.length<=100/\fQ H sv sp/\N2 sp/\sp∉gl/\gl.length<=100/\(∀kv∈kb,qN CB CT CG bd spl gl H kv)/\∀H',aD H H'->Q .non H'
abbrev Ncr:List Str:=["self","spot","leans","leanings","table","rules","column","found"]
theorem pK:aV Ncr ["self","spot","leans"] (aN a2G):=⟨rfl,rfl,rfl,by decide+kernel,rfl,by decide+kernel,by decide+kernel⟩
def iW(gl:List aF)(n:Nat)(gd:Addr)(H:Hp):Prop:=∃kvs adj,oM H gd kvs adj/\(∀z,∀y∈adj z,y∈gl)/\kvs.length<=n
theorem iW.put{gl:List aF}{n:Nat}{gd l:Addr}{H H':Hp}{z:aF}{ys:List aF}{vs:List V}{kvs:List (List aB×V)}{adj:aF->List aF}(g:oM H gd kvs adj)(ha:∀z,∀y∈adj z,y∈gl)(hn:kvs.length<=n)(u:bO gd H H')(e:H' gd=some (.dT (aR kvs (kS z) (.ref l))))(hl:H l=some (.lst vs))(hs:bZ H vs ys)(hy:∀y∈ys,N2 y/\y∈gl)(h100:ys.length<=100):iW gl (n+ 1) gd H':=by
 have k:∀{x:Addr} {o:HO},H x=some o->(∀y,o≠ .dT y)->H' x=some o:=fun e2 n=>u _ _ (fun y=>by rw[y,g.d]at e2;exact n _ (Option.some.inj e2).symm) e2
 have kt:∀a xs,H a=some (.tup xs)->H' a=some (.tup xs):=fun a xs e2=>k e2 (fun _ y=>by cases y)
 refine⟨aR kvs (kS z) (.ref l),fun x=>if x=z then ys else adj x,⟨e,fun x=> ?_,fun x y hm=> ?_,fun x=> ?_⟩,fun x y hm=> ?_,Nat.le_trans (a0T _ _ _) (by omega)⟩
 ·rw[fT]
  by_cases h:x=z
  ·rw[if_pos (by rw[h])]
   exact .inr ⟨l,vs,rfl,k hl (fun _ y=>by cases y),by show bZ H' vs (if x=z then ys else adj x);rw[if_pos h];exact hs.mapT kt⟩
  ·rw[if_neg (fun y=>h (a3P y))]
   rcases g.a x with⟨a1,a2⟩|⟨l',vs',a1,a2,a3⟩
   ·exact .inl ⟨a1,by show(if x=z then ys else adj x)= [];rw[if_neg h];exact a2⟩
   ·exact .inr ⟨l',vs',a1,k a2 (fun _ y=>by cases y),by show bZ H' vs' (if x=z then ys else adj x);rw[if_neg h];exact a3.mapT kt⟩
 ·have hm:y∈(if x=z then ys else adj x):=hm
  split at hm
  ·exact(hy y hm).1
  ·exact g.n x y hm
 ·show(if x=z then ys else adj x).length<=100
  split
  ·exact h100
  ·exact g.l x
 ·have hm:y∈(if x=z then ys else adj x):=hm
  split at hm
  ·exact(hy y hm).2
  ·exact ha x y hm
theorem iW.mv{gl:List aF}{n:Nat}{gd:Addr}{H H':Hp}(u:∀b o,(∀y,o≠ .dK y)->(∀q y,o≠ .frz q y)->H b=some o->H' b=some o)(h:iW gl n gd H):iW gl n gd H':=by
 obtain⟨kvs,adj,g,h1,h2⟩:=h
 exact⟨kvs,adj,⟨u _ _ (fun _ y=>by cases y) (fun _ _ y=>by cases y) g.d,fun z=>(g.a z).imp id fun⟨l,vs,e1,e2,e3⟩=>⟨l,vs,e1,u _ _ (fun _ y=>by cases y) (fun _ _ y=>by cases y) e2,e3.mapT fun a xs e=>u _ _ (fun _ y=>by cases y) (fun _ _ y=>by cases y) e⟩,g.n,g.l⟩,h1,h2⟩
theorem a7T(T:aW K mg){CS CB CT CG:Addr}(Y:cU K mg CS)(W:bU K mg CB)(clG:cW K CG){spl:Sp}(G_le:aL P w K mg base aC 3 CG "leans" ["self","table"] spl):aL P w K mg base aC 4 CS "check_ring" ["self","spot","leans"] (a02 CS CB CT CG spl):=by
 have G_ring:bI P w K mg base aC 2 "ring_from" ["leanings","spot"] (a0C K):=a8j T
 refine Y.m_check_ring.known pK (fun _ _ _ _ _ _ us hl=>eM (fun _ _ _=>rfl) us hl) (fun vs H Q E h=> ?_) (fun f cdv A outer s H vs Q E hr h=> ?_)
 ·obtain⟨s',bd,ch,fi,dx,l,sv,kb,ys,sp,zs,gl,rfl,_⟩:=h
  rfl
 ·obtain⟨s',bd,ch,fi,dx,l,sv,kb,ys,sp,zs,gl,rfl,h1,h2,nd,k4,h3,hz,hN,z100,hsv,nsp,hns,g100,hb,q⟩:=h
  have hu:=eB hr
  refine⟨_,(aH (bR (i:=3) pK.nd rfl (Or.inl rfl) qI)
   (aH (a23 PassesOwn.never rfl (aT (pv 0) rfl) (fH (i:=4) pK.nd rfl (Or.inl rfl)) (aH (bR (i:=5) pK.nd rfl (Or.inl rfl) (aT (fY hu (aT (pv 0) rfl) (pv 4) (fun _ _=>rfl)) rfl))
   (aI (a23 PassesOwn.never rfl (pv 5) (fH (i:=6) pK.nd rfl (Or.inl rfl)) (aI (jQ hu (pv 3) (fA (aA (pv 4) (aA (pv 6) aE))) (bH (fY hu (pv 5) (pv 6) (fun _ _=>rfl)) clG G_le hr aM (aA (pv 4) aE)) rfl))))))
   (aH (jQ hu (pv 3) (pv 1) (pv 2) rfl)
   (aH (bR (i:=7) pK.nd rfl (Or.inl rfl) (bQ G_ring (hr.mono (by decide)) aM (aA (pv 3) (aA (pv 1) aE))))
   (aI (bM (cE a8T (pv 7) iQ (cH _)) (aI cB) bP)))))),?_⟩
  intro gd hgd
  have s1:=aD.new (o:=.dT []) hgd
  have g1:upd H gd (.dT []) gd=some (.dT []):=aJ
  generalize upd H gd (.dT [])=H1 at s1 g1|-
  have h2':=s1 _ _ h2
  refine⟨_,rfl,s',CS,dx,_,_,rfl,s1 _ _ h1,Y.cl,Y.n_boards,(kX _ _ _).1,bd,_,rfl,h2',fun nf ob=> ?_⟩
  obtain⟨Hf,eHf⟩:∃Hf,Hf=upd H1 bd (.frz ob (.dK kb)):=⟨_,rfl⟩
  rw[<- eHf]
  have hf:Hf bd=some (.frz ob (.dK kb)):=by rw[eHf,aJ]
  have ngb:gd≠bd:=fun y=>by rw[y,h2]at hgd;cases hgd
  have kf:∀{x:Addr} {o:HO},x≠bd->H1 x=some o->Hf x=some o:=fun n e=>by rw[eHf,aG n];exact e
  have gf:Hf gd=some (.dT []):=kf ngb g1
  have ins_f:jF H Hf:=fun b o h e=>kf (fun y=>by rw[y,h2]at e;rcases h with⟨_,_,_,rfl⟩|⟨_,rfl⟩<;>cases e) (s1 _ _ e)
  have gr0:iW gl 0 gd Hf:=⟨[],fun _=> [],⟨gf,fun z=> .inl ⟨rfl,rfl⟩,fun z y hy=>by{cases hy},fun z=>Nat.zero_le _⟩,fun z y hy=>by{cases hy},Nat.le_refl _⟩
  refine a0P (a:=bd) (ob:=ob) (kvs:=kb) (fun i σ H2=>(∃o4 o5 o6,σ= [some (.ref s'),some sv,some (.ref l),some (.ref gd),o4,o5,o6,none])/\bO gd Hf H2/\iW gl (8* i) gd H2) ⟨⟨_,_,_,rfl⟩,bO.of (aD.refl _),gr0⟩ (fun i σ H2 _ ⟨_,b2,_⟩=>b2 _ _ ngb.symm hf) ?_ ?_
  ·rintro j pv' σ H2 hp ⟨⟨o4,o5,o6,rfl⟩,b2,gS⟩
   have hpm:=List.mem_of_getElem? hp
   have hj:j<kb.length:=(List.getElem?_eq_some_iff.mp hp).1
   obtain⟨nm,B,rfl,nnm,b1,nbr,ndr,r8,hrv⟩:=hb pv' hpm
   have hv:aQ kb (.inr nm:aB)=some (.ref B.b):=xH nd hpm
   obtain⟨dB,e1⟩:=(b1.same s1).at_
   have nb:B.b≠bd:=fun y=>by rw[y,h2']at e1;cases e1
   have ns:s'≠bd:=fun y=>by rw[y,h2]at h1;cases h1
   have ng:∀{x:Addr} {o:HO},Hf x=some o->(∀y,o≠ .dT y)->x≠gd:=fun e n y=>by rw[y,gf]at e;exact n _ (Option.some.inj e).symm
   have up2:∀{x:Addr} {o:HO},Hf x=some o->(∀y,o≠ .dT y)->H2 x=some o:=fun e n=>b2 _ _ (ng e n) e
   have eb:=up2 (kf nb e1) (fun _ y=>by cases y)
   have es:=up2 (kf ns (s1 _ _ h1)) (fun _ y=>by cases y)
   have er:=up2 (kf nbr.symm (b1.same s1).rul) (fun _ y=>by cases y)
   have bd2:=up2 hf (fun _ y=>by cases y)
   refine⟨_,rfl,s',CS,dx,_,_,rfl,es,Y.cl,Y.n_boards,(kX _ _ _).1,_,rfl,bd,_,rfl,.inl ⟨kb,.inr nm,.inr ⟨ob,bd2⟩,rfl,hv.symm⟩,B.b,CB,dB,_,_,rfl,eb,W.cl,W.n_rules,(dH _ _ _ _).2.1,?_⟩
   refine⟨_,rfl,B.ru,_,rfl,er,fun nf2 ob2=> ?_⟩
   obtain⟨Hg,eHg⟩:∃Hg,Hg=upd H2 B.ru (.frz ob2 (.dK B.rus)):=⟨_,rfl⟩
   rw[<- eHg]
   have hg:Hg B.ru=some (.frz ob2 (.dK B.rus)):=by rw[eHg,aJ]
   have kg:∀{x:Addr} {o:HO},x≠B.ru->H2 x=some o->Hg x=some o:=fun n e=>by rw[eHg,aG n];exact e
   have gSg:iW gl (8* j) gd Hg:=gS.mv fun b o n1 n2 e=>kg (fun y=>by rw[y,er]at e;exact n1 _ (Option.some.inj e).symm) e
   have gg:∃kvs,Hg gd=some (.dT kvs):=let ⟨kvs,_,g,_⟩:=gSg;⟨kvs,g.d⟩
   obtain⟨kv0,gg0⟩:=gg
   have ngr:B.ru≠gd:=fun y=>by rw[y,gg0]at hg;cases hg
   have ins_g:jF H Hg:=fun b o h e=>kg (fun y=>by rw[y,b1.rul]at e;rcases h with⟨_,_,_,rfl⟩|⟨_,rfl⟩<;>cases e) (up2 (ins_f b o h e) (fun y ey=>by rcases h with⟨_,_,_,rfl⟩|⟨_,rfl⟩<;>cases ey))
   refine a0P (a:=B.ru) (ob:=ob2) (kvs:=B.rus) (fun i σ H3=>(∃o6,σ= [some (.ref s'),some sv,some (.ref l),some (.ref gd),some (.str nm),some (.ref B.ru),o6,none])/\bO gd Hg H3/\iW gl (8* j+ i) gd H3) ⟨⟨_,rfl⟩,bO.of (aD.refl _),gSg⟩ (fun i σ H3 _ ⟨_,b3,_⟩=>b3 _ _ ngr hg) ?_ ?_
   ·rintro i rv σ H3 hr3 ⟨⟨o6,rfl⟩,b3,gS3⟩
    have hi:i<B.rus.length:=(List.getElem?_eq_some_iff.mp hr3).1
    have hrm:=List.mem_of_getElem? hr3
    obtain⟨c,gr,dg,fs,ys2,rfl,nc,hgr,hnl,le,hy2,y100⟩:=hrv rv hrm
    have hvr:aQ B.rus (.inr c:aB)=some (.ref gr):=xH ndr hrm
    have ng3:∀{x:Addr} {o:HO},Hg x=some o->(∀y,o≠ .dT y)->H3 x=some o:=fun e n=>b3 _ _ (fun y=>by rw[y,gg0]at e;exact n _ (Option.some.inj e).symm) e
    have ins_3:jF H H3:=fun b o h e=>ng3 (ins_g b o h e) (fun y ey=>by rcases h with⟨_,_,_,rfl⟩|⟨_,rfl⟩<;>cases ey)
    refine⟨_,rfl,_,rfl,B.ru,_,rfl,.inl ⟨B.rus,.inr c,.inr ⟨ob2,ng3 hg (fun _ y=>by cases y)⟩,rfl,hvr.symm⟩,gr,dg,fs,rfl,ins_3 _ _ (.inl ⟨_,_,_,rfl⟩) hgr,hnl,_,rfl,le H3 _ ins_3 fun H4 l4 vs4 s4 hl4 h4 hs4=> ?_⟩
    obtain⟨kvs,adj,G3,ha3,hn3⟩:=gS3
    refine⟨_,rfl,_,rfl,_,rfl,sl,fun tp htp=> ?_⟩
    have s5:=aD.new (o:=.tup [V.str nm,kV ((Sum.inr c:aB),V.ref gr).fst]) htp
    have t5:upd H4 tp (.tup [V.str nm,kV ((Sum.inr c:aB),V.ref gr).fst]) tp=some (.tup [.str nm,.str c]):=aJ
    generalize upd H4 tp (.tup [V.str nm,kV ((Sum.inr c:aB),V.ref gr).fst])=H5 at s5 t5|-
    have s35:=s4.trans s5
    have G5:=G3.same s35
    refine⟨gd,_,rfl,.inr ⟨kvs,kS (nm,c),tp,G5.d,rfl,t5,cQ (by omega),rfl⟩,?_⟩
    have u6:bO gd H5 (upd H5 gd (.dT (aR kvs (kS (nm,c)) (.ref l4)))):=bO.upd
    have e6:upd H5 gd (.dT (aR kvs (kS (nm,c)) (.ref l4))) gd=some (.dT (aR kvs (kS (nm,c)) (.ref l4))):=aJ
    generalize upd H5 gd (.dT (aR kvs (kS (nm,c)) (.ref l4)))=H6 at u6 e6|-
    exact⟨⟨_,rfl⟩,fun b o n e=>u6 _ _ n (s35 _ _ (b3 _ _ n e)),iW.put G5 ha3 hn3 u6 e6 (s5 _ _ h4) (hs4.same s5) hy2 y100⟩
   ·rintro σ H3 ⟨⟨o6,rfl⟩,b3,gS3⟩
    refine⟨B.ru,ob2,B.rus,nf2,b3 _ _ ngr hg,⟨_,_,_,rfl⟩,fun b o n e=> ?_,?_⟩
    ·by_cases y:b=B.ru
     ·rw[y,aJ]
      rw[y]at e
      rw[b2 _ _ ngr e]at er
      exact er.symm
     ·rw[aG y]
      exact b3 _ _ n (kg y (b2 _ _ n e))
    ·have m:iW gl (8* j+ B.rus.length) gd (upd H3 B.ru (.dK B.rus)):=gS3.mv fun b o n1 n2 e=>by
      rw[aG (fun y=>by rw[y,b3 _ _ ngr hg]at e;exact n2 _ _ (Option.some.inj e).symm)]
      exact e
     obtain⟨kvs,adj,x1,x2,x3⟩:=m
     exact⟨kvs,adj,x1,x2,by omega⟩
  ·rintro σ H2 ⟨⟨o4,o5,o6,rfl⟩,b2,gS⟩
   have bd2:=b2 _ _ ngb.symm hf
   refine⟨bd,ob,kb,nf,bd2,?_⟩
   have b3:bO gd H1 (upd H2 bd (.dK kb)):=fun b o n e=>by
    by_cases y:b=bd
    ·rw[y,aJ]
     rw[y,h2']at e
     exact e
    ·rw[aG y]
     exact b2 _ _ n (kf y e)
   have gS3:iW gl (8* kb.length) gd (upd H2 bd (.dK kb)):=gS.mv fun b o n1 n2 e=>by
    rw[aG (fun y=>by rw[y,bd2]at e;exact n2 _ _ (Option.some.inj e).symm)]
    exact e
   generalize upd H2 bd (.dK kb)=H3 at b3 gS3|-
   have s13:aD H H3:=fun b o e=>b3 _ _ (aX e hgd) (s1 _ _ e)
   obtain⟨sa,rfl,hsa⟩:=hsv.same s13
   obtain⟨kvs,adj,G3,ha3,hn3⟩:=gS3
   refine⟨_,rfl,_,rfl,_,rfl,gd,_,rfl,.inr ⟨kvs,kS sp,sa,G3.d,rfl,hsa,cQ (by omega),rfl⟩,?_⟩
   have s4:aD H (upd H3 gd (.dT (aR kvs (kS sp) (.ref l)))):=s13.on hgd
   have u4:bO gd H3 (upd H3 gd (.dT (aR kvs (kS sp) (.ref l)))):=bO.upd
   have g4:upd H3 gd (.dT (aR kvs (kS sp) (.ref l))) gd=some (.dT (aR kvs (kS sp) (.ref l))):=aJ
   generalize upd H3 gd (.dT (aR kvs (kS sp) (.ref l)))=H4 at s4 u4 g4|-
   obtain⟨kvs',adj',G4,ha4,_⟩:=iW.put G3 ha3 hn3 u4 g4 (s13 _ _ h3) (hz.same s13) hN z100
   refine⟨_,rfl,_,rfl,gd,_,kvs',adj',sp,gl,rfl,G4,hsv.same s4,nsp,ha4,g100,fun H5 s5=>⟨fun _=> ?_,fun l' vs' ys' _ _ _ R _=> ?_⟩⟩
   ·exact⟨_,rfl,rfl,_,rfl,bK (q H5 (s4.trans s5))⟩
   ·exfalso
    have:=R.back
    obtain⟨m,hm⟩:∃m,ys'.length=m+ 1:=⟨ys'.length- 1,by have:=R.pos;omega⟩
    rw[hm]at this
    obtain⟨x,_,hx⟩:=this.inv
    exact hns (ha4 x sp hx)
theorem oV.mv{spl:Sp}{gr:Addr}{nm:Str}{ys:List aF}{H H':Hp}(k:jF H H')(h:oV spl gr nm ys H):oV spl gr nm ys H':=fun Hb Q' kb q=>h Hb Q' (k.trans kb) q
theorem qN.same{CB CT CG bd:Addr}{spl:Sp}{gl:List aF}{H H':Hp}{kv:aB×V}(s:aD H H')(h:qN CB CT CG bd spl gl H kv):qN CB CT CG bd spl gl H' kv:=by
 obtain⟨nm,B,h1,h2,h3,h4,h5,h6,h7⟩:=h
 refine⟨nm,B,h1,h2,h3.same s,h4,h5,h6,fun rv hrv=> ?_⟩
 obtain⟨c,gr,dx,fs,ys,e1,e2,e3,e4,e5,e6,e7⟩:=h7 rv hrv
 exact⟨c,gr,dx,fs,ys,e1,e2,s _ _ e3,e4,e5.mv (jF.of s),e6,e7⟩
def a2P(K:Fg)(CS CF CB CT CG:Addr)(spl:Sp):Sp:=fun vs H Q _=>∃(s bd ch gr dg:Addr) (cs:List V) (kb:List (aB×V)) (nm t:Str) (fs:List (Str×V)) (B:BM) (zs gl:List aF),vs= [.ref s,.str nm,.str t,.ref gr] /\oW CS s bd ch cs kb H/\cs.length<900/\Nl nm/\aQ kb (.inr nm:aB)=some (.ref B.b)/\bS CB CT H B/\B.sep/\sU bd ch B/\pQ B t/\Nl t/\H gr=some (.ins CG dg fs)/\fs.lookup ("leans":Str)=none/\oV spl gr nm zs H/\(∀z∈zs,N2 z/\z∈gl/\∃B':BM,aQ kb (.inr z.1:aB)=some (.ref B'.b)/\bS CB CT H B'/\z.2∈B'.ord)/\zs.length<=100/\(nm,t)∉gl/\gl.length<=100/\(kb.map (·.1)).Nodup/\kb.length<=4/\(∀kv∈kb,qN CB CT CG bd spl gl H kv)/\B.rus.length<100/\B.mes.length<100/\B.ord.length<8/\
 ∀H' fi fd lk c m,vZ CS CF s bd ch fi fd lk (cs++ [.ref c]) kb H H'->H m=none->bS CB CT H' {B with rus:=aR B.rus (.inr t:aB) (.ref gr),mes:=aR B.mes (.inr t:aB) (.ref m),ord:=B.ord++ [t]} ->H' m=some (.dK [])->(∀x o,x≠s->x≠ch->x≠B.od->x≠B.ru->x≠B.me->H x=some o->H' x=some o)->Q .non H'
theorem vX:aV ["self","table","column","rule","board","leans"] ["self","table","column","rule"] (aN a2d):=⟨rfl,rfl,rfl,by decide+kernel,rfl,by decide+kernel,by decide+kernel⟩
structure RIs(K:Fg)(C:Addr):Prop where
 cl:cW K C
 ty:∀{H:Hp} {a dx:Addr} {fs:List (Str×V)},H a=some (.ins C dx fs)->gX K H (.ref a) (.ref C)
 isl:PySem.W.kitOne K (.ref C) (.type "list")=some false
theorem a4k(T:aW K mg){CS CF CB CT CC CG:Addr}(Y:cU K mg CS)(Z:eW K mg CF)(W:bU K mg CB)(U:cI K mg CT)(C:nY K mg CC)(Gr:RIs K CG){spl:Sp}(G_le:aL P w K mg base aC 3 CG "leans" ["self","table"] spl):aL P w K mg base aC 9 CS "rule" ["self","table","column","rule"] (a2P K CS CF CB CT CG spl):=by
 have G_for:aL P w K mg base aC 3 CS "board_for" ["self","table","column"] (yF CS CB CT):=a2J T Y W
 have G_cl:aL P w K mg base aC 3 CS "check_leans" ["self","spot","leans"] (a0M CS CB CT):=a7i T Y W
 have G_cr:aL P w K mg base aC 4 CS "check_ring" ["self","spot","leans"] (a02 CS CB CT CG spl):=a7T T Y W Gr.cl G_le
 have GI:dJ P w K mg base aC 1 CC ["self","board","column","content"] (xI CC):=a2V T C
 have G_make:aL P w K mg base aC 8 CS "make" ["self","change"] (sK CS CF CC (sO CC CB CT (xJ K CB CT))):=vU T Y Z C.cl (a0H a8x) (a1D T C W (a9f T W))
 refine Y.m_rule.known vX (fun _ _ _ _ _ _ us hl=>mI (fun _ _ _ _=>rfl) us hl) (fun vs H Q E h=> ?_) (fun f cdv A outer s H vs Q E hr h=> ?_)
 ·obtain⟨s',bd,ch,gr,dg,cs,kb,nm,t,fs,B,zs,gl,rfl,_⟩:=h
  rfl
 ·obtain⟨s',bd,ch,gr,dg,cs,kb,nm,t,fs,B,zs,gl,rfl,hS,cl,hn,hv,hB,sep,ss,new,ht,hgr,hnl,le,hzs,z100,ngl,g100,nd,k4,hbd,r100,m100,o8,q⟩:=h
  refine⟨_,(aH (bR (i:=4) vX.nd rfl (Or.inl rfl) (bH (pv 0) Y.cl G_for (hr.mono (by decide)) aM (aA (pv 1) (aA (pv 2) aE))))
   (aH (bR (i:=5) vX.nd rfl (Or.inl rfl) (bH (pv 3) Gr.cl G_le (hr.mono (by decide)) aM (aA (pv 1) aE)))
   (aH (cC (bH (pv 0) Y.cl G_cl (hr.mono (by decide)) aM (aA (fA (aA (pv 1) (aA (pv 2) aE))) (aA (pv 5) aE))))
   (aH (cC (bH (pv 0) Y.cl G_cr (hr.mono (by decide)) aM (aA (fA (aA (pv 1) (aA (pv 2) aE))) (aA (pv 5) aE))))
   (aI (cC (bH (pv 0) Y.cl G_make hr aM (aA (jC GI (hr.mono (by decide)) C.c aM (aA (pv 4) (aA (pv 2) (aA (pv 3) aE)))) aE)))))))),?_⟩
  obtain⟨⟨dx,fi0,h1⟩,h2,h3⟩:=hS
  refine⟨_,rfl,s',dx,_,rfl,h1,dC,_,rfl,_,rfl,s',bd,ch,fi0,dx,kb,nm,t,B,rfl,h1,h3,hn,hv,hB,ht,o8,fun H1 s1=> ?_⟩
  refine⟨_,rfl,gr,dg,_,rfl,s1 _ _ hgr,hnl,_,rfl,le H1 _ (jF.of s1) fun H2 l ys s2 hl h2l hsp=> ?_⟩
  have s12:=s1.trans s2
  refine⟨_,rfl,s',dx,_,rfl,s12 _ _ h1,dC,_,rfl,_,rfl,sl,fun t1 ht1=> ?_⟩
  have s3':=aD.new (o:=.tup [.str nm,.str t]) ht1
  have tt1:upd H2 t1 (.tup [.str nm,.str t]) t1=some (.tup [.str nm,.str t]):=aJ
  generalize upd H2 t1 (.tup [.str nm,.str t])=H3 at s3' tt1|-
  have s3:=s12.trans s3'
  refine⟨_,rfl,s',bd,ch,fi0,dx,l,.ref t1,kb,ys,zs,rfl,s3 _ _ h1,s3 _ _ h3,s3' _ _ h2l,hsp.same s3',fun z hz=> ?_,fun H4 s4=> ?_⟩
  ·obtain⟨n2,_,B',b1,b2,b3⟩:=hzs z hz
   exact⟨n2,B',b1,b2.same s3,b3⟩
  have s4':=s3.trans s4
  refine⟨_,rfl,s',dx,_,rfl,s4' _ _ h1,dC,_,rfl,_,rfl,sl,fun t2 ht2=> ?_⟩
  have s5':=aD.new (o:=.tup [.str nm,.str t]) ht2
  have tt2:upd H4 t2 (.tup [.str nm,.str t]) t2=some (.tup [.str nm,.str t]):=aJ
  generalize upd H4 t2 (.tup [.str nm,.str t])=H5 at s5' tt2|-
  have s5:=s4'.trans s5'
  have s25:=(s3'.trans s4).trans s5'
  refine⟨_,rfl,s',bd,ch,fi0,dx,l,.ref t2,kb,ys,(nm,t),zs,gl,rfl,s5 _ _ h1,s5 _ _ h3,nd,k4,s25 _ _ h2l,hsp.same s25,fun z hz=>⟨(hzs z hz).1,(hzs z hz).2.1⟩,z100,⟨t2,rfl,tt2⟩,⟨hn,ht⟩,ngl,g100,fun kv hkv=>(hbd kv hkv).same s5,fun H6 s6'=> ?_⟩
  have s6:=s5.trans s6'
  refine⟨_,rfl,s',dx,_,rfl,s6 _ _ h1,dC,_,rfl,_,rfl,_,rfl,?_⟩
  intro c dc hc hdc ne
  refine⟨c,dc,B.b,gr,t,rfl,aJ,fun H7 b7 c7=>⟨rfl,?_⟩⟩
  have s7:aD H H7:=fun b o z=>b7 b o (aX (s6 _ _ z) hc) (by rw[aG (aX (s6 _ _ z) hc),aG (aX (s6 _ _ z) hdc)];exact s6 _ _ z)
  have hB7:=hB.same s7
  have gr7:=s7 _ _ hgr
  refine⟨s',c,bd,ch,fi0,dx,dc,cs,_,rfl,c7,(zA _ _ _).2.2.2.1,c,dc,gr,B,t,rfl,c7,hB7,new,B,t,gr,CG,dg,_,rfl,hB7,sep,new,gr7,Gr.ty gr7,Gr.isl,r100,m100,by omega,fun H8 m hm B8 m8 u8=> ?_⟩
  have ho:=hB.ord
  have hru:=hB.rul
  have hme:=hB.mem
  have k8:∀{x:Addr} {o:HO},H x=some o->x≠B.od->x≠B.ru->x≠B.me->H8 x=some o:=fun e n1 n2 n3=>u8 _ _ n1 n2 n3 (s7 _ _ e)
  have ns4:=k8 h1 (fun y=>by rw[y,ho]at h1;cases h1) (fun y=>by rw[y,hru]at h1;cases h1) (fun y=>by rw[y,hme]at h1;cases h1)
  have ch4:=k8 h2 ss.o (fun y=>by rw[y,hru]at h2;cases h2) (fun y=>by rw[y,hme]at h2;cases h2)
  refine⟨ns4,ch4,cl,fun H9 fi fd lk df f1 f2 f3 nfl g1 g2 g3 g4 g5 u9=> ?_⟩
  have nn:∀{x:Addr},H8 x=none->H x=none:=fun{x} e=>by
   cases e2:H x with
   |none=>rfl
   |some o=>
    by_cases y:x=B.od
    ·rw[y,B8.ord]at e;cases e
    ·by_cases y2:x=B.ru
     ·rw[y2,B8.rul]at e;cases e
     ·by_cases y3:x=B.me
      ·rw[y3,B8.mem]at e;cases e
      ·rw[k8 e2 y y2 y3]at e;cases e
  have hm0:H m=none:=dW s7 hm
  have nm':m≠s'/\m≠ch:=⟨fun y=>by{rw[y,h1]at hm0;cases hm0},fun y=>by{rw[y,h2]at hm0;cases hm0}⟩
  have nb:bd≠s'/\bd≠ch:=⟨fun y=>by{rw[y,h1]at h3;cases h3},fun y=>by{rw[y,h2]at h3;cases h3}⟩
  exact q H9 fi fd lk c m ⟨⟨dx,g1⟩,g2,u9 _ _ nb.1 nb.2 (k8 h3 (fun y=>by rw[y,ho]at h3;cases h3) ss.u ss.m),⟨df,g3⟩,g4,g5,nfl,nn f1,nn f2,nn f3⟩ hm0 (B8.off ⟨dx,bd,ch,fi0,ns4⟩ ch4 ss.r ss.o u9) (u9 _ _ nm'.1 nm'.2 m8) (fun x o n1 n2 n3 n4 n5 e=>u9 _ _ n1 n2 (k8 e n3 n4 n5))
theorem a66{C:Addr}(Y:lS K mg C):RIs K C:=⟨Y.cl,fun e=> .ins e Y.cl Y.hc Y.own.2.1 Y.own.2.2 Y.own.1,Y.isl⟩
theorem a8c{C:Addr}(Y:lS K mg C):qQ K C:=⟨Y.cl,Y.m_reckon,Y.n_function⟩
def uW(CF CB CT:Addr):Sp:=fun vs H Q _=>∃(fi bd fd lk ce l:Addr) (nm c:Str) (p:Nat) (B:BM) (kf:List (Ky×V)) (ys:List V) (v:V),vs= [.ref fi,.ref ce] /\dE CF CB CT H fi bd fd lk nm B kf/\H ce=some (.tup ((aU nm c p).map kV))/\aQ B.rus (.inr c:aB)=none/\Nl c/\aQ B.kvs (.inr c:aB)=some (.ref l)/\H l=some (.lst ys)/\p<B.xs.length/\cO ys (p:Int)=some v/\(∀v',aQ kf (aU nm c p)=some v'->v'=v)/\kf.length<899/\
 ∀H' kf',(kf'=kf\/ kf'=aR kf (aU nm c p) v)->aQ kf' (aU nm c p)=some v->dE CF CB CT H' fi bd fd lk nm B kf'->bO fd H H'->Q .non H'
abbrev NatG:List Str:=["self","cell","trial","told"]
theorem a43:aV NatG ["self","cell"] (aN pB):=⟨rfl,rfl,rfl,by decide+kernel,rfl,by decide+kernel,by decide+kernel⟩
theorem a7Q(T:aW K mg){CF CB CT:Addr}(Y:eW K mg CF)(Wb:bU K mg CB)(U:cI K mg CT):iU P w K mg base 5 "attempt" "Finder.attempt" pB ["self","cell"] (uW CF CB CT):=by
 have G_knows:aL P w K mg base aC 4 CF "knows" ["self","cell"] (zK CF CB CT):=a1y T Y Wb U
 refine zD a43 (fun vs H Q E h=> ?_) (fun f cdv A outer s H vs Q E hr h=> ?_)
 ·obtain⟨fi,bd,fd,lk,ce,l,nm,c,p,B,kf,ys,v,rfl,_⟩:=h
  rfl
 ·obtain⟨fi,bd,fd,lk,ce,l,nm,c,p,B,kf,ys,v,rfl,F,a1,a2,a3,a4,a5,a6,a7,a8,a9,q⟩:=h
  refine⟨_,(aH (bM (cM (bH (pv 0) Y.cl G_knows hr aM (aA (pv 1) aE)) (fun _=>rfl)) (aI (bA iQ)) bP)
   (aH cB (aH cB (aH cB (aI cB))))),?_⟩
  obtain⟨d0,e1⟩:=F.fin
  exact⟨_,rfl,fi,d0,_,rfl,e1,kF,_,rfl,fi,bd,fd,lk,ce,l,nm,c,p,B,kf,ys,v,rfl,F,a1,a2,a3,a4,a5,a6,a7,a8,a9,fun H' kf' h1 h2 h3 h4=>⟨_,rfl,cD (q H' kf' h1 h2 h3 h4)⟩⟩
theorem a55{CF CB CT:Addr}:jY (uW CF CB CT):=fun vs H Q Q' hQ h=>by
 obtain⟨fi,bd,fd,lk,ce,l,nm,c,p,B,kf,ys,v,a0,F,a1,a2,a3,a4,a5,a6,a7,a8,a9,q⟩:=h
 exact⟨fi,bd,fd,lk,ce,l,nm,c,p,B,kf,ys,v,a0,F,a1,a2,a3,a4,a5,a6,a7,a8,a9,fun H' kf' h1 h2 h3 h4=>hQ _ _ (q H' kf' h1 h2 h3 h4)⟩
theorem a2m{CS CF CB CT s bd ch fi fd lk l:Addr}{kb:List (aB×V)}{nm c:Str}{p:Nat}{B:BM}{kf:List (Ky×V)}{ys:List V}{v:V}{H:Hp}{Q:VK}(F:dE CF CB CT H fi bd fd lk nm B kf)(hS:iV CS CB CT s bd ch fi kb nm B H)(nc:Nl c)(co:c∈B.ord)(ru:aQ B.rus (.inr c:aB)=none)(kv:aQ B.kvs (.inr c:aB)=some (.ref l))(hl:H l=some (.lst ys))(hp:p<B.xs.length)(ha:cO ys (p:Int)=some v)(hcon:∀v',aQ kf (aU nm c p)=some v'->v'=v)(kl:kf.length<899)
 (q:∀H' kf',(kf'=kf\/ kf'=aR kf (aU nm c p) v)->H' fd=some (.dT kf')->bO fd H H'->Q v H'):
 iI CS CF CB CT (gN CF (uW CF CB CT)) [.ref s,.str nm,.str c,.int (p:Int)] H Q E0:=by
 obtain⟨df,hfi⟩:=F.fin
 refine⟨s,bd,ch,fi,df,kb,nm,c,p,B,_,rfl,hS,nc,co,hp,hfi,kF,fun H1 ce hce s1 c1=> ?_⟩
 refine⟨fi,ce,bd,fd,lk,df,aU nm c p,rfl,s1 _ _ hfi,fun H2 wl hwl s2 w2=> ?_⟩
 have F2:=(F.same s1).same s2
 have nfd:∀{x:Addr} {o:HO},H2 x=some o->(∀y,o≠ .dT y)->x≠fd:=fun e n y=>by rw[y,F2.fnd]at e;exact n _ (Option.some.inj e).symm
 refine⟨fi,bd,fd,lk,ce,l,nm,c,p,B,kf,ys,v,rfl,F2,s2 _ _ c1,ru,nc,kv,s2 _ _ (s1 _ _ hl),hp,ha,hcon,kl,fun H3 kf' hk hv F3 b3=>⟨rfl,?_⟩⟩
 obtain⟨d3,f3⟩:=F3.fin
 have w3:=b3 _ _ (nfd w2 (fun _ y=>by cases y)) w2
 refine⟨d3,kf',v,w3,f3,F3.fnd,b3 _ _ (nfd (s2 _ _ c1) (fun _ y=>by cases y)) (s2 _ _ c1),hv,fun H4 b4=>q H4 kf' hk (b4 _ _ (fun y=>by rw[<- y,F3.fnd]at w3;cases w3) F3.fnd) fun x o n e=>b4 _ _ (fun y=>by rw[y]at e;rw[s1 _ _ e]at hwl;cases hwl) (b3 _ _ n (s2 _ _ (s1 _ _ e)))⟩
def tD(CS CB CT:Addr):Sp:=fun vs H Q _=>∃(s bd ch fi dx:Addr) (kb:List (aB×V)) (nm:Str) (B:BM),vs= [.ref s,.str nm] /\H s=some (.ins CS dx (dP bd ch fi))/\H bd=some (.dK kb)/\Nl nm/\aQ kb (.inr nm:aB)=some (.ref B.b)/\bS CB CT H B/\∀H',aD H H'->Q (.int B.xs.length) H'
theorem a4b:aV ["self","table"] ["self","table"] (aN a0Y):=⟨rfl,rfl,rfl,by decide+kernel,rfl,by decide+kernel,by decide+kernel⟩
theorem xR(T:aW K mg){CS CB CT:Addr}(Y:cU K mg CS)(W:bU K mg CB)(Z:cI K mg CT):aL P w K mg base aC 3 CS "many" ["self","table"] (tD CS CB CT):=by
 have G_of:aL P w K mg base aC 2 CS "board_of" ["self","table"] (qP CS CB CT):=tU T Y
 have G_many:aL P w K mg base aC 1 CT "many" ["self"] (lL CT):=mW T Z
 refine Y.m_many.known a4b (fun _ _ _ _ _ _ us hl=>dF (fun _ _=>rfl) us hl) (fun vs H Q E h=> ?_) (fun f cdv A outer s H vs Q E hr h=> ?_)
 ·obtain⟨s',bd,ch,fi,dx,kb,nm,B,rfl,_⟩:=h
  rfl
 ·obtain⟨s',bd,ch,fi,dx,kb,nm,B,rfl,h1,h2,hn,hv,hB,q⟩:=h
  refine⟨_,(aI (bA (eO (aT (bH (pv 0) Y.cl G_of hr aM (aA (pv 1) aE)) rfl) Z.cl G_many (hr.mono (by decide)) aM))),?_⟩
  refine⟨_,rfl,s',dx,_,rfl,h1,dC,_,rfl,s',bd,ch,fi,dx,kb,nm,_,rfl,h1,h2,hn,hv,fun H1 s1=> ?_⟩
  have hB1:=hB.same s1
  obtain⟨dB,b1⟩:=hB1.at_
  obtain⟨dT,t1⟩:=hB1.tab.at_
  exact⟨B.b,CB,dB,_,_,rfl,b1,W.cl,W.n_given,(dH _ _ _ _).1,B.g,dT,_,rfl,t1,jN,B.g,B.r,B.e,B.xs,B.n,B.kvs,rfl,hB1.tab,q H1 s1⟩
def pA(CS CB CT:Addr):Sp:=fun vs H Q _=>∃(s bd ch fi dx:Addr) (kb:List (aB×V)) (nm:Str) (B:BM),vs= [.ref s,.str nm] /\H s=some (.ins CS dx (dP bd ch fi))/\H bd=some (.dK kb)/\Nl nm/\aQ kb (.inr nm:aB)=some (.ref B.b)/\bS CB CT H B/\∀H' l,aD H H'->H l=none->H' l=some (.lst (B.ord.map V.str))->Q (.ref l) H'
theorem a7W:aV ["self","table"] ["self","table"] (aN a1I):=⟨rfl,rfl,rfl,by decide+kernel,rfl,by decide+kernel,by decide+kernel⟩
theorem uH(T:aW K mg){CS CB CT:Addr}(Y:cU K mg CS)(W:bU K mg CB):aL P w K mg base aC 3 CS "columns" ["self","table"] (pA CS CB CT):=by
 have G_of:aL P w K mg base aC 2 CS "board_of" ["self","table"] (qP CS CB CT):=tU T Y
 refine Y.m_columns.known a7W (fun _ _ _ _ _ _ us hl=>dF (fun _ _=>rfl) us hl) (fun vs H Q E h=> ?_) (fun f cdv A outer s H vs Q E hr h=> ?_)
 ·obtain⟨s',bd,ch,fi,dx,kb,nm,B,rfl,_⟩:=h
  rfl
 ·obtain⟨s',bd,ch,fi,dx,kb,nm,B,rfl,h1,h2,hn,hv,hB,q⟩:=h
  refine⟨_,(aI (bA (jR nB rfl T.list iA (aA (aT (bH (pv 0) Y.cl G_of hr aM (aA (pv 1) aE)) rfl) aE)))),?_⟩
  refine⟨_,rfl,s',dx,_,rfl,h1,dC,_,rfl,s',bd,ch,fi,dx,kb,nm,_,rfl,h1,h2,hn,hv,fun H1 s1=> ?_⟩
  obtain⟨dB,b1⟩:=(hB.same s1).at_
  exact⟨B.b,CB,dB,_,_,rfl,b1,W.cl,W.n_order,(dH _ _ _ _).2.2.2,B.od,_,rfl,.inl (aO.of (hB.same s1).ord),fun l hl=>q _ l (s1.trans (aD.new hl)) (dW s1 hl) aJ⟩
end
def oG(s:Addr)(nm:Str):List (Str×V):=[("sheet",V.ref s),("name",V.str nm)]
noncomputable def mF (s:Addr) (nm c:Str) (p:Int):List (Str×V):=[("sheet",V.ref s),("name",V.str nm),("column",V.str c),("place",V.int p)]
theorem uF(s:Addr)(nm:Str):(oG s nm).lookup ("sheet":Str)=some (.ref s)/\(oG s nm).lookup ("name":Str)=some (.str nm):=⟨rfl,rfl⟩
theorem a2w(s:Addr)(nm c:Str)(p:Int):(mF s nm c p).lookup ("name":Str)=some (.str nm)/\(mF s nm c p).lookup ("column":Str)=some (.str c)/\(mF s nm c p).lookup ("place":Str)=some (.int p)/\(mF s nm c p).lookup ("told":Str)=none:=⟨rfl,rfl,rfl,rfl⟩
noncomputable def vM:List Str:=["columns","rows","value_at","spots_at","many","look","shown","spots","asked_row"]
theorem mP(s:Addr)(nm:Str){m:Str}(h:m∈vM):(oG s nm).lookup m=none:=by
 unfold vM at h
 simp only[List.mem_cons,List.not_mem_nil,or_false]at h
 rcases h with rfl|rfl|rfl|rfl|rfl|rfl|rfl|rfl|rfl<;>rfl
section
variable{P:Program}{w:World}{K:Fg}{mg:Str->Option Value}{base:Heap}
def tZ(K:Fg):Sp:=fun vs H Q _=>∃(c:Str) (l:Addr) (cs:List Str),vs= [.str c,.ref l] /\H l=some (.lst (cs.map V.str))/\c∈cs/\Q .non H
theorem a6F:aV ["column","columns"] ["column","columns"] (aN a1K):=⟨rfl,rfl,rfl,by decide+kernel,rfl,by decide+kernel,by decide+kernel⟩
theorem wJ(T:aW K mg):bI P w K mg base aC 1 "check_column" ["column","columns"] (tZ K):=by
 refine T.d_check_column.known a6F (fun _ _ _ _ _ _ us hl=>dF (fun _ _=>rfl) us hl) (fun vs H Q E h=> ?_) (fun f cdv A outer s H vs Q E hr h=> ?_)
 ·obtain⟨c,l,cs,rfl,_⟩:=h
  rfl
 ·obtain⟨c,l,cs,rfl,hl,hc,q⟩:=h
  refine⟨_,(aI (bM (PW.pt (gB (dI (cM (cT jJ rfl T.isinstance iM (aA (pv 0) (aA (iB T.str vJ) aE))) (fun _=>rfl))) (gY (cE rS (pv 0) (pv 1) (by with_unfolding_all rfl))))) (aI cB) bP)),?_⟩
  refine⟨_,rfl,_,"str",.str c,_,rfl,.str c,vF K _,_,rfl,bK ⟨_,rfl,_,rfl,l,_,rfl,.inl (aO.of hl),rfl,lU _,_,rfl,?_⟩⟩
  rw[show (if true=true then !gC (.str c) (cs.map V.str) else gC (.str c) (cs.map V.str))=false by rw[if_pos rfl,mU,decide_eq_true hc];rfl]
  exact bK q
def tV(C:Addr):Sp:=fun vs H Q _=>∃(p dx s:Addr) (nm c:Str) (i:Int),vs= [.ref p,.ref s,.str nm,.str c,.int i] /\H p=some (.ins C dx [])/\∀H',bO p H H'->H' p=some (.ins C dx (mF s nm c i))->Q .non H'
theorem a84:aV ["self","sheet","name","column","place"] ["self","sheet","name","column","place"] (aN a3m):=⟨rfl,rfl,rfl,by decide+kernel,rfl,by decide+kernel,by decide+kernel⟩
theorem a3r(T:aW K mg){C:Addr}(Y:lO K mg C):dJ P w K mg base aC 1 C ["self","sheet","name","column","place"] (tV C):=by
 refine(Y.m_init.known a84 (fun _ _ _ _ _ _ us hl=>wK (fun _ _ _ _ _=>rfl) us hl) (fun vs H Q E h=> ?_) (fun f cdv A outer s H vs Q E hr h=> ?_)).init Y.mks Y.kc
 ·obtain⟨p,dx,s',nm,c,i,rfl,_⟩:=h
  rfl
 ·obtain⟨p,dx,s',nm,c,i,rfl,hp,q⟩:=h
  refine⟨_,(aH (cG (pv 0) (pv 1) rfl)
   (aH (cG (pv 0) (pv 2) rfl)
   (aH (cG (pv 0) (pv 3) rfl)
   (aI (cG (pv 0) (pv 4) rfl))))),?_⟩
  refine⟨_,rfl,_,rfl,p,C,dx,[],rfl,hp,Y.cl,Y.n_sheet,by decide,?_⟩
  refine⟨_,rfl,_,rfl,p,C,dx,_,rfl,aJ,Y.cl,Y.n_name,(show 1<1000 by decide),?_⟩
  refine⟨_,rfl,_,rfl,p,C,dx,_,rfl,aJ,Y.cl,Y.n_column,(show 2<1000 by decide),?_⟩
  refine⟨_,rfl,_,rfl,p,C,dx,_,rfl,aJ,Y.cl,Y.n_place,(show 3<1000 by decide),?_⟩
  exact q _ (((bO.trans bO.upd bO.upd).trans bO.upd).trans bO.upd) aJ
def a2I(C:Addr):Sp:=fun vs H Q _=>∃(p dx s:Addr) (nm c:Str) (i:Int),vs= [.ref p] /\H p=some (.ins C dx (mF s nm c i))/\∀l,H l=none->Q (.ref l) (upd H l (.tup [.str nm,.str c,.int i]))
theorem a4K:aV ["self"] ["self"] (aN a0c):=⟨rfl,rfl,rfl,by decide+kernel,rfl,by decide+kernel,by decide+kernel⟩
theorem a5H(T:aW K mg){C:Addr}(Y:lO K mg C):aL P w K mg base aC 1 C "told" ["self"] (a2I C):=by
 refine Y.m_told.known a4K (fun _ _ _ _ _ _ us hl=>eD (fun _=>rfl) us hl) (fun vs H Q E h=> ?_) (fun f cdv A outer s H vs Q E hr h=> ?_)
 ·obtain⟨p,dx,s',nm,c,i,rfl,_⟩:=h
  rfl
 ·obtain⟨p,dx,s',nm,c,i,rfl,hp,q⟩:=h
  refine⟨_,(aI (bA (fA (aA (aT (pv 0) rfl) (aA (aT (pv 0) rfl) (aA (aT (pv 0) rfl) aE)))))),?_⟩
  obtain⟨o1,o2,o3,_⟩:=a2w s' nm c i
  exact⟨_,rfl,p,C,dx,_,_,rfl,hp,Y.cl,Y.n_name,o1,_,rfl,p,C,dx,_,_,rfl,hp,Y.cl,Y.n_column,o2,_,rfl,p,C,dx,_,_,rfl,hp,Y.cl,Y.n_place,o3,sl,fun l hl=>q l hl⟩
end
theorem sE:Nl "odd":=by unfold Nl;decide+kernel
def PvL(K:Fg)(v:V)(d:PyData):Prop:=∃a,v= .ref a/\d= .tuple [.str "fault",.str "lacks"] /\∀H,bW K H a [.str "fault",.str "lacks"]
def Pw(K:Fg)(H:Hp)(v:V)(d:PyData):Prop:=Pv K H v d\/ oP K v d\/ PvL K v d
theorem yA:Nl "lacks":=by unfold Nl;decide+kernel
theorem Pw.dt{K:Fg}{H:Hp}{v:V}{d:PyData}(h:Pw K H v d):Dt K H v d:=by
 rcases h with h|(⟨i,rfl,rfl,_⟩|⟨a,rfl,rfl,h⟩)|⟨a,rfl,rfl,h⟩
 ·exact h.dt
 ·exact .int i
 ·exact .tup (h H) (.cons (.str _) (.cons (.str _) .nil))
 ·exact .tup (h H) (.cons (.str _) (.cons (.str _) .nil))
theorem Pw.vd{K:Fg}{H:Hp}{v:V}{d:PyData}(h:Pw K H v d):Vd d:=by
 rcases h with h|(⟨i,rfl,rfl,hb⟩|⟨a,rfl,rfl,h⟩)|⟨a,rfl,rfl,h⟩
 ·exact h.vd
 ·exact .inl ⟨i,rfl,hb⟩
 ·exact .inr ⟨_,rfl,sE⟩
 ·exact .inr ⟨_,rfl,yA⟩
theorem Pw.keep{K:Fg}{H H':Hp}{v:V}{d:PyData}(s:bF H H')(h:Pw K H v d):Pw K H' v d:=by
 rcases h with h|h
 ·exact .inl (h.keep s)
 ·exact .inr h
def dZ(K:Fg)(H:Hp):List V->List PyData->Prop:=Paired (Pw K H)
theorem dZ.keep{K:Fg}{H H':Hp}(s:bF H H'):∀{xs:List V} {ds:List PyData},dZ K H xs ds->dZ K H' xs ds
 |_,_,.nil=> .nil
 |_,_,.cons h t=> .cons (h.keep s) (dZ.keep s t)
theorem dZ.dt{K:Fg}{H:Hp}:∀{xs:List V} {ds:List PyData},dZ K H xs ds->dD K H xs ds
 |_,_,.nil=> .nil
 |_,_,.cons h t=> .cons h.dt (dZ.dt t)
theorem dZ.vd{K:Fg}{H:Hp}:∀{xs:List V} {ds:List PyData},dZ K H xs ds->∀d∈ds,Vd d
 |_,_,.nil,_,h=>by cases h
 |_,_,.cons h t,d,hd=>by
  rcases List.mem_cons.mp hd with rfl|hd
  ·exact h.vd
  ·exact dZ.vd t d hd
theorem dZ.snoc{K:Fg}{H:Hp}{v:V}{d:PyData}(h:Pw K H v d):∀{vs:List V} {ds:List PyData},dZ K H vs ds->dZ K H (vs++ [v]) (ds++ [d])
 |_,_,.nil=> .cons h .nil
 |_,_,.cons h' t=> .cons h' (dZ.snoc h t)
theorem dZ.at{K:Fg}{H:Hp}:∀{xs:List V} {ds:List PyData} {i:Nat},dZ K H xs ds->i<ds.length->∃v d,xs[i]?=some v/\ds[i]?=some d/\Pw K H v d
 |_,_,_,.nil,h=>absurd h (Nat.not_lt_zero _)
 |_,_,0,.cons h _,_=>⟨_,_,rfl,rfl,h⟩
 |_,_,i+ 1,.cons _ t,h=>by simpa using dZ.at t (Nat.lt_of_succ_lt_succ h)
theorem Pw.two{K:Fg}{H:Hp}{v:V}{d:PyData}(h:Pw K H v d):(∃i,v= .int i/\d= .int i)\/ ∃y,d= .tuple [.str "fault",.str y] /\Nl y:=by
 rcases h with(⟨i,h1,h2,_⟩|⟨_,y,_,_,h2,hy⟩)|(⟨i,h1,h2,_⟩|⟨_,_,h2,_⟩)|⟨_,_,h2,_⟩
 ·exact .inl ⟨i,h1,h2⟩
 ·exact .inr ⟨y,h2,hy⟩
 ·exact .inl ⟨i,h1,h2⟩
 ·exact .inr ⟨_,h2,sE⟩
 ·exact .inr ⟨_,h2,yA⟩
structure SM where
 ok:Addr->Str->Prop
 cols:Addr->Str->List Str
 many:Addr->Str->Nat
 val:Addr->Str->Str->Nat->PyData
structure bC(Free:Addr->Prop)(H H':Hp):Prop where
 k:∀x o,Free x->H x=some o->H' x=some o
 nn:∀x,H x≠none->H' x≠none
 kt:bF H H'
theorem bC.of{Free:Addr->Prop}{H H':Hp}(s:aD H H'):bC Free H H':=by
 refine⟨fun x o _ e=>s _ _ e,fun x hx e=> ?_,bF.of s⟩
 cases e2:H x with
 |none=>exact hx e2
 |some o=>rw[s _ _ e2]at e;cases e
theorem bC.trans{Free:Addr->Prop}{H H1 H2:Hp}(a:bC Free H H1)(b:bC Free H1 H2):bC Free H H2:=⟨fun x o f e=>b.k x o f (a.k x o f e),fun x hx=>b.nn x (a.nn x hx),a.kt.trans b.kt⟩
theorem bC.on{Free:Addr->Prop}{H H2:Hp}{l:Addr}{o:HO}(a:bC Free H H2)(h:H l=none):bC Free H (upd H2 l o):=by
 refine⟨fun x o' f e=> ?_,fun x hx e=> ?_,fun x xs e=> ?_⟩
 ·rw[aG (fun y=>by rw[y,h]at e;cases e)]
  exact a.k x o' f e
 ·rw[aG (fun y=>hx (by rw[y];exact h))]at e
  exact a.nn x hx e
 ·rw[aG (fun y=>by rw[y,h]at e;cases e)]
  exact a.kt x xs e
theorem bC.back{Free:Addr->Prop}{H H':Hp}{x:Addr}(a:bC Free H H')(h:H' x=none):H x=none:=by
 cases e:H x with
 |none=>rfl
 |some o=>exact absurd h (a.nn x (by rw[e];exact fun y=>by cases y))
structure VC where
 M:SM
 Free:Addr->Prop
 Inv:Hp->Prop
noncomputable def eL (rs:List Nat):List V:=rs.map fun(r:Nat)=>V.int (r:Int)
theorem nX(rs:List Nat):(eL rs).length=rs.length:=List.length_map _
theorem wN{rs:List Nat}{i:Nat}{x:V}(h:(eL rs)[i]?=some x):∃r,rs[i]?=some r/\x= .int (r:Int):=by
 unfold eL at h
 rw[List.getElem?_map]at h
 obtain⟨r,h1,h2⟩:=Option.map_eq_some_iff.mp h
 exact⟨r,h1,h2.symm⟩
theorem a8l(m:Nat):dA 0 m=eL (List.range m):=by
 unfold dA eL
 exact List.map_congr_left fun x _=>by simp
section
variable{P:Program}{w:World}{K:Fg}{mg:Str->Option Value}{base:Heap}
structure SI(K:Fg)(CS CF CB CT:Addr)(spA:Sp)(X:VC):Prop where
 same:∀{H H':Hp},X.Inv H->aD H H'->X.Inv H'
 new:∀{H:Hp} {x:Addr},X.Inv H->H x=none->X.Free x
 on:∀{H H2:Hp} {l:Addr} {o:HO} {ys:List V},X.Inv H->H l=none->X.Inv H2->H2 l=some (.lst ys)->X.Inv (upd H2 l o)
 sh:∀{s:Addr} {nm:Str},X.M.ok s nm->∃(bd ch fi:Addr) (kb:List (aB×V)) (B:BM),(∀H,X.Inv H->iV CS CB CT s bd ch fi kb nm B H)/\B.xs.length=X.M.many s nm/\B.ord=X.M.cols s nm
 nb:∀{s:Addr} {nm:Str},X.M.ok s nm->Nl nm/\X.M.many s nm<=30/\(X.M.cols s nm).length<=30/\∀c∈X.M.cols s nm,Nl c
 cel:∀{H:Hp} {s:Addr} {nm c:Str} {p:Nat} {Q:VK},X.Inv H->X.M.ok s nm->c∈X.M.cols s nm->p<X.M.many s nm->(∀H' v,X.Inv H'->bC X.Free H H'->Pw K H' v (X.M.val s nm c p)->Q v H')->iI CS CF CB CT (gN CF spA) [.ref s,.str nm,.str c,.int (p:Int)] H Q E0
theorem SI.at_{CS CF CB CT:Addr}{spA:Sp}{X:VC}(I:SI K CS CF CB CT spA X){H:Hp}{s:Addr}{nm:Str}(hI:X.Inv H)(ok:X.M.ok s nm):∃dx bd ch fi,H s=some (.ins CS dx (dP bd ch fi)):=by
 obtain⟨bd,ch,fi,kb,B,h,_⟩:=I.sh ok
 obtain⟨⟨dx,e⟩,_⟩:=h H hI
 exact⟨dx,bd,ch,fi,e⟩
theorem SI.cols{CS CF CB CT:Addr}{spA:Sp}{X:VC}(I:SI K CS CF CB CT spA X){H:Hp}{s:Addr}{nm:Str}{Q:VK}(hI:X.Inv H)(ok:X.M.ok s nm)(q:∀H' l,aD H H'->H l=none->H' l=some (.lst ((X.M.cols s nm).map V.str))->Q (.ref l) H'):pA CS CB CT [.ref s,.str nm] H Q E0:=by
 obtain⟨bd,ch,fi,kb,B,h,_,hc⟩:=I.sh ok
 obtain⟨⟨dx,e⟩,e2,e3,e4,e5⟩:=h H hI
 exact⟨s,bd,ch,fi,dx,kb,nm,B,rfl,e,e2,e3,e4,e5,fun H' l s1 hl e1=>q H' l s1 hl (by rw[<- hc];exact e1)⟩
def lX(CW:Addr)(X:VC)(H:Hp)(a s:Addr)(nm:Str):Prop:=X.Free a/\X.M.ok s nm/\∃dx,H a=some (.ins CW dx (oG s nm))
theorem lX.fr{CW:Addr}{X:VC}{H H':Hp}{a s:Addr}{nm:Str}(u:bC X.Free H H')(h:lX CW X H a s nm):lX CW X H' a s nm:=⟨h.1,h.2.1,h.2.2.imp fun _ e=>u.k _ _ h.1 e⟩
variable{CS CF CB CT CW CO:Addr}{spA:Sp}
def sI(K:Fg)(CS CF CB CT CW:Addr)(spA:Sp):Sp:=fun vs H Q _=>∃(X:VC) (a s:Addr) (nm:Str),vs= [.ref a] /\SI K CS CF CB CT spA X/\lX CW X H a s nm/\X.Inv H/\∀H' l,aD H H'->H l=none->H' l=some (.lst ((X.M.cols s nm).map V.str))->Q (.ref l) H'
theorem a4H:aV ["self"] ["self"] (aN a0F):=⟨rfl,rfl,rfl,by decide+kernel,rfl,by decide+kernel,by decide+kernel⟩
theorem yG(T:aW K mg)(Y:cU K mg CS)(Wb:bU K mg CB)(W:fM K mg CW):aL P w K mg base aC 4 CW "columns" ["self"] (sI K CS CF CB CT CW spA):=by
 have G:aL P w K mg base aC 3 CS "columns" ["self","table"] (pA CS CB CT):=uH T Y Wb
 refine W.m_columns.known a4H (fun _ _ _ _ _ _ us hl=>eD (fun _=>rfl) us hl) (fun vs H Q E h=> ?_) (fun f cdv A outer s H vs Q E hr h=> ?_)
 ·obtain⟨X,a,s',nm,rfl,_⟩:=h
  rfl
 ·obtain⟨X,a,s',nm,rfl,I,⟨_,ok,dx,e⟩,hI,q⟩:=h
  refine⟨_,(aI (bA (bH (aT (pv 0) rfl) Y.cl G hr aM (aA (aT (pv 0) rfl) aE)))),?_⟩
  obtain⟨ds,bd,ch,fi,hs'⟩:=I.at_ hI ok
  obtain⟨w1,w2⟩:=uF s' nm
  exact⟨_,rfl,a,CW,dx,_,_,rfl,e,W.cl,W.n_sheet,w1,s',ds,_,rfl,hs',dC,_,rfl,a,CW,dx,_,_,rfl,e,W.cl,W.n_name,w2,I.cols hI ok q⟩
def a1g(K:Fg)(CS CF CB CT CW:Addr)(spA:Sp):Sp:=fun vs H Q _=>∃(X:VC) (a s:Addr) (nm:Str),vs= [.ref a] /\SI K CS CF CB CT spA X/\lX CW X H a s nm/\X.Inv H/\∀H' l,aD H H'->H l=none->H' l=some (.lst (eL (List.range (X.M.many s nm))))->Q (.ref l) H'
theorem a7m:aV ["self"] ["self"] (aN a3M):=⟨rfl,rfl,rfl,by decide+kernel,rfl,by decide+kernel,by decide+kernel⟩
theorem a6T(T:aW K mg)(Y:cU K mg CS)(Wb:bU K mg CB)(U:cI K mg CT)(W:fM K mg CW):aL P w K mg base aC 4 CW "rows" ["self"] (a1g K CS CF CB CT CW spA):=by
 have G:aL P w K mg base aC 3 CS "many" ["self","table"] (tD CS CB CT):=xR T Y Wb U
 refine W.m_rows.known a7m (fun _ _ _ _ _ _ us hl=>eD (fun _=>rfl) us hl) (fun vs H Q E h=> ?_) (fun f cdv A outer s H vs Q E hr h=> ?_)
 ·obtain⟨X,a,s',nm,rfl,_⟩:=h
  rfl
 ·obtain⟨X,a,s',nm,rfl,I,⟨_,ok,dx,e⟩,hI,q⟩:=h
  have b1:=(I.nb ok).2.1
  refine⟨_,(aI (bA (jR (a2Q rfl) rfl T.list iA (aA (jR a0D rfl T.range zS (aA (bH (aT (pv 0) rfl) Y.cl G hr aM (aA (aT (pv 0) rfl) aE)) aE)) aE)))),?_⟩
  obtain⟨bd,ch,fi,kb,B,hSh,lx,_⟩:=I.sh ok
  obtain⟨⟨ds,hs'⟩,e2,e3,e4,e5⟩:=hSh H hI
  obtain⟨w1,w2⟩:=uF s' nm
  refine⟨_,rfl,a,CW,dx,_,_,rfl,e,W.cl,W.n_sheet,w1,s',ds,_,rfl,hs',dC,_,rfl,a,CW,dx,_,_,rfl,e,W.cl,W.n_name,w2,s',bd,ch,fi,ds,kb,nm,B,rfl,hs',e2,e3,e4,e5,fun H1 s1=> ?_⟩
  rw[lx]
  refine⟨(X.M.many s' nm:Int),rfl,fun g hg=>⟨g,0,(X.M.many s' nm:Int),rfl,aJ,by omega,by omega,by omega,by omega,by omega,fun l hl=> ?_⟩⟩
  rw[Int.sub_zero,Int.toNat_natCast]
  have sg:=s1.trans (aD.new (o:=.rng 0 (X.M.many s' nm:Int)) hg)
  exact q _ l (sg.trans (aD.new (o:=.lst (dA 0 (X.M.many s' nm))) hl)) (dW sg hl) (by rw[aJ,a8l])
def vK(K:Fg)(CS CF CB CT CW:Addr)(spA:Sp):Sp:=fun vs H Q _=>∃(X:VC) (a s:Addr) (nm c:Str) (p:Nat),vs= [.ref a,.str c,.int (p:Int)] /\SI K CS CF CB CT spA X/\lX CW X H a s nm/\X.Inv H/\c∈X.M.cols s nm/\p<X.M.many s nm/\∀H' y,X.Inv H'->bC X.Free H H'->Pw K H' y (X.M.val s nm c p)->Q y H'
theorem a5a:aV ["self","column","row"] ["self","column","row"] (aN a0f):=⟨rfl,rfl,rfl,by decide+kernel,rfl,by decide+kernel,by decide+kernel⟩
theorem a1h(Y:cU K mg CS)(W:fM K mg CW)(G:aL P w K mg base aC 12 CS "cell" ["self","table","column","place"] (iI CS CF CB CT (gN CF spA))):aL P w K mg base aC 13 CW "value_at" ["self","column","row"] (vK K CS CF CB CT CW spA):=by
 refine W.m_value_at.known a5a (fun _ _ _ _ _ _ us hl=>eM (fun _ _ _=>rfl) us hl) (fun vs H Q E h=> ?_) (fun f cdv A outer s H vs Q E hr h=> ?_)
 ·obtain⟨X,a,s',nm,c,p,rfl,_⟩:=h
  rfl
 ·obtain⟨X,a,s',nm,c,p,rfl,I,⟨_,ok,dx,e⟩,hI,hc,hp,q⟩:=h
  refine⟨_,(aI (bA (bH (aT (pv 0) rfl) Y.cl G hr aM (aA (aT (pv 0) rfl) (aA (pv 1) (aA (pv 2) aE)))))),?_⟩
  obtain⟨ds,bd,ch,fi,hs'⟩:=I.at_ hI ok
  obtain⟨w1,w2⟩:=uF s' nm
  exact⟨_,rfl,a,CW,dx,_,_,rfl,e,W.cl,W.n_sheet,w1,s',ds,_,rfl,hs',dC,_,rfl,a,CW,dx,_,_,rfl,e,W.cl,W.n_name,w2,_,rfl,_,rfl,I.cel hI ok hc hp q⟩
def a2g(K:Fg)(CW CO:Addr):Sp:=fun vs H Q _=>∃(a dx s:Addr) (nm c:Str) (p:Nat),vs= [.ref a,.str c,.int (p:Int)] /\H a=some (.ins CW dx (oG s nm))/\∀H' l o dx,aD H H'->H l=none->H' l=some (.lst [.ref o])->H' o=some (.ins CO dx (mF s nm c (p:Int)))->Q (.ref l) H'
theorem a4r:aV ["self","column","row"] ["self","column","row"] (aN a3o):=⟨rfl,rfl,rfl,by decide+kernel,rfl,by decide+kernel,by decide+kernel⟩
theorem a6R(T:aW K mg)(W:fM K mg CW)(O:lO K mg CO):aL P w K mg base aC 3 CW "spots_at" ["self","column","row"] (a2g K CW CO):=by
 have GI:dJ P w K mg base aC 1 CO ["self","sheet","name","column","place"] (tV CO):=a3r T O
 refine W.m_spots_at.known a4r (fun _ _ _ _ _ _ us hl=>eM (fun _ _ _=>rfl) us hl) (fun vs H Q E h=> ?_) (fun f cdv A outer s H vs Q E hr h=> ?_)
 ·obtain⟨a,dx,s',nm,c,p,rfl,_⟩:=h
  rfl
 ·obtain⟨a,dx,s',nm,c,p,rfl,e,q⟩:=h
  refine⟨_,(aI (bA (fW (aA (jC GI hr O.c aM (aA (aT (pv 0) rfl) (aA (aT (pv 0) rfl) (aA (pv 1) (aA (pv 2) aE))))) aE)))),?_⟩
  obtain⟨w1,w2⟩:=uF s' nm
  refine⟨_,rfl,a,CW,dx,_,_,rfl,e,W.cl,W.n_sheet,w1,_,rfl,a,CW,dx,_,_,rfl,e,W.cl,W.n_name,w2,_,rfl,_,rfl,?_⟩
  intro o d0 ho hd0 ne
  refine⟨o,d0,s',nm,c,(p:Int),rfl,aJ,fun H1 b1 e1=>⟨rfl,sl,fun l hl=> ?_⟩⟩
  have s1:aD H H1:=fun x o' e=>b1 _ _ (aX e ho) (by rw[aG (aX e ho),aG (aX e hd0)];exact e)
  have s2:=aD.new (o:=.lst [.ref o]) hl
  exact q _ l o d0 (s1.trans s2) (dW s1 hl) aJ (s2 _ _ e1)
def spWI(K:Fg)(CS CF CB CT CW:Addr)(spA:Sp):Sp:=fun vs H Q _=>∃(X:VC) (p dx s:Addr) (nm:Str),vs= [.ref p,.ref s,.str nm] /\SI K CS CF CB CT spA X/\H p=some (.ins CW dx [])/\X.Inv H/\X.M.ok s nm/\∀H',bO p H H'->H' p=some (.ins CW dx (oG s nm))->Q .non H'
theorem a8P:aV ["self","sheet","table"] ["self","sheet","table"] (aN a2c):=⟨rfl,rfl,rfl,by decide+kernel,rfl,by decide+kernel,by decide+kernel⟩
theorem a5R(T:aW K mg)(Y:cU K mg CS)(Wb:bU K mg CB)(U:cI K mg CT)(W:fM K mg CW):dJ P w K mg base aC 4 CW ["self","sheet","table"] (spWI K CS CF CB CT CW spA):=by
 have G:aL P w K mg base aC 3 CS "many" ["self","table"] (tD CS CB CT):=xR T Y Wb U
 refine(W.m_init.known a8P (fun _ _ _ _ _ _ us hl=>eM (fun _ _ _=>rfl) us hl) (fun vs H Q E h=> ?_) (fun f cdv A outer s H vs Q E hr h=> ?_)).init W.mks W.kc
 ·obtain⟨X,p,dx,s',nm,rfl,_⟩:=h
  rfl
 ·obtain⟨X,p,dx,s',nm,rfl,I,hp,hI,ok,q⟩:=h
  refine⟨_,(aH (cC (bH (pv 1) Y.cl G hr aM (aA (pv 2) aE)))
   (aH (cG (pv 0) (pv 1) rfl)
   (aI (cG (pv 0) (pv 2) rfl)))),?_⟩
  obtain⟨bd,ch,fi,kb,B,hSh,lx,_⟩:=I.sh ok
  obtain⟨⟨ds,hs'⟩,e2,e3,e4,e5⟩:=hSh H hI
  refine⟨_,rfl,s',ds,_,rfl,hs',dC,_,rfl,s',bd,ch,fi,ds,kb,nm,B,rfl,hs',e2,e3,e4,e5,fun H1 s1=> ?_⟩
  refine⟨_,rfl,_,rfl,p,CW,dx,[],rfl,s1 _ _ hp,W.cl,W.n_sheet,by decide,?_⟩
  refine⟨_,rfl,_,rfl,p,CW,dx,_,rfl,aJ,W.cl,W.n_name,(show 1<1000 by decide),?_⟩
  exact q _ (((bO.of s1).trans bO.upd).trans bO.upd) aJ
def nR(K:Fg)(CS CF CB CT:Addr)(spA:Sp):Sp:=fun vs H Q _=>∃(X:VC) (s:Addr) (nm c:Str),vs= [.ref s,.str nm,.str c,.int 0,.int (X.M.many s nm:Int)] /\SI K CS CF CB CT spA X/\X.Inv H/\X.M.ok s nm/\c∈X.M.cols s nm/\
 ∀H' l ys,X.Inv H'->bC X.Free H H'->H l=none->H' l=some (.lst ys)->dZ K H' ys ((List.range (X.M.many s nm)).map (X.M.val s nm c))->Q (.ref l) H'
abbrev sJ:List Str:=["self","table","column","start","end","many"]
theorem a25:aV sJ ["self","table","column","start","end"] (aN qW):=⟨rfl,rfl,rfl,by decide+kernel,rfl,by decide+kernel,by decide+kernel⟩
theorem a7G(T:aW K mg)(Y:cU K mg CS)(F:eW K mg CF)(Wb:bU K mg CB)(U:cI K mg CT)(G:aL P w K mg base aC 11 CF "value_of" ["self","cell"] (gN CF spA)):aL P w K mg base aC 12 CS "stretch" ["self","table","column","start","end"] (nR K CS CF CB CT spA):=by
 have G_is_whole:bI P w K mg base aC 1 "is_whole" ["thing"] (rT K):=uV T
 have G_with:aL P w K mg base aC 3 CS "board_with" ["self","table","column"] (xA CS CB CT):=a0p T Y Wb
 have G_many:aL P w K mg base aC 1 CT "many" ["self"] (lL CT):=mW T U
 refine Y.m_stretch.known a25 (fun _ _ _ _ _ _ us hl=>wK (fun _ _ _ _ _=>rfl) us hl) (fun vs H Q E h=> ?_) (fun f cdv A outer s H vs Q E hr h=> ?_)
 ·obtain⟨X,s',nm,c,rfl,_⟩:=h
  rfl
 ·obtain⟨X,s',nm,c,rfl,I,hI,ok,hc,q⟩:=h
  have hcl:∀x,(cY aC P w K mg base sJ "Sheet.stretch" (aN qW) f cdv A outer s H E).nox.env.scope.names.lookup x=some .cell->∃c,(cY aC P w K mg base sJ "Sheet.stretch" (aN qW) f cdv A outer s H E).nox.env.cells.lookup x=some c:=fun x hx=>Option.isSome_iff_exists.mp (PySem.W.cellsFrom_some _ _ _ (.inl hx))
  refine⟨_,(aH (bR (i:=5) a25.nd rfl (by first|exact Or.inl rfl|exact Or.inr rfl) (eO (aT (bH (pv 0) Y.cl G_with (hr.mono (by omega)) aM (aA (pv 1) (aA (pv 2) aE))) rfl) U.cl G_many (hr.mono (by omega)) aM))
   (aH (bM (PW.pt (gB (dI (cM (bQ G_is_whole (hr.mono (by omega)) aM (aA (pv 3) aE)) (fun _=>rfl))) (gB (dI (cM (bQ G_is_whole (hr.mono (by omega)) aM (aA (pv 4) aE)) (fun _=>rfl))) (gY (dI (a5O mG mG mG bJ (pv 3) (pv 4) (pv 5))))))) (aI cB) bP)
   (aI (bA (kY (te:=pZ CF "value_of" (gN CF spA) [] E0 (pX K (fN 3) "finder") (jA (xU (jA (fN 1) (jA (fN 2) (jA (fN 0) kT)))) kT)) (iY (sc:=aN qW) (N:=sJ) (cp:=[(1,"table"),(2,"column"),(0,"self")]) hcl) rfl rfl (by decide) (a4t rfl T.range (aA (pv 3) (aA (pv 4) aE))) (fun _ _ _ _ _=>jT) (fun _ _ _ _ _=>(bH (aT (pv 3) rfl) F.cl G hr aM (aA (fA (aA (pv 1) (aA (pv 2) (aA (pv 0) aE)))) aE)))))))),?_⟩
  obtain⟨bd,ch,fi,kb,B,hSh,lx,oc⟩:=I.sh ok
  obtain⟨nnm,m30,_,ncs⟩:=I.nb ok
  obtain⟨⟨dx,hs⟩,hbd,nn,hv,hB⟩:=hSh H hI
  refine⟨_,rfl,s',dx,_,rfl,hs,dC,_,rfl,_,rfl,s',bd,ch,fi,dx,kb,nm,c,B,rfl,hs,hbd,nn,hv,hB,ncs c hc,by rw[oc];exact hc,fun H1 s1=> ?_⟩
  obtain⟨dB,hb⟩:=hB.at_
  obtain⟨dT,hT⟩:=hB.tab.at_
  refine⟨B.b,CB,dB,_,_,rfl,s1 _ _ hb,Wb.cl,Wb.n_given,(dH _ _ _ _).1,B.g,dT,_,rfl,s1 _ _ hT,jN,B.g,B.r,B.e,B.xs,B.n,B.kvs,rfl,hB.tab.same s1,?_⟩
  have i1:=I.same hI s1
  rw[lx]
  generalize hm:X.M.many s' nm=m at m30 q|-
  refine⟨_,rfl,_,.int 0,rfl,.int _,_,rfl,bK ⟨_,rfl,_,.int (m:Int),rfl,.int _,_,rfl,bK ?_⟩⟩
  refine⟨_,rfl,_,_,rfl,rfl,_,rfl,cD ⟨_,rfl,_,_,rfl,rfl,_,rfl,?_⟩⟩
  rw[decide_eq_true (show(0:Int)<=(m:Int)by omega)]
  refine cD ⟨_,rfl,_,_,rfl,rfl,_,rfl,?_⟩
  rw[decide_eq_true (show(m:Int)<=(m:Int) from Int.le_refl _)]
  refine bK ?_
  refine⟨_,rfl,_,rfl,0,(m:Int),rfl,⟨by omega,by omega,by omega,by omega⟩,fun D hD=> ?_⟩
  rw[Int.sub_zero,Int.toNat_natCast]
  refine a8w (lo:=0) (n:=m) (fun i ys H2=>X.Inv H2/\bC X.Free H1 H2/\ys.length=i/\dZ K H2 ys ((List.range i).map (X.M.val s' nm c))) ⟨I.same i1 (aD.new hD),bC.of (aD.new hD),rfl,.nil⟩ ?_ ?_
  ·rintro i ys H2 hi h2 ⟨i2,f2,l2,py⟩
   rw[Int.zero_add]
   obtain⟨⟨dx2,hs2⟩,_⟩:=hSh H2 i2
   have hp:=I.cel (H:=H2) (p:=i) (Q:=kU D (fun i ys H2=>X.Inv H2/\bC X.Free H1 H2/\ys.length=i/\dZ K H2 ys ((List.range i).map (X.M.val s' nm c))) i ys) i2 ok hc (by rw[hm];exact hi) fun H3 v i3 f3 pv=>by
    have h3D:=f3.k _ _ (I.new i1 hD) h2
    have kt:bF H3 (upd H3 D (.lst (ys++ [v]))):=fun b xs eb=>by
     rw[aG (fun z=>by rw[z,h3D]at eb;cases eb)]
     exact eb
    refine⟨h3D,cQ (by omega),I.on i1 hD i3 h3D,(f2.trans f3).on hD,by rw[List.length_append,l2];rfl,?_⟩
    rw[List.range_succ,List.map_append]
    exact dZ.snoc (pv.keep kt) ((py.keep f3.kt).keep kt)
   obtain⟨sa,bda,cha,fia,dfa,kba,nma,ca,pa,Ba,fsa,ea,hSa,_,_,_,hfa,hna,qa⟩:=hp
   injection ea with e1 ea
   injection ea with e2 ea
   injection ea with e3 ea
   injection ea with e4 ea
   injection e1 with e1
   injection e2 with e2
   injection e3 with e3
   injection e4 with e4
   obtain rfl:i=pa:=by omega
   subst e1 e2 e3
   obtain⟨⟨dxa,hsa⟩,_⟩:=hSa
   exact⟨_,rfl,s',CS,dxa,_,_,rfl,hsa,Y.cl,Y.n_finder,(kX _ _ _).2.2.1,fia,dfa,fsa,rfl,hfa,hna,_,rfl,_,rfl,_,rfl,sl,fun ce hce=>qa _ ce hce (aD.new hce) aJ⟩
  ·rintro ys H2 h2 ⟨i2,f2,l2,py⟩
   exact q H2 D ys i2 ((bC.of s1).trans f2) (dW s1 hD) h2 py
end
structure BV where
 b:Addr
 a:Addr
 s0:Addr
 t0:Str
 key:Str
 s1:Addr
 t1:Str
 th:Str
def gJ(v:BV):List (Str×V):=[("view",V.ref v.a),("key",V.str v.key),("sheet",V.ref v.s1),("name",V.str v.t1),("theirs",V.str v.th)]
theorem oX(v:BV):(gJ v).lookup ("view":Str)=some (.ref v.a)/\(gJ v).lookup ("key":Str)=some (.str v.key)/\(gJ v).lookup ("sheet":Str)=some (.ref v.s1)/\(gJ v).lookup ("name":Str)=some (.str v.t1)/\(gJ v).lookup ("theirs":Str)=some (.str v.th):=⟨rfl,rfl,rfl,rfl,rfl⟩
theorem gA(v:BV){m:Str}(h:m∈vM++ (["is_theirs","matching"]:List Str)):(gJ v).lookup m=none:=by
 unfold vM at h
 simp only[List.cons_append,List.nil_append,List.mem_cons,List.not_mem_nil,or_false]at h
 rcases h with rfl|rfl|rfl|rfl|rfl|rfl|rfl|rfl|rfl|rfl|rfl<;>rfl
def eS(nm c:Str):Str:=nm++ "." ++ c
structure gK(CW CE:Addr)(X:VC)(H:Hp)(v:BV):Prop where
 fr:X.Free v.b
 wh:lX CW X H v.a v.s0 v.t0
 ok:X.M.ok v.s1 v.t1
 ky:v.key∈X.M.cols v.s0 v.t0
 th:v.th∈X.M.cols v.s1 v.t1
 at_:∃dx,H v.b=some (.ins CE dx (gJ v))
 dis:∀c∈X.M.cols v.s1 v.t1,eS v.t1 c∉X.M.cols v.s0 v.t0
 prt:∀c∈X.M.cols v.s1 v.t1,(eS v.t1 c).length<=20/\∃i r,Builtin.Str.occurrences (eS v.t1 c) "." 0 (eS v.t1 c).length 1=i::r/\Builtin.Str.strSub (eS v.t1 c) (i+ (".":Str).length) (eS v.t1 c).length=c
theorem gK.mv{CW CE:Addr}{X:VC}{H H':Hp}{v:BV}(u:bC X.Free H H')(h:gK CW CE X H v):gK CW CE X H' v:=⟨h.fr,h.wh.fr u,h.ok,h.ky,h.th,h.at_.imp fun _ e=>u.k _ _ h.fr e,h.dis,h.prt⟩
noncomputable def kM (X:VC) (v:BV):List Str:=X.M.cols v.s0 v.t0++ (X.M.cols v.s1 v.t1).map (eS v.t1)
inductive BC where
 |own(c:Str)
 |their(c:Str)
def BC.nm(v:BV):BC->Str
 | .own c=>c
 | .their c=>eS v.t1 c
def BC.ok(X:VC)(v:BV):BC->Prop
 | .own c=>c∈X.M.cols v.s0 v.t0
 | .their c=>c∈X.M.cols v.s1 v.t1
def BC.th:BC->Bool
 | .own _=>false
 | .their _=>true
theorem BC.ok.mem{X:VC}{v:BV}:∀{k:BC},k.ok X v->k.nm v∈kM X v
 | .own _,h=>List.mem_append_left _ h
 | .their c,h=>List.mem_append_right _ (List.mem_map.mpr ⟨c,h,rfl⟩)
noncomputable def eQ (i:Int):PyData->Bool
 | .int j=>decide (j=i)
 |_=>false
noncomputable def fK (X:VC) (v:BV):PyData->List Nat
 | .int i=>(List.range (X.M.many v.s1 v.t1)).filter fun q=>eQ i (X.M.val v.s1 v.t1 v.th q)
 |_=> []
noncomputable def yW (X:VC) (v:BV) (c:Str) (d:PyData):PyData:=match d with
 | .int _=>(match fK X v d with| []=> .tuple [.str "fault",.str "lacks"]|q::_=>X.M.val v.s1 v.t1 c q)
 |_=>d
noncomputable def kN (X:VC) (v:BV) (p:Nat):BC->PyData
 | .own c=>X.M.val v.s0 v.t0 c p
 | .their c=>yW X v c (X.M.val v.s0 v.t0 v.key p)
noncomputable def nK (X:VC) (v:BV) (p:Nat):BC->List (Addr×Str×Str×Nat)
 | .own c=> [(v.s0,v.t0,c,p)]
 | .their c=>(fK X v (X.M.val v.s0 v.t0 v.key p)).map fun q=>(v.s1,v.t1,c,q)
theorem a0X{X:VC}{v:BV}{d:PyData}{q:Nat}(h:q∈fK X v d):q<X.M.many v.s1 v.t1:=by
 unfold fK at h
 split at h
 ·exact List.mem_range.mp (List.mem_filter.mp h).1
 ·cases h
theorem zG{X:VC}{v:BV}{d:PyData}:(fK X v d).length<=X.M.many v.s1 v.t1:=by
 unfold fK
 split
 ·exact Nat.le_trans (List.length_filter_le _ _) (by rw[List.length_range];exact Nat.le_refl _)
 ·exact Nat.zero_le _
section
variable{P:Program}{w:World}{K:Fg}{mg:Str->Option Value}{base:Heap}{CS CF CB CT CW CO CE:Addr}{spA:Sp}
def rG(K:Fg)(CS CF CB CT CW CE:Addr)(spA:Sp):Sp:=fun vs H Q _=>∃(X:VC) (v:BV),vs= [.ref v.b] /\SI K CS CF CB CT spA X/\gK CW CE X H v/\X.Inv H/\∀H' l,aD H H'->H l=none->H' l=some (.lst ((kM X v).map V.str))->Q (.ref l) H'
theorem a8E:aV ["self"] ["self"] (aN rN):=⟨rfl,rfl,rfl,by decide+kernel,rfl,by decide+kernel,by decide+kernel⟩
theorem tS(T:aW K mg)(Y:cU K mg CS)(Wb:bU K mg CB)(W:fM K mg CW)(Z:gG K mg CE):aL P w K mg base aC 5 CE "columns" ["self"] (rG K CS CF CB CT CW CE spA):=by
 have G:aL P w K mg base aC 3 CS "columns" ["self","table"] (pA CS CB CT):=uH T Y Wb
 have GW:aL P w K mg base aC 4 CW "columns" ["self"] (sI K CS CF CB CT CW spA):=yG T Y Wb W
 refine Z.m_columns.known a8E (fun _ _ _ _ _ _ us hl=>eD (fun _=>rfl) us hl) (fun vs H Q E h=> ?_) (fun f cdv A outer s1 H vs Q E hr h=> ?_)
 ·obtain⟨X,v,rfl,_⟩:=h
  rfl
 ·obtain⟨X,v,rfl,I,hA,hI,q⟩:=h
  obtain⟨dx,e⟩:=hA.at_
  obtain⟨b1,b2,b3,b4,b5⟩:=oX v
  obtain⟨_,_,dw,ew⟩:=id hA.wh
  obtain⟨nn1,mm1,cc1,nc1⟩:=I.nb hA.ok
  obtain⟨nn0,mm0,cc0,nc0⟩:=I.nb hA.wh.2.1
  have hcl:∀x,(cY aC P w K mg base ["self"] "Beside.columns" (aN rN) f cdv A outer s1 H E).nox.env.scope.names.lookup x=some .cell->∃c,(cY aC P w K mg base ["self"] "Beside.columns" (aN rN) f cdv A outer s1 H E).nox.env.cells.lookup x=some c:=fun x hx=>Option.isSome_iff_exists.mp (PySem.W.cellsFrom_some _ _ _ (.inl hx))
  refine⟨_,(aI (bA (bY a7u (eO (aT (pv 0) rfl) W.cl GW hr aM) (kY (te:=lY (fun x y H Q=>∃i j,x= .str i/\y= .str j/\i.length+ j.length<=sizeLine/\Q (.str (i++ j)) H) (lY (fun x y H Q=>∃i j,x= .str i/\y= .str j/\i.length+ j.length<=sizeLine/\Q (.str (i++ j)) H) (pX K (fN 1) "name") _) (fN 0)) (iY (sc:=aN rN) (N:=["self"]) (cp:=[(0,"self")]) hcl) rfl rfl (by decide) (fX (bH (aT (pv 0) rfl) Y.cl G (hr.mono (by decide)) aM (aA (aT (pv 0) rfl) aE))) (fun _ _ _ _ _=>jT) (fun _ _ _ _ _=>(bY kK (bY kK (aT (pv 1) rfl) cF) (pv 0))))))),?_⟩
  refine⟨_,rfl,v.b,CE,dx,_,_,rfl,e,Z.cl,Z.n_view,b1,v.a,dw,_,rfl,ew,mP _ _ (by decide+kernel),X,v.a,v.s0,v.t0,rfl,I,hA.wh,hI,fun H1 l1 s1 hl1 e1=> ?_⟩
  have i1:=I.same hI s1
  have e':=s1 _ _ e
  obtain⟨bd,ch,fi,kb,B,hSh,_,oc⟩:=I.sh hA.ok
  obtain⟨⟨ds,hs⟩,hbd,hnm,hkb,hB⟩:=hSh H1 i1
  refine⟨_,rfl,v.b,CE,dx,_,_,rfl,e',Z.cl,Z.n_sheet,b3,v.s1,ds,_,rfl,hs,dC,_,rfl,v.b,CE,dx,_,_,rfl,e',Z.cl,Z.n_name,b4,v.s1,bd,ch,fi,ds,kb,v.t1,B,rfl,hs,hbd,hnm,hkb,hB,fun H2 l2 s2 hl2 e2=> ?_⟩
  rw[oc]at e2
  have e'':=s2 _ _ e'
  have e1':=s2 _ _ e1
  refine⟨l2,rfl,⟨_,aO.of e2⟩,fun D hD=> ?_⟩
  refine kI (K:=K) (a:=l2) (xs:=(X.M.cols v.s1 v.t1).map V.str) (fun i ys H3=>aD H2 H3/\ys=(((X.M.cols v.s1 v.t1).take i).map (eS v.t1)).map V.str) ⟨aD.new hD,rfl⟩ (fun i ys H3 _ h=>aO.of (h.1 _ _ e2)) ?_ ?_
  ·rintro i z ys H3 hz h3 ⟨s3,rfl⟩
   rw[List.getElem?_map]at hz
   cases ec:(X.M.cols v.s1 v.t1)[i]? with
   |none=>rw[ec]at hz;cases hz
   |some c=>
    rw[ec]at hz
    obtain rfl:=Option.some.inj hz
    have l1':=nn1.2.1
    have l2':=(nc1 c (List.mem_of_getElem? ec)).2.1
    have hi:i<(X.M.cols v.s1 v.t1).length:=(List.getElem?_eq_some_iff.mp ec).1
    have d1:(".":Str).length=1:=by decide+kernel
    have d2:(v.t1++ (".":Str)).length=v.t1.length+ 1:=by rw[Str.length_append,d1]
    refine⟨_,rfl,v.b,CE,dx,_,_,rfl,s3 _ _ e'',Z.cl,Z.n_name,b4,v.t1,".",rfl,rfl,sl (by omega),_,rfl,_,c,rfl,rfl,sl (by omega),h3,cQ ?_,s3.on hD,?_⟩
    ·rw[List.length_map,List.length_map,List.length_take]
     omega
    ·rw[List.take_add_one,ec,List.map_append,List.map_append]
     rfl
  ·rintro ys H3 h3 ⟨s3,rfl⟩
   rw[List.length_map,List.take_length]at h3
   refine⟨l1,D,_,_,rfl,rfl,s3 _ _ e1',h3,Nat.le_of_lt (cQ ?_),fun d hd=> ?_⟩
   ·rw[List.length_map,List.length_map,List.length_map]
    omega
   ·refine q _ d (((s1.trans s2).trans s3).trans (aD.new hd)) (dW ((s1.trans s2).trans s3) hd) ?_
    rw[aJ]
    show _=some (HO.lst ((X.M.cols v.s0 v.t0++ (X.M.cols v.s1 v.t1).map (eS v.t1)).map V.str))
    rw[List.map_append]
def yJ(K:Fg)(CS CF CB CT CW CE:Addr)(spA:Sp):Sp:=fun vs H Q _=>∃(X:VC) (v:BV) (k:BC),vs= [.ref v.b,.str (k.nm v)] /\SI K CS CF CB CT spA X/\gK CW CE X H v/\X.Inv H/\k.ok X v/\∀H',aD H H'->Q (.bl k.th) H'
theorem a5j:aV ["self","column"] ["self","column"] (aN zX):=⟨rfl,rfl,rfl,by decide+kernel,rfl,by decide+kernel,by decide+kernel⟩
theorem a2j(T:aW K mg)(Y:cU K mg CS)(Wb:bU K mg CB)(W:fM K mg CW)(Z:gG K mg CE):aL P w K mg base aC 5 CE "is_theirs" ["self","column"] (yJ K CS CF CB CT CW CE spA):=by
 have GW:aL P w K mg base aC 4 CW "columns" ["self"] (sI K CS CF CB CT CW spA):=yG T Y Wb W
 refine Z.m_is_theirs.known a5j (fun _ _ _ _ _ _ us hl=>dF (fun _ _=>rfl) us hl) (fun vs H Q E h=> ?_) (fun f cdv A outer s1 H vs Q E hr h=> ?_)
 ·obtain⟨X,v,k,rfl,_⟩:=h
  rfl
 ·obtain⟨X,v,k,rfl,I,hA,hI,ok,q⟩:=h
  obtain⟨dx,e⟩:=hA.at_
  obtain⟨b1,_⟩:=oX v
  obtain⟨_,_,dw,ew⟩:=id hA.wh
  refine⟨_,(aI (bA (nE rS (pv 1) (eO (aT (pv 0) rfl) W.cl GW hr aM) (by with_unfolding_all rfl)))),?_⟩
  refine⟨_,rfl,_,rfl,v.b,CE,dx,_,_,rfl,e,Z.cl,Z.n_view,b1,v.a,dw,_,rfl,ew,mP _ _ (by decide+kernel),X,v.a,v.s0,v.t0,rfl,I,hA.wh,hI,fun H1 l1 s1 hl1 e1=>⟨l1,_,rfl,.inl (aO.of e1),rfl,lU _,?_⟩⟩
  have key:(if true=true then !gC (.str (k.nm v)) ((X.M.cols v.s0 v.t0).map V.str) else gC (.str (k.nm v)) ((X.M.cols v.s0 v.t0).map V.str))=k.th:=by
   rw[if_pos rfl,mU]
   cases k with
   |own c=>
    have h:BC.nm v (.own c)∈X.M.cols v.s0 v.t0:=ok
    rw[decide_eq_true h];rfl
   |their c=>
    have h:BC.nm v (.their c)∉X.M.cols v.s0 v.t0:=hA.dis c ok
    rw[decide_eq_false h];rfl
  rw[key]
  exact q H1 s1
theorem a1M{d:PyData}{i:Int}(h:(∃j,d= .int j)\/ ∃y,d= .tuple [.str "fault",.str y]):PyData.eqv d (.int i)=eQ i d:=by
 rcases h with⟨j,rfl⟩|⟨y,rfl⟩
 ·simp only[PyData.eqv,eQ]
  rw[Bool.eq_iff_iff];simp
 ·simp[PyData.eqv,eQ]
theorem a2C{y:Str}(hy:Nl y):hV (.tuple [.str "fault",.str y])=true:=by
 show(decide (("fault":Str)= "fault")&&fE (.str y))=true
 rw[decide_eq_true rfl,Bool.true_and]
 exact Nl.name hy
def xT(K:Fg)(CS CF CB CT CW CE:Addr)(spA:Sp):Sp:=fun vs H Q _=>∃(X:VC) (v:BV) (y:V) (d:PyData),vs= [.ref v.b,y] /\SI K CS CF CB CT spA X/\gK CW CE X H v/\X.Inv H/\Pw K H y d/\∀H' l,X.Inv H'->bC X.Free H H'->H l=none->H' l=some (.lst (eL (fK X v d)))->Q (.ref l) H'
abbrev uA:List Str:=["self","key","values"]
theorem a3y:aV uA ["self","key"] (aN qG):=⟨rfl,rfl,rfl,by decide+kernel,rfl,by decide+kernel,by decide+kernel⟩
theorem a2x(T:aW K mg)(Y:cU K mg CS)(Wb:bU K mg CB)(U:cI K mg CT)(Z:gG K mg CE)(GS:aL P w K mg base aC 12 CS "stretch" ["self","table","column","start","end"] (nR K CS CF CB CT spA)):aL P w K mg base aC 13 CE "matching" ["self","key"] (xT K CS CF CB CT CW CE spA):=by
 have G_is_fault:bI P w K mg base aC 2 "is_fault" ["thing"] (rM K):=sP T
 have GM:aL P w K mg base aC 3 CS "many" ["self","table"] (tD CS CB CT):=xR T Y Wb U
 refine Z.m_matching.known a3y (fun _ _ _ _ _ _ us hl=>dF (fun _ _=>rfl) us hl) (fun vs H Q E h=> ?_) (fun f cdv A outer s1 H vs Q E hr h=> ?_)
 ·obtain⟨X,v,y,d,rfl,_⟩:=h
  rfl
 ·obtain⟨X,v,y,d,rfl,I,hA,hI,py,q⟩:=h
  obtain⟨b1,b2,b3,b4,b5⟩:=oX v
  have hu:=eB hr
  have hcl:∀x,(cY aC P w K mg base uA "Beside.matching" (aN qG) f cdv A outer s1 H E).nox.env.scope.names.lookup x=some .cell->∃c,(cY aC P w K mg base uA "Beside.matching" (aN qG) f cdv A outer s1 H E).nox.env.cells.lookup x=some c:=fun x hx=>Option.isSome_iff_exists.mp (PySem.W.cellsFrom_some _ _ _ (.inl hx))
  refine⟨_,(aH (bM (cM (bQ G_is_fault (hr.mono (by decide)) aM (aA (pv 1) aE)) (fun _=>rfl)) (aI (bA (fW aE))) bP)
   (aH (bR (i:=2) a3y.nd rfl (Or.inl rfl) (bH (aT (pv 0) rfl) Y.cl GS hr aM (aA (aT (pv 0) rfl) (aA (aT (pv 0) rfl) (aA bJ (aA (bH (aT (pv 0) rfl) Y.cl GM (hr.mono (by decide)) aM (aA (aT (pv 0) rfl) aE)) aE))))))
   (aI (bA (a7j (tt:=qH (lY (fun x y H Q=>∃dx dy,Dt K H x dx/\Dt K H y dy/\dx.canLay0=true/\dy.canLay0=true/\dx.depth<=64/\Q (.bl (PyData.eqv dx dy)) H) (fN 1) (fN 2))) (iY (sc:=aN qG) (N:=uA) (cp:=[(1,"key")]) hcl) rfl rfl rfl (by decide) (a3S (pv 2) rfl T.enumerate a51) (fun _ _ _ _ _=>a1w (cE (pY hr.units) (pv 1) (pv 2) (cH _))) (fun _ _ _ _ _=>(pv 0))))))),?_⟩
  have sv:=py.vd.short
  refine⟨_,rfl,y,_,rfl,py.dt,sv.1,fun H1 s1=>⟨_,rfl,?_⟩⟩
  have i1:=I.same hI s1
  have hA1:=hA.mv (bC.of s1)
  have py1:=py.keep (bF.of s1)
  rcases py.two with⟨i,rfl,rfl⟩|⟨z,rfl,hz⟩
  ·refine bK ?_
   obtain⟨dx,e⟩:=hA1.at_
   obtain⟨bd,ch,fi,kb,B,hSh,lx,oc⟩:=I.sh hA1.ok
   obtain⟨⟨ds,hs⟩,hbd,hnm,hkb,hB⟩:=hSh H1 i1
   have m30:=(I.nb hA1.ok).2.1
   refine⟨_,rfl,v.b,CE,dx,_,_,rfl,e,Z.cl,Z.n_sheet,b3,v.s1,ds,_,rfl,hs,dC,_,rfl,v.b,CE,dx,_,_,rfl,e,Z.cl,Z.n_name,b4,_,rfl,v.b,CE,dx,_,_,rfl,e,Z.cl,Z.n_theirs,b5,_,rfl,v.b,CE,dx,_,_,rfl,e,Z.cl,Z.n_sheet,b3,v.s1,ds,_,rfl,hs,dC,_,rfl,v.b,CE,dx,_,_,rfl,e,Z.cl,Z.n_name,b4,v.s1,bd,ch,fi,ds,kb,v.t1,B,rfl,hs,hbd,hnm,hkb,hB,fun H2 s2=> ?_⟩
   rw[lx]
   have i2:=I.same i1 s2
   refine⟨X,v.s1,v.t1,v.th,rfl,I,i2,hA1.ok,hA1.th,fun H3 l3 ys i3 f3 hl3 e3 pys=> ?_⟩
   have f13:=(bC.of s2).trans f3
   refine⟨_,rfl,l3,_,rfl,aO.of e3,fun D hD=> ?_⟩
   have ly:ys.length=X.M.many v.s1 v.t1:=by rw[show ys.length=_ from Paired.length pys,List.length_map,List.length_range]
   refine a8R (K:=K) (a:=l3) (xs:=ys) (fun n zs H4=>aD H3 H4/\zs=eL ((List.range n).filter fun q=>eQ i (X.M.val v.s1 v.t1 v.th q))) ⟨aD.new hD,rfl⟩ (fun n zs H4 _ h=>aO.of (h.1 _ _ e3)) ?_ ?_
   ·rintro n x zs H4 p hx h4 ⟨s4,rfl⟩ hp
    have hn:n<X.M.many v.s1 v.t1:=by rw[<- ly];exact(List.getElem?_eq_some_iff.mp hx).1
    obtain⟨x',d',g1,g2,g3⟩:=dZ.at (pys.keep (bF.of s4)) (i:=n) (by rw[List.length_map,List.length_range];exact hn)
    rw[g1]at hx
    obtain rfl:=Option.some.inj hx
    rw[List.getElem?_map,List.getElem?_range hn]at g2
    obtain rfl:=Option.some.inj g2
    have s5:=aD.new (o:=.tup [.int (n:Int),x']) hp
    have h5:=s5 _ _ h4
    have lz:(eL ((List.range n).filter fun q=>eQ i (X.M.val v.s1 v.t1 v.th q))).length<900:=by
     rw[nX]
     have:=List.length_filter_le (fun q=>eQ i (X.M.val v.s1 v.t1 v.th q)) (List.range n)
     rw[List.length_range]at this
     omega
    have fs:(List.range (n+ 1)).filter (fun q=>eQ i (X.M.val v.s1 v.t1 v.th q))=(List.range n).filter (fun q=>eQ i (X.M.val v.s1 v.t1 v.th q))++ (if eQ i (X.M.val v.s1 v.t1 v.th n)=true then [n] else []):=by
     rw[List.range_succ,List.filter_append]
     congr 1
     show [n].filter _=_
     by_cases eq:eQ i (X.M.val v.s1 v.t1 v.th n)=true
     ·rw[if_pos eq];simp[eq]
     ·rw[if_neg eq];simp[eq]
    have ok2:(∃j,X.M.val v.s1 v.t1 v.th n= .int j)\/ ∃y,X.M.val v.s1 v.t1 v.th n= .tuple [.str "fault",.str y]:=g3.two.imp (fun⟨j,_,h⟩=>⟨j,h⟩) (fun⟨y,h,_⟩=>⟨y,h⟩)
    have lay:=g3.vd.lay
    refine⟨_,rfl,_,rfl,_,.int i,(g3.keep (bF.of s5)).dt,.int i,lay.1,rfl,Nat.le_trans lay.2 (by decide),_,rfl,?_⟩
    rw[a1M ok2]
    cases eh:eQ i (X.M.val v.s1 v.t1 v.th n)with
    |true=>
     rw[if_pos eh]at fs
     refine cD ⟨_,rfl,h5,cQ (by omega),(s4.trans s5).on hD,?_⟩
     rw[fs]
     unfold eL
     rw[List.map_append]
     rfl
    |false=>
     rw[if_neg (by rw[eh];exact Bool.false_ne_true)]at fs
     exact bK ⟨_,h5,s4.trans s5,by rw[fs,List.append_nil]⟩
   ·rintro zs H4 h4 ⟨s4,rfl⟩
    rw[ly]at h4
    have f14:=f13.trans (bC.of s4)
    exact q H4 D (I.same i3 s4) ((bC.of s1).trans f14) (((bC.of s1).trans f13).back hD) h4
  ·rw[a2C hz]
   refine cD ⟨sl,fun l hl=> ?_⟩
   exact q _ l (I.same i1 (aD.new hl)) (bC.of (s1.trans (aD.new hl))) (dW s1 hl) aJ
def sW(K:Fg):Sp:=fun vs H Q _=>∃(z c:Str) (i:Nat) (r:List Nat),vs= [.str z] /\z.length<=20/\Builtin.Str.occurrences z "." 0 z.length 1=i::r/\Builtin.Str.strSub z (i+ (".":Str).length) z.length=c/\∀H',aD H H'->Q (.str c) H'
theorem a4Y:aV ["column"] ["column"] (aN a3v):=⟨rfl,rfl,rfl,by decide+kernel,rfl,by decide+kernel,by decide+kernel⟩
theorem a3F(T:aW K mg):bI P w K mg base aC 1 "behind_point" ["column"] (sW K):=by
 refine T.d_behind_point.known a4Y (fun _ _ _ _ _ _ us hl=>eD (fun _=>rfl) us hl) (fun vs H Q E h=> ?_) (fun f cdv A outer s H vs Q E hr h=> ?_)
 ·obtain⟨z,c,i,r,rfl,_⟩:=h
  rfl
 ·obtain⟨z,c,i,r,rfl,hz,ho,hc,q⟩:=h
  refine⟨_,(aI (bA (cJ fB (kH PySem.F.plainAttrs_str PySem.F.slot_str_partition PySem.F.type_str_partition a7a (pv 0) (aA cF aE)) bJ (fun _ _=>rfl)))),?_⟩
  refine⟨_,rfl,rfl,z,".",i,r,rfl,rfl,by decide+kernel,by omega,ho,fun p hp=>⟨p,_,(2:Int),.str c,rfl,rfl,bW.of aJ,by rw[hc];rfl,q _ (aD.new hp)⟩⟩
def qU(K:Fg)(CS CF CB CT CW CE:Addr)(spA:Sp):Sp:=fun vs H Q _=>∃(X:VC) (v:BV) (k:BC) (p:Nat),vs= [.ref v.b,.str (k.nm v),.int (p:Int)] /\SI K CS CF CB CT spA X/\gK CW CE X H v/\X.Inv H/\k.ok X v/\p<X.M.many v.s0 v.t0/\∀H' y,X.Inv H'->bC X.Free H H'->Pw K H' y (kN X v p k)->Q y H'
abbrev Nbv:List Str:=["self","column","row","key","places"]
theorem wD:aV Nbv ["self","column","row"] (aN a0d):=⟨rfl,rfl,rfl,by decide+kernel,rfl,by decide+kernel,by decide+kernel⟩
theorem a1u(T:aW K mg)(Y:cU K mg CS)(Wb:bU K mg CB)(U:cI K mg CT)(W:fM K mg CW)(Z:gG K mg CE)(GS:aL P w K mg base aC 12 CS "stretch" ["self","table","column","start","end"] (nR K CS CF CB CT spA))(GC:aL P w K mg base aC 12 CS "cell" ["self","table","column","place"] (iI CS CF CB CT (gN CF spA))):aL P w K mg base aC 14 CE "value_at" ["self","column","row"] (qU K CS CF CB CT CW CE spA):=by
 obtain⟨pL,hpL,hL⟩:=T.g_LACKS
 have G_is_fault:bI P w K mg base aC 2 "is_fault" ["thing"] (rM K):=sP T
 have G_bp:bI P w K mg base aC 1 "behind_point" ["column"] (sW K):=a3F T
 have GT:aL P w K mg base aC 5 CE "is_theirs" ["self","column"] (yJ K CS CF CB CT CW CE spA):=a2j T Y Wb W Z
 have GM:aL P w K mg base aC 13 CE "matching" ["self","key"] (xT K CS CF CB CT CW CE spA):=a2x T Y Wb U Z GS
 have GV:aL P w K mg base aC 13 CW "value_at" ["self","column","row"] (vK K CS CF CB CT CW spA):=a1h Y W GC
 refine Z.m_value_at.known wD (fun _ _ _ _ _ _ us hl=>eM (fun _ _ _=>rfl) us hl) (fun vs H Q E h=> ?_) (fun f cdv A outer s1 H vs Q E hr h=> ?_)
 ·obtain⟨X,v,k,p,rfl,_⟩:=h
  rfl
 ·obtain⟨X,v,k,p,rfl,I,hA,hI,ok,hp,q⟩:=h
  obtain⟨b1,b2,b3,b4,b5⟩:=oX v
  have no:∀m∈vM++ (["is_theirs","matching"]:List Str),(gJ v).lookup m=none:=fun m h=>gA v h
  refine⟨_,(aH (bM (dI (cM (bH (pv 0) Z.cl GT (hr.mono (by decide)) aM (aA (pv 1) aE)) (fun _=>rfl))) (aI (bA (bH (aT (pv 0) rfl) W.cl GV hr aM (aA (pv 1) (aA (pv 2) aE))))) bP)
   (aH (bR (i:=3) wD.nd rfl (Or.inl rfl) (bH (aT (pv 0) rfl) W.cl GV hr aM (aA (aT (pv 0) rfl) (aA (pv 2) aE))))
   (aH (bM (cM (bQ G_is_fault (hr.mono (by decide)) aM (aA (pv 3) aE)) (fun _=>rfl)) (aI (bA (pv 3))) bP)
   (aH (bR (i:=4) wD.nd rfl (Or.inl rfl) (bH (pv 0) Z.cl GM hr aM (aA (pv 3) aE)))
   (aH (bM (dI (yM (pv 4) (fun _=>rfl))) (aI (bA (yR hpL))) bP)
   (aI (bA (bH (aT (pv 0) rfl) Y.cl GC (hr.mono (by decide)) aM (aA (aT (pv 0) rfl) (aA (bQ G_bp (hr.mono (by decide)) aM (aA (pv 1) aE)) (aA (cJ gZ (pv 4) bJ (fun _ _=>rfl)) aE))))))))))),?_⟩
  obtain⟨dx,e⟩:=hA.at_
  refine⟨_,rfl,v.b,dx,_,rfl,e,no _ (by decide+kernel),_,rfl,X,v,k,rfl,I,hA,hI,ok,fun H1 s1=>⟨_,rfl,?_⟩⟩
  have i1:=I.same hI s1
  have hA1:=hA.mv (bC.of s1)
  have e1:=s1 _ _ e
  obtain⟨_,_,dw,ew⟩:=id hA1.wh
  cases k with
  |own c=>
   refine cD ?_
   exact⟨_,rfl,v.b,CE,dx,_,_,rfl,e1,Z.cl,Z.n_view,b1,v.a,dw,_,rfl,ew,mP _ _ (by decide+kernel),_,rfl,_,rfl,X,v.a,v.s0,v.t0,c,p,rfl,I,hA1.wh,i1,ok,hp,fun H2 y i2 f2 py=>q H2 y i2 ((bC.of s1).trans f2) py⟩
  |their c=>
   refine bK ?_
   refine⟨_,rfl,v.b,CE,dx,_,_,rfl,e1,Z.cl,Z.n_view,b1,v.a,dw,_,rfl,ew,mP _ _ (by decide+kernel),_,rfl,v.b,CE,dx,_,_,rfl,e1,Z.cl,Z.n_key,b2,_,rfl,X,v.a,v.s0,v.t0,v.key,p,rfl,I,hA1.wh,i1,hA.ky,hp,fun H2 y i2 f2 py=> ?_⟩
   have sv:=py.vd.short
   refine⟨_,rfl,y,_,rfl,py.dt,sv.1,fun H3 s3=>⟨_,rfl,?_⟩⟩
   have f3:=((bC.of s1).trans f2).trans (bC.of s3)
   have i3:=I.same i2 s3
   have py3:=py.keep (bF.of s3)
   have q:=fun H' y' i' f' (py':Pw K H' y' (yW X v c (X.M.val v.s0 v.t0 v.key p)))=>q H' y' i' f' py'
   generalize X.M.val v.s0 v.t0 v.key p=d at py py3 q|-
   rcases py.two with⟨i,rfl,rfl⟩|⟨z,rfl,hz⟩
   ·refine bK ?_
    have hA3:=hA.mv f3
    obtain⟨d3,e3⟩:=hA3.at_
    refine⟨_,rfl,v.b,d3,_,rfl,e3,no _ (by decide+kernel),_,rfl,X,v,.int i,.int i,rfl,I,hA3,i3,py3,fun H4 l4 i4 f4 hl4 e4=> ?_⟩
    have f04:=f3.trans f4
    refine⟨_,rfl,_,.inl ⟨_,aO.of e4,rfl⟩,?_⟩
    cases em:fK X v (.int i)with
    |nil=>
     rw[em]at e4
     refine cD ?_
     refine q H4 _ i4 f04 ?_
     show Pw K H4 (.ref pL) (match fK X v (.int i)with| []=> .tuple [.str "fault",.str "lacks"]|q::_=>X.M.val v.s1 v.t1 c q)
     rw[em]
     exact .inr (.inr ⟨pL,rfl,rfl,hL⟩)
    |cons r rs=>
     rw[em]at e4
     refine bK ?_
     have hA4:=hA.mv f04
     obtain⟨d4,e4'⟩:=hA4.at_
     obtain⟨ds,bd,ch,fi,hs⟩:=I.at_ i4 hA4.ok
     obtain⟨l20,n,rr,ho,hc⟩:=hA.prt c ok
     have hr':r<X.M.many v.s1 v.t1:=a0X (X:=X) (v:=v) (d:=.int i) (by rw[em];exact List.mem_cons_self)
     refine⟨_,rfl,v.b,CE,d4,_,_,rfl,e4',Z.cl,Z.n_sheet,b3,v.s1,ds,_,rfl,hs,dC,_,rfl,v.b,CE,d4,_,_,rfl,e4',Z.cl,Z.n_name,b4,_,rfl,_,c,n,rr,rfl,l20,ho,hc,fun H5 s5=> ?_⟩
     refine⟨_,rfl,l4,_,(0:Int),.int (r:Int),rfl,rfl,aO.of (s5 _ _ e4),gW (i:=0) rfl,I.cel (I.same i4 s5) hA4.ok ok hr' fun H6 y6 i6 f6 py6=> ?_⟩
     refine q H6 y6 i6 ((f04.trans (bC.of s5)).trans f6) ?_
     show Pw K H6 y6 (match fK X v (.int i)with| []=> .tuple [.str "fault",.str "lacks"]|q::_=>X.M.val v.s1 v.t1 c q)
     rw[em]
     exact py6
   ·rw[a2C hz]
    exact cD ⟨_,rfl,q H3 y i3 f3 py3⟩
def SpAt(CO:Addr)(H:Hp)(x:V)(z:Addr×Str×Str×Nat):Prop:=∃o dx,x= .ref o/\H o=some (.ins CO dx (mF z.1 z.2.1 z.2.2.1 (z.2.2.2:Int)))
def nU(CO:Addr)(H:Hp):List V->List (Addr×Str×Str×Nat)->Prop:=Paired (SpAt CO H)
theorem nU.keep{H H':Hp}(k:∀x C d fs,H x=some (.ins C d fs)->H' x=some (.ins C d fs)):∀{xs:List V} {zs:List (Addr×Str×Str×Nat)},nU CO H xs zs->nU CO H' xs zs
 |_,_,.nil=> .nil
 |_,_,.cons ⟨o,dx,h1,h2⟩ t=> .cons ⟨o,dx,h1,k _ _ _ _ h2⟩ (nU.keep k t)
theorem uR{α β:Type}{R:α->β->Prop}{x:α}{y:β}(h:R x y):∀{xs:List α} {ys:List β},Paired R xs ys->Paired R (xs++ [x]) (ys++ [y])
 |_,_,.nil=> .cons h .nil
 |_,_,.cons h' t=> .cons h' (uR h t)
theorem a1R{α β:Type}{R:α->β->Prop}:∀{xs:List α} {ys:List β} {i:Nat} {x:α},Paired R xs ys->xs[i]?=some x->∃y,ys[i]?=some y/\R x y
 |_,_,_,_,.nil,h=>by simp at h
 |_,_,0,_,.cons h _,e=>⟨_,rfl,by cases e;exact h⟩
 |_,_,i+ 1,_,.cons _ t,e=>by simpa using a1R t (by simpa using e)
def a3q(K:Fg)(CS CF CB CT CW CE CO:Addr)(spA:Sp):Sp:=fun vs H Q _=>∃(X:VC) (v:BV) (k:BC) (p:Nat),vs= [.ref v.b,.str (k.nm v),.int (p:Int)] /\SI K CS CF CB CT spA X/\gK CW CE X H v/\X.Inv H/\k.ok X v/\p<X.M.many v.s0 v.t0/\∀H' l ys,X.Inv H'->bC X.Free H H'->H l=none->H' l=some (.lst ys)->nU CO H' ys (nK X v p k)->Q (.ref l) H'
abbrev uI:List Str:=["self","column","row","places"]
theorem a0s:aV uI ["self","column","row"] (aN sD):=⟨rfl,rfl,rfl,by decide+kernel,rfl,by decide+kernel,by decide+kernel⟩
theorem a4J(T:aW K mg)(Y:cU K mg CS)(Wb:bU K mg CB)(U:cI K mg CT)(W:fM K mg CW)(Z:gG K mg CE)(O:lO K mg CO)(GS:aL P w K mg base aC 12 CS "stretch" ["self","table","column","start","end"] (nR K CS CF CB CT spA))(GC:aL P w K mg base aC 12 CS "cell" ["self","table","column","place"] (iI CS CF CB CT (gN CF spA))):aL P w K mg base aC 14 CE "spots_at" ["self","column","row"] (a3q K CS CF CB CT CW CE CO spA):=by
 have G_bp:bI P w K mg base aC 1 "behind_point" ["column"] (sW K):=a3F T
 have GT:aL P w K mg base aC 5 CE "is_theirs" ["self","column"] (yJ K CS CF CB CT CW CE spA):=a2j T Y Wb W Z
 have GM:aL P w K mg base aC 13 CE "matching" ["self","key"] (xT K CS CF CB CT CW CE spA):=a2x T Y Wb U Z GS
 have GV:aL P w K mg base aC 13 CW "value_at" ["self","column","row"] (vK K CS CF CB CT CW spA):=a1h Y W GC
 have GA:aL P w K mg base aC 3 CW "spots_at" ["self","column","row"] (a2g K CW CO):=a6R T W O
 have GI:dJ P w K mg base aC 1 CO ["self","sheet","name","column","place"] (tV CO):=a3r T O
 refine Z.m_spots_at.known a0s (fun _ _ _ _ _ _ us hl=>eM (fun _ _ _=>rfl) us hl) (fun vs H Q E h=> ?_) (fun f cdv A outer s1 H vs Q E hr h=> ?_)
 ·obtain⟨X,v,k,p,rfl,_⟩:=h
  rfl
 ·obtain⟨X,v,k,p,rfl,I,hA,hI,ok,hp,q⟩:=h
  obtain⟨b1,b2,b3,b4,b5⟩:=oX v
  have no:∀m∈vM++ (["is_theirs","matching"]:List Str),(gJ v).lookup m=none:=fun m h=>gA v h
  have hcl:∀x,(cY aC P w K mg base uI "Beside.spots_at" (aN sD) f cdv A outer s1 H E).nox.env.scope.names.lookup x=some .cell->∃c,(cY aC P w K mg base uI "Beside.spots_at" (aN sD) f cdv A outer s1 H E).nox.env.cells.lookup x=some c:=fun x hx=>Option.isSome_iff_exists.mp (PySem.W.cellsFrom_some _ _ _ (.inl hx))
  refine⟨_,(aH (bM (dI (cM (bH (pv 0) Z.cl GT (hr.mono (by decide)) aM (aA (pv 1) aE)) (fun _=>rfl))) (aI (bA (bH (aT (pv 0) rfl) W.cl GA (hr.mono (by decide)) aM (aA (pv 1) (aA (pv 2) aE))))) bP)
   (aH (bR (i:=3) a0s.nd rfl (Or.inl rfl) (bH (pv 0) Z.cl GM hr aM (aA (bH (aT (pv 0) rfl) W.cl GV hr aM (aA (aT (pv 0) rfl) (aA (pv 2) aE))) aE)))
   (aI (bA (kY (te:=qK CO (tV CO) [] E0 (jA (pX K (fN 1) "sheet") (jA (pX K (fN 1) "name") (jA (vC (sW K) [] E0 (jA (fN 2) kT)) (jA (fN 0) kT))))) (iY (sc:=aN sD) (N:=uI) (cp:=[(0,"self"),(1,"column")]) hcl) rfl rfl (by decide) (fX (pv 3)) (fun _ _ _ _ _=>jT) (fun _ _ _ _ _=>(jC GI (hr.mono (by decide)) O.c aM (aA (aT (pv 1) rfl) (aA (aT (pv 1) rfl) (aA (bQ G_bp (hr.mono (by decide)) aM (aA (pv 2) aE)) (aA (pv 0) aE))))))))))),?_⟩
  obtain⟨dx,e⟩:=hA.at_
  refine⟨_,rfl,v.b,dx,_,rfl,e,no _ (by decide+kernel),_,rfl,X,v,k,rfl,I,hA,hI,ok,fun H1 s1=>⟨_,rfl,?_⟩⟩
  have i1:=I.same hI s1
  have hA1:=hA.mv (bC.of s1)
  have e1:=s1 _ _ e
  obtain⟨_,_,dw,ew⟩:=id hA1.wh
  cases k with
  |own c=>
   refine cD ?_
   exact⟨_,rfl,v.b,CE,dx,_,_,rfl,e1,Z.cl,Z.n_view,b1,v.a,dw,_,rfl,ew,mP _ _ (by decide+kernel),_,rfl,_,rfl,v.a,dw,v.s0,v.t0,c,p,rfl,ew,fun H2 l o d2 s2 hl e2 o2=>q H2 l [.ref o] (I.same i1 s2) (bC.of (s1.trans s2)) (dW s1 hl) e2 (.cons ⟨o,d2,rfl,o2⟩ .nil)⟩
  |their c=>
   refine bK ?_
   refine⟨_,rfl,v.b,dx,_,rfl,e1,no _ (by decide+kernel),_,rfl,v.b,CE,dx,_,_,rfl,e1,Z.cl,Z.n_view,b1,v.a,dw,_,rfl,ew,mP _ _ (by decide+kernel),_,rfl,v.b,CE,dx,_,_,rfl,e1,Z.cl,Z.n_key,b2,_,rfl,X,v.a,v.s0,v.t0,v.key,p,rfl,I,hA1.wh,i1,hA.ky,hp,fun H2 y i2 f2 py=> ?_⟩
   have f02:=(bC.of s1).trans f2
   refine⟨X,v,y,_,rfl,I,hA.mv f02,i2,py,fun H3 l3 i3 f3 hl3 e3=> ?_⟩
   have f03:=f02.trans f3
   have hA3:=hA.mv f03
   obtain⟨d3,e3'⟩:=hA3.at_
   obtain⟨l20,n,rr,ho,hc⟩:=hA.prt c ok
   have q:=fun H' l ys i' f' hl hl' (sp:nU CO H' ys ((fK X v (X.M.val v.s0 v.t0 v.key p)).map fun q=>(v.s1,v.t1,c,q)))=>q H' l ys i' f' hl hl' sp
   have ml:=zG (X:=X) (v:=v) (d:=X.M.val v.s0 v.t0 v.key p)
   have m30:=(I.nb hA.ok).2.1
   generalize fK X v (X.M.val v.s0 v.t0 v.key p)=ms at e3 q ml
   refine⟨_,rfl,l3,rfl,⟨_,aO.of e3⟩,fun D hD=> ?_⟩
   refine kI (K:=K) (a:=l3) (xs:=eL ms) (fun i ys H4=>aD H3 H4/\ys.length=i/\nU CO H4 ys ((ms.take i).map fun q=>(v.s1,v.t1,c,q))) ⟨aD.new hD,rfl,.nil⟩ (fun i ys H4 _ h=>aO.of (h.1 _ _ e3)) ?_ ?_
   ·rintro i x ys H4 hx h4 ⟨s4,ly,sp⟩
    obtain⟨r,er,rfl⟩:=wN hx
    have hi:i<ms.length:=(List.getElem?_eq_some_iff.mp er).1
    refine⟨_,rfl,v.b,CE,d3,_,_,rfl,s4 _ _ e3',Z.cl,Z.n_sheet,b3,_,rfl,v.b,CE,d3,_,_,rfl,s4 _ _ e3',Z.cl,Z.n_name,b4,_,rfl,_,c,n,rr,rfl,l20,ho,hc,fun H5 s5=>⟨_,rfl,?_⟩⟩
    intro o d0 ho' hd0 ne
    refine⟨o,d0,v.s1,v.t1,c,(r:Int),rfl,aJ,fun H6 b6 e6=>⟨rfl,?_⟩⟩
    have s6:aD H5 H6:=fun x o' e=>b6 _ _ (aX e ho') (by rw[aG (aX e ho'),aG (aX e hd0)];exact e)
    have s46:=s5.trans s6
    have h6:=s46 _ _ h4
    have ko:∀{x:Addr} {u:HO},H6 x=some u->(∀ys,u≠ .lst ys)->upd H6 D (.lst (ys++ [.ref o])) x=some u:=fun e n=>by
     rw[aG (fun z=>by rw[z,h6]at e;exact n _ (Option.some.inj e).symm)]
     exact e
    refine⟨h6,cQ (by omega),(s4.trans s46).on hD,by rw[List.length_append,ly];rfl,?_⟩
    rw[List.take_add_one,er,List.map_append]
    refine uR ⟨o,d0,rfl,ko e6 (fun _ y=>by cases y)⟩ ?_
    exact sp.keep fun x C d fs e=>ko (s46 _ _ e) (fun _ y=>by cases y)
   ·rintro ys H4 h4 ⟨s4,ly,sp⟩
    rw[nX,List.take_length]at sp
    exact q H4 D ys (I.same i3 s4) (f03.trans (bC.of s4)) (f03.back hD) h4 sp
def uO(K:Fg)(CS CF CB CT CW CE:Addr)(spA:Sp):Sp:=fun vs H Q _=>∃(X:VC) (v:BV),vs= [.ref v.b] /\SI K CS CF CB CT spA X/\gK CW CE X H v/\X.Inv H/\∀H' l,aD H H'->H l=none->H' l=some (.lst (eL (List.range (X.M.many v.s0 v.t0))))->Q (.ref l) H'
theorem a8t:aV ["self"] ["self"] (aN yX):=⟨rfl,rfl,rfl,by decide+kernel,rfl,by decide+kernel,by decide+kernel⟩
theorem xM(T:aW K mg)(Y:cU K mg CS)(Wb:bU K mg CB)(U:cI K mg CT)(W:fM K mg CW)(Z:gG K mg CE):aL P w K mg base aC 5 CE "rows" ["self"] (uO K CS CF CB CT CW CE spA):=by
 have GW:aL P w K mg base aC 4 CW "rows" ["self"] (a1g K CS CF CB CT CW spA):=a6T T Y Wb U W
 refine Z.m_rows.known a8t (fun _ _ _ _ _ _ us hl=>eD (fun _=>rfl) us hl) (fun vs H Q E h=> ?_) (fun f cdv A outer s1 H vs Q E hr h=> ?_)
 ·obtain⟨X,v,rfl,_⟩:=h
  rfl
 ·obtain⟨X,v,rfl,I,hA,hI,q⟩:=h
  obtain⟨dx,e⟩:=hA.at_
  obtain⟨b1,_⟩:=oX v
  obtain⟨_,_,dw,ew⟩:=id hA.wh
  refine⟨_,(aI (bA (eO (aT (pv 0) rfl) W.cl GW hr aM))),?_⟩
  exact⟨_,rfl,v.b,CE,dx,_,_,rfl,e,Z.cl,Z.n_view,b1,v.a,dw,_,rfl,ew,mP _ _ (by decide+kernel),X,v.a,v.s0,v.t0,rfl,I,hA.wh,hI,q⟩
def a2k(K:Fg)(CS CF CB CT CW CE:Addr)(spA:Sp):Sp:=fun vs H Q _=>∃(X:VC) (v:BV),vs= [.ref v.b] /\SI K CS CF CB CT spA X/\gK CW CE X H v/\X.Inv H/\∀H',aD H H'->Q (.int (X.M.many v.s0 v.t0)) H'
theorem a8A:aV ["self"] ["self"] (aN tX):=⟨rfl,rfl,rfl,by decide+kernel,rfl,by decide+kernel,by decide+kernel⟩
theorem a7P(T:aW K mg)(Y:cU K mg CS)(Wb:bU K mg CB)(U:cI K mg CT)(W:fM K mg CW)(Z:gG K mg CE):aL P w K mg base aC 6 CE "many" ["self"] (a2k K CS CF CB CT CW CE spA):=by
 have GR:aL P w K mg base aC 5 CE "rows" ["self"] (uO K CS CF CB CT CW CE spA):=xM T Y Wb U W Z
 refine Z.m_many.known a8A (fun _ _ _ _ _ _ us hl=>eD (fun _=>rfl) us hl) (fun vs H Q E h=> ?_) (fun f cdv A outer s1 H vs Q E hr h=> ?_)
 ·obtain⟨X,v,rfl,_⟩:=h
  rfl
 ·obtain⟨X,v,rfl,I,hA,hI,q⟩:=h
  obtain⟨dx,e⟩:=hA.at_
  refine⟨_,(aI (bA (cT iL rfl T.len gI (aA (eO (pv 0) Z.cl GR hr aM) aE)))),?_⟩
  refine⟨_,rfl,v.b,dx,_,rfl,e,gA v (by decide+kernel),X,v,rfl,I,hA,hI,fun H1 l s1 hl e1=>⟨.ref l,_,rfl,.inl ⟨_,aO.of e1,rfl⟩,?_⟩⟩
  rw[nX,List.length_range]
  exact q H1 s1
def yH(K:Fg)(CS CF CB CT CW CE:Addr)(spA:Sp):Sp:=fun vs H Q _=>∃(X:VC) (v:BV) (k:BC) (p:Nat),vs= [.ref v.b,.str (k.nm v),.int (p:Int)] /\SI K CS CF CB CT spA X/\gK CW CE X H v/\X.Inv H/\k.ok X v/\p<X.M.many v.s0 v.t0/\∀H',aD H H'->Q (.int (p:Int)) H'
abbrev Nba:List Str:=["self","column","place","rows"]
theorem a2F:aV Nba ["self","column","place"] (aN tJ):=⟨rfl,rfl,rfl,by decide+kernel,rfl,by decide+kernel,by decide+kernel⟩
theorem zY(T:aW K mg)(Y:cU K mg CS)(Wb:bU K mg CB)(U:cI K mg CT)(W:fM K mg CW)(Z:gG K mg CE):aL P w K mg base aC 6 CE "asked_row" ["self","column","place"] (yH K CS CF CB CT CW CE spA):=by
 have GC:aL P w K mg base aC 5 CE "columns" ["self"] (rG K CS CF CB CT CW CE spA):=tS T Y Wb W Z
 have GR:aL P w K mg base aC 5 CE "rows" ["self"] (uO K CS CF CB CT CW CE spA):=xM T Y Wb U W Z
 have G_col:bI P w K mg base aC 1 "check_column" ["column","columns"] (tZ K):=wJ T
 have G_pl:bI P w K mg base aC 2 "check_place" ["place","places"] rK:=uN T
 refine Z.m_asked_row.known a2F (fun _ _ _ _ _ _ us hl=>eM (fun _ _ _=>rfl) us hl) (fun vs H Q E h=> ?_) (fun f cdv A outer s1 H vs Q E hr h=> ?_)
 ·obtain⟨X,v,k,p,rfl,_⟩:=h
  rfl
 ·obtain⟨X,v,k,p,rfl,I,hA,hI,ok,hp,q⟩:=h
  refine⟨_,(aH (cC (bQ G_col (hr.mono (by decide)) aM (aA (pv 1) (aA (eO (pv 0) Z.cl GC hr aM) aE))))
   (aH (bR (i:=3) a2F.nd rfl (Or.inl rfl) (eO (pv 0) Z.cl GR hr aM))
   (aH (cC (bQ G_pl (hr.mono (by decide)) aM (aA (pv 2) (aA (cT iL rfl T.len gI (aA (pv 3) aE)) aE))))
   (aI (bA (cJ gZ (pv 3) (pv 2) (fun _ _=>rfl))))))),?_⟩
  obtain⟨dx,e⟩:=hA.at_
  refine⟨_,rfl,_,rfl,v.b,dx,_,rfl,e,gA v (by decide+kernel),X,v,rfl,I,hA,hI,fun H1 l1 s1 hl1 e1=>⟨_,l1,_,rfl,e1,ok.mem,?_⟩⟩
  refine⟨_,rfl,v.b,dx,_,rfl,s1 _ _ e,gA v (by decide+kernel),X,v,rfl,I,hA.mv (bC.of s1),I.same hI s1,fun H2 l2 s2 hl2 e2=> ?_⟩
  have r2:(eL (List.range (X.M.many v.s0 v.t0)))[p]?=some (.int (p:Int)):=by unfold eL;rw[List.getElem?_map,List.getElem?_range hp];rfl
  refine⟨_,rfl,_,rfl,.ref l2,_,rfl,.inl ⟨_,aO.of e2,rfl⟩,p,(eL (List.range (X.M.many v.s0 v.t0))).length,rfl,by rw[nX,List.length_range];exact hp,?_⟩
  exact⟨_,rfl,_,rfl,l2,_,(p:Int),_,rfl,rfl,aO.of e2,gW r2,q H2 (s1.trans s2)⟩
theorem a4n:aV ["self","column","place"] ["self","column","place"] (aN tQ):=⟨rfl,rfl,rfl,by decide+kernel,rfl,by decide+kernel,by decide+kernel⟩
theorem a4L(T:aW K mg)(Y:cU K mg CS)(Wb:bU K mg CB)(U:cI K mg CT)(W:fM K mg CW)(Z:gG K mg CE)(GS:aL P w K mg base aC 12 CS "stretch" ["self","table","column","start","end"] (nR K CS CF CB CT spA))(GC:aL P w K mg base aC 12 CS "cell" ["self","table","column","place"] (iI CS CF CB CT (gN CF spA))):aL P w K mg base aC 15 CE "look" ["self","column","place"] (qU K CS CF CB CT CW CE spA):=by
 have GV:aL P w K mg base aC 14 CE "value_at" ["self","column","row"] (qU K CS CF CB CT CW CE spA):=a1u T Y Wb U W Z GS GC
 have GA:aL P w K mg base aC 6 CE "asked_row" ["self","column","place"] (yH K CS CF CB CT CW CE spA):=zY T Y Wb U W Z
 refine Z.m_look.known a4n (fun _ _ _ _ _ _ us hl=>eM (fun _ _ _=>rfl) us hl) (fun vs H Q E h=> ?_) (fun f cdv A outer s1 H vs Q E hr h=> ?_)
 ·obtain⟨X,v,k,p,rfl,_⟩:=h
  rfl
 ·obtain⟨X,v,k,p,rfl,I,hA,hI,ok,hp,q⟩:=h
  refine⟨_,(aI (bA (bH (pv 0) Z.cl GV hr aM (aA (pv 1) (aA (bH (pv 0) Z.cl GA (hr.mono (by decide)) aM (aA (pv 1) (aA (pv 2) aE))) aE))))),?_⟩
  obtain⟨dx,e⟩:=hA.at_
  exact⟨_,rfl,v.b,dx,_,rfl,e,gA v (by decide+kernel),_,rfl,_,rfl,v.b,dx,_,rfl,e,gA v (by decide+kernel),_,rfl,_,rfl,X,v,k,p,rfl,I,hA,hI,ok,hp,fun H1 s1=>⟨X,v,k,p,rfl,I,hA.mv (bC.of s1),I.same hI s1,ok,hp,fun H2 y i2 f2 py=>q H2 y i2 ((bC.of s1).trans f2) py⟩⟩
def a1P(K:Fg)(CS CF CB CT CW CE:Addr)(spA:Sp):Sp:=fun vs H Q _=>∃(X:VC) (v:BV) (k:BC),vs= [.ref v.b,.str (k.nm v)] /\SI K CS CF CB CT spA X/\gK CW CE X H v/\X.Inv H/\k.ok X v/\∀H' l ys,X.Inv H'->bC X.Free H H'->H l=none->H' l=some (.lst ys)->dZ K H' ys ((List.range (X.M.many v.s0 v.t0)).map fun p=>kN X v p k)->Q (.ref l) H'
theorem a70:aV ["self","column"] ["self","column"] (aN nI):=⟨rfl,rfl,rfl,by decide+kernel,rfl,by decide+kernel,by decide+kernel⟩
theorem a9a(T:aW K mg)(Y:cU K mg CS)(Wb:bU K mg CB)(U:cI K mg CT)(W:fM K mg CW)(Z:gG K mg CE)(GS:aL P w K mg base aC 12 CS "stretch" ["self","table","column","start","end"] (nR K CS CF CB CT spA))(GC:aL P w K mg base aC 12 CS "cell" ["self","table","column","place"] (iI CS CF CB CT (gN CF spA))):aL P w K mg base aC 15 CE "shown" ["self","column"] (a1P K CS CF CB CT CW CE spA):=by
 have GV:aL P w K mg base aC 14 CE "value_at" ["self","column","row"] (qU K CS CF CB CT CW CE spA):=a1u T Y Wb U W Z GS GC
 have GK:aL P w K mg base aC 5 CE "columns" ["self"] (rG K CS CF CB CT CW CE spA):=tS T Y Wb W Z
 have GR:aL P w K mg base aC 5 CE "rows" ["self"] (uO K CS CF CB CT CW CE spA):=xM T Y Wb U W Z
 have G_col:bI P w K mg base aC 1 "check_column" ["column","columns"] (tZ K):=wJ T
 refine Z.m_shown.known a70 (fun _ _ _ _ _ _ us hl=>dF (fun _ _=>rfl) us hl) (fun vs H Q E h=> ?_) (fun f cdv A outer s H vs Q E hr h=> ?_)
 ·obtain⟨X,v,k,rfl,_⟩:=h
  rfl
 ·obtain⟨X,v,k,rfl,I,hA,hI,ok,q⟩:=h
  have hcl:∀x,(cY aC P w K mg base ["self","column"] "View.shown" (aN nI) f cdv A outer s H E).nox.env.scope.names.lookup x=some .cell->∃c,(cY aC P w K mg base ["self","column"] "View.shown" (aN nI) f cdv A outer s H E).nox.env.cells.lookup x=some c:=fun x hx=>Option.isSome_iff_exists.mp (PySem.W.cellsFrom_some _ _ _ (.inl hx))
  refine⟨_,(aH (cC (bQ G_col (hr.mono (by decide)) aM (aA (pv 1) (aA (eO (pv 0) Z.cl GK (hr.mono (by decide)) aM) aE))))
   (aI (bA (kY (iY (sc:=aN nI) (N:=["self","column"]) (cp:=[(1,"column"),(0,"self")]) hcl) rfl rfl (by decide) (fX (eO (pv 0) Z.cl GR (hr.mono (by decide)) aM)) (fun _ _ _ _ _=>jT) (fun _ _ _ _ _=>(bH (pv 2) Z.cl GV hr aM (aA (pv 1) (aA (pv 0) aE)))))))),?_⟩
  obtain⟨dx,e⟩:=hA.at_
  have m30:=(I.nb hA.wh.2.1).2.1
  refine⟨_,rfl,_,rfl,v.b,dx,_,rfl,e,gA v (by decide+kernel),X,v,rfl,I,hA,hI,fun H1 l1 s1 hl1 e1=>⟨_,l1,_,rfl,e1,ok.mem,?_⟩⟩
  have i1:=I.same hI s1
  refine⟨_,rfl,v.b,dx,_,rfl,s1 _ _ e,gA v (by decide+kernel),X,v,rfl,I,hA.mv (bC.of s1),i1,fun H2 l2 s2 hl2 e2=> ?_⟩
  have i2:=I.same i1 s2
  have f02:bC X.Free H H2:=bC.of (s1.trans s2)
  have fl2:=I.new i1 hl2
  refine⟨l2,rfl,⟨_,aO.of e2⟩,fun D hD=> ?_⟩
  refine kI (K:=K) (a:=l2) (xs:=eL (List.range (X.M.many v.s0 v.t0))) (fun i ys H3=>X.Inv H3/\bC X.Free H2 H3/\ys.length=i/\dZ K H3 ys ((List.range i).map fun p=>kN X v p k)) ⟨I.same i2 (aD.new hD),bC.of (aD.new hD),rfl,.nil⟩ (by rintro i ys H3 _ ⟨_,f3,_⟩;exact aO.of (f3.k _ _ fl2 e2)) ?_ ?_
  ·rintro i x ys H3 hr3 h3 ⟨i3,f3,l3,pv⟩
   obtain⟨r,er,rfl⟩:=wN hr3
   have hi:i<X.M.many v.s0 v.t0:=by have:=(List.getElem?_eq_some_iff.mp er).1;rwa [List.length_range]at this
   rw[List.getElem?_range hi]at er
   obtain rfl:=Option.some.inj er
   have hA3:=hA.mv (f02.trans f3)
   obtain⟨d3,e3⟩:=hA3.at_
   refine⟨_,rfl,v.b,d3,_,rfl,e3,gA v (by decide+kernel),_,rfl,_,rfl,X,v,k,i,rfl,I,hA3,i3,ok,hi,fun H4 y i4 f4 py=> ?_⟩
   have h4D:=f4.k _ _ (I.new i2 hD) h3
   have kt5:bF H4 (upd H4 D (.lst (ys++ [y]))):=fun b xs eb=>by
    rw[aG (fun z=>by rw[z,h4D]at eb;cases eb)]
    exact eb
   refine⟨h4D,cQ (by omega),I.on i2 hD i4 h4D,(f3.trans f4).on hD,by rw[List.length_append,l3];rfl,?_⟩
   rw[List.range_succ,List.map_append]
   exact dZ.snoc (py.keep kt5) ((pv.keep f4.kt).keep kt5)
  ·rintro ys H3 h3 ⟨i3,f3,l3,pv⟩
   rw[nX,List.length_range]at pv
   exact q H3 D ys i3 (f02.trans f3) (f02.back hD) h3 pv
def TpAt(H:Hp)(x:V)(z:Addr×Str×Str×Nat):Prop:=∃t,x= .ref t/\H t=some (.tup [.str z.2.1,.str z.2.2.1,.int (z.2.2.2:Int)])
def jD(H:Hp):List V->List (Addr×Str×Str×Nat)->Prop:=Paired (TpAt H)
theorem jD.keep{H H':Hp}(k:bF H H'):∀{xs:List V} {zs:List (Addr×Str×Str×Nat)},jD H xs zs->jD H' xs zs
 |_,_,.nil=> .nil
 |_,_,.cons ⟨o,h1,h2⟩ t=> .cons ⟨o,h1,k _ _ h2⟩ (jD.keep k t)
def a1G(K:Fg)(CS CF CB CT CW CE:Addr)(spA:Sp):Sp:=fun vs H Q _=>∃(X:VC) (v:BV) (k:BC) (p:Nat),vs= [.ref v.b,.str (k.nm v),.int (p:Int)] /\SI K CS CF CB CT spA X/\gK CW CE X H v/\X.Inv H/\k.ok X v/\p<X.M.many v.s0 v.t0/\∀H' l ys,X.Inv H'->bC X.Free H H'->H l=none->H' l=some (.lst ys)->jD H' ys (nK X v p k)->Q (.ref l) H'
theorem a6j:aV ["self","column","place"] ["self","column","place"] (aN tF):=⟨rfl,rfl,rfl,by decide+kernel,rfl,by decide+kernel,by decide+kernel⟩
theorem a74{K:Fg}{CS CF CB CT CW CE:Addr}{spA:Sp}{X:VC}{v:BV}{H:Hp}(I:SI K CS CF CB CT spA X)(hA:gK CW CE X H v)(p:Nat):∀k:BC,(nK X v p k).length<=30
 | .own c=>(show 1<=30 by decide)
 | .their c=>by
  show((fK X v _).map _).length<=30
  rw[List.length_map]
  exact Nat.le_trans zG (I.nb hA.ok).2.1
theorem a7F(T:aW K mg)(Y:cU K mg CS)(Wb:bU K mg CB)(U:cI K mg CT)(W:fM K mg CW)(Z:gG K mg CE)(O:lO K mg CO)(GS:aL P w K mg base aC 12 CS "stretch" ["self","table","column","start","end"] (nR K CS CF CB CT spA))(GC:aL P w K mg base aC 12 CS "cell" ["self","table","column","place"] (iI CS CF CB CT (gN CF spA))):aL P w K mg base aC 15 CE "spots" ["self","column","place"] (a1G K CS CF CB CT CW CE spA):=by
 have GV:aL P w K mg base aC 14 CE "spots_at" ["self","column","row"] (a3q K CS CF CB CT CW CE CO spA):=a4J T Y Wb U W Z O GS GC
 have GA:aL P w K mg base aC 6 CE "asked_row" ["self","column","place"] (yH K CS CF CB CT CW CE spA):=zY T Y Wb U W Z
 have GT:aL P w K mg base aC 1 CO "told" ["self"] (a2I CO):=a5H T O
 refine Z.m_spots.known a6j (fun _ _ _ _ _ _ us hl=>eM (fun _ _ _=>rfl) us hl) (fun vs H Q E h=> ?_) (fun f cdv A outer s1 H vs Q E hr h=> ?_)
 ·obtain⟨X,v,k,p,rfl,_⟩:=h
  rfl
 ·obtain⟨X,v,k,p,rfl,I,hA,hI,ok,hp,q⟩:=h
  refine⟨_,(aI (bA (kY vB rfl rfl (by decide) (fX (bH (pv 0) Z.cl GV hr aM (aA (pv 1) (aA (bH (pv 0) Z.cl GA (hr.mono (by decide)) aM (aA (pv 1) (aA (pv 2) aE))) aE)))) (fun _ _ _ _ _=>jT) (fun _ _ _ _ _=>(eO (pv 0) O.cl GT (hr.mono (by decide)) aM))))),?_⟩
  obtain⟨dx,e⟩:=hA.at_
  refine⟨_,rfl,v.b,dx,_,rfl,e,gA v (by decide+kernel),_,rfl,_,rfl,v.b,dx,_,rfl,e,gA v (by decide+kernel),_,rfl,_,rfl,X,v,k,p,rfl,I,hA,hI,ok,hp,fun H1 s1=>⟨X,v,k,p,rfl,I,hA.mv (bC.of s1),I.same hI s1,ok,hp,fun H2 l2 xs i2 f2 hl2 e2 sp=> ?_⟩⟩
  have f02:=(bC.of s1).trans f2
  have bl:=a74 I hA p k
  generalize nK X v p k=zs at sp q bl
  have lx:xs.length=zs.length:=Paired.length sp
  refine⟨l2,rfl,⟨_,aO.of e2⟩,fun D hD=> ?_⟩
  refine kI (K:=K) (a:=l2) (xs:=xs) (fun i ys H3=>aD H2 H3/\ys.length=i/\jD H3 ys (zs.take i)) ⟨aD.new hD,rfl,.nil⟩ (by rintro i ys H3 _ ⟨s3,_⟩;exact aO.of (s3 _ _ e2)) ?_ ?_
  ·rintro i x ys H3 hx h3 ⟨s3,l3,tp⟩
   have hi:i<xs.length:=(List.getElem?_eq_some_iff.mp hx).1
   obtain⟨z,ez,o,d2,rfl,o2⟩:=a1R sp hx
   refine⟨_,rfl,o,d2,_,rfl,s3 _ _ o2,(a2w _ _ _ _).2.2.2,o,d2,_,_,_,_,rfl,s3 _ _ o2,fun t ht=> ?_⟩
   have s4:=aD.new (o:=.tup [.str z.2.1,.str z.2.2.1,.int (z.2.2.2:Int)]) ht
   have t4:upd H3 t (.tup [.str z.2.1,.str z.2.2.1,.int (z.2.2.2:Int)]) t=some (.tup [.str z.2.1,.str z.2.2.1,.int (z.2.2.2:Int)]):=aJ
   generalize upd H3 t (.tup [.str z.2.1,.str z.2.2.1,.int (z.2.2.2:Int)])=H4 at s4 t4|-
   have h4:=s4 _ _ h3
   have kt:bF H4 (upd H4 D (.lst (ys++ [.ref t]))):=fun b xs eb=>by
    rw[aG (fun z=>by rw[z,h4]at eb;cases eb)]
    exact eb
   refine⟨h4,cQ (by omega),(s3.trans s4).on hD,by rw[List.length_append,l3];rfl,?_⟩
   rw[List.take_add_one,ez]
   exact uR ⟨t,rfl,kt _ _ t4⟩ ((tp.keep (bF.of s4)).keep kt)
  ·rintro ys H3 h3 ⟨s3,l3,tp⟩
   rw[lx,List.take_length]at tp
   exact q H3 D ys (I.same i2 s3) (f02.trans (bC.of s3)) (f02.back hD) h3 tp
def spBI(K:Fg)(CS CF CB CT CW CE:Addr)(spA:Sp):Sp:=fun vs H Q _=>∃(X:VC) (v:BV) (dx:Addr) (Hb:Hp),vs= [.ref v.b,.ref v.a,.str v.key,.ref v.s1,.str v.t1,.str v.th] /\SI K CS CF CB CT spA X/\H v.b=some (.ins CE dx [])/\X.Inv Hb/\Hb v.b=none/\aD Hb H/\lX CW X Hb v.a v.s0 v.t0/\(∀H',aD Hb H'->H' v.b=some (.ins CE dx (gJ v))->gK CW CE X H' v)/\v.key∈X.M.cols v.s0 v.t0/\v.th∈X.M.cols v.s1 v.t1/\X.M.ok v.s1 v.t1/\(eI (kM X v)).length=(kM X v).length/\∀H',aD Hb H'->H' v.b=some (.ins CE dx (gJ v))->Q .non H'
abbrev Nbei:List Str:=["self","view","key","sheet","table","theirs","added"]
theorem a1z:aV Nbei ["self","view","key","sheet","table","theirs"] (aN a04):=⟨rfl,rfl,rfl,by decide+kernel,rfl,by decide+kernel,by decide+kernel⟩
theorem a4p(T:aW K mg)(Y:cU K mg CS)(Wb:bU K mg CB)(W:fM K mg CW)(Z:gG K mg CE):dJ P w K mg base aC 6 CE ["self","view","key","sheet","table","theirs"] (spBI K CS CF CB CT CW CE spA):=by
 have GK:aL P w K mg base aC 5 CE "columns" ["self"] (rG K CS CF CB CT CW CE spA):=tS T Y Wb W Z
 have GW:aL P w K mg base aC 4 CW "columns" ["self"] (sI K CS CF CB CT CW spA):=yG T Y Wb W
 have GS:aL P w K mg base aC 3 CS "columns" ["self","table"] (pA CS CB CT):=uH T Y Wb
 have G_col:bI P w K mg base aC 1 "check_column" ["column","columns"] (tZ K):=wJ T
 refine(Z.m_init.known a1z (fun _ _ _ _ _ _ us hl=>yL (fun _ _ _ _ _ _=>rfl) us hl) (fun vs H Q E h=> ?_) (fun f cdv A outer s1 H vs Q E hr h=> ?_)).init Z.mks Z.kc
 ·obtain⟨X,v,dx,Hb,rfl,_⟩:=h
  rfl
 ·obtain⟨X,v,dx,Hb,rfl,I,hp,hIb,hpb,sb,hw,mk,hk,ht,ok,onc,q⟩:=h
  refine⟨_,(aH (bR (i:=6) a1z.nd rfl (Or.inl rfl) (bH (pv 3) Y.cl GS (hr.mono (by decide)) aM (aA (pv 4) aE)))
   (aH (cC (bQ G_col (hr.mono (by decide)) aM (aA (pv 2) (aA (eO (pv 1) W.cl GW (hr.mono (by decide)) aM) aE))))
   (aH (cC (bQ G_col (hr.mono (by decide)) aM (aA (pv 5) (aA (pv 6) aE))))
   (aH (cG (pv 0) (pv 1) rfl)
   (aH (cG (pv 0) (pv 2) rfl)
   (aH (cG (pv 0) (pv 3) rfl)
   (aH (cG (pv 0) (pv 4) rfl)
   (aH (cG (pv 0) (pv 5) rfl)
   (aI (bM (cE uZ (cT a5S rfl T.len gI (aA (jR (a9v rfl) rfl T.set a6p (aA (eO (pv 0) Z.cl GK hr aM) aE)) aE)) (cT iL rfl T.len gI (aA (eO (pv 0) Z.cl GK hr aM) aE)) (cH _)) (aI cB) bP)))))))))),?_⟩
  have iH:=I.same hIb sb
  obtain⟨bd,ch,fi,kb,B,hSh,_,oc⟩:=I.sh ok
  obtain⟨⟨ds,hs⟩,hbd,hnm,hkb,hB⟩:=hSh H iH
  obtain⟨nn1,mm1,cc1,nc1⟩:=I.nb ok
  obtain⟨nn0,mm0,cc0,nc0⟩:=I.nb hw.2.1
  refine⟨_,rfl,v.s1,ds,_,rfl,hs,dC,_,rfl,v.s1,bd,ch,fi,ds,kb,v.t1,B,rfl,hs,hbd,hnm,hkb,hB,fun H1 l1 s1 hl1 e1=> ?_⟩
  rw[oc]at e1
  have sb1:=sb.trans s1
  obtain⟨_,_,dw,ew⟩:=id hw
  refine⟨_,rfl,_,rfl,v.a,dw,_,rfl,sb1 _ _ ew,mP _ _ (by decide+kernel),X,v.a,v.s0,v.t0,rfl,I,hw.fr (bC.of sb1),I.same hIb sb1,fun H2 l2 s2 hl2 e2=>⟨_,l2,_,rfl,e2,hk,?_⟩⟩
  have s12:=s1.trans s2
  refine⟨_,rfl,_,rfl,_,l1,_,rfl,s2 _ _ e1,ht,?_⟩
  have hp2:=s12 _ _ hp
  have sb2:=sb.trans s12
  refine⟨_,rfl,_,rfl,v.b,CE,dx,[],rfl,hp2,Z.cl,Z.n_view,by decide,?_⟩
  refine⟨_,rfl,_,rfl,v.b,CE,dx,_,rfl,aJ,Z.cl,Z.n_key,(show 1<1000 by decide),?_⟩
  refine⟨_,rfl,_,rfl,v.b,CE,dx,_,rfl,aJ,Z.cl,Z.n_sheet,(show 2<1000 by decide),?_⟩
  refine⟨_,rfl,_,rfl,v.b,CE,dx,_,rfl,aJ,Z.cl,Z.n_name,(show 3<1000 by decide),?_⟩
  refine⟨_,rfl,_,rfl,v.b,CE,dx,_,rfl,aJ,Z.cl,Z.n_theirs,(show 4<1000 by decide),?_⟩
  have su:∀{G:Hp} {o:HO},aD Hb G->aD Hb (upd G v.b o):=fun g x o' e=>by rw[aG (aX e hpb)];exact g _ _ e
  have s3:∀o1 o2 o3 o4 o5,aD Hb (upd (upd (upd (upd (upd H2 v.b o1) v.b o2) v.b o3) v.b o4) v.b o5):=fun o1 o2 o3 o4 o5=>su (su (su (su (su sb2))))
  have s3:=s3 (.ins CE dx (aK "view" (.ref v.a) [])) (.ins CE dx (aK "key" (.str v.key) (aK "view" (.ref v.a) []))) (.ins CE dx (aK "sheet" (.ref v.s1) (aK "key" (.str v.key) (aK "view" (.ref v.a) [])))) (.ins CE dx (aK "name" (.str v.t1) (aK "sheet" (.ref v.s1) (aK "key" (.str v.key) (aK "view" (.ref v.a) []))))) (.ins CE dx (gJ v))
  have e5:=aJ (H:=upd (upd (upd (upd H2 v.b (.ins CE dx (aK "view" (.ref v.a) []))) v.b (.ins CE dx (aK "key" (.str v.key) (aK "view" (.ref v.a) [])))) v.b (.ins CE dx (aK "sheet" (.ref v.s1) (aK "key" (.str v.key) (aK "view" (.ref v.a) []))))) v.b (.ins CE dx (aK "name" (.str v.t1) (aK "sheet" (.ref v.s1) (aK "key" (.str v.key) (aK "view" (.ref v.a) [])))))) (a:=v.b) (o:=.ins CE dx (gJ v))
  change (fun Hx:Hp=>_) (upd (upd (upd (upd (upd H2 v.b (.ins CE dx (aK "view" (.ref v.a) []))) v.b (.ins CE dx (aK "key" (.str v.key) (aK "view" (.ref v.a) [])))) v.b (.ins CE dx (aK "sheet" (.ref v.s1) (aK "key" (.str v.key) (aK "view" (.ref v.a) []))))) v.b (.ins CE dx (aK "name" (.str v.t1) (aK "sheet" (.ref v.s1) (aK "key" (.str v.key) (aK "view" (.ref v.a) [])))))) v.b (.ins CE dx (gJ v)))
  generalize upd (upd (upd (upd (upd H2 v.b (.ins CE dx (aK "view" (.ref v.a) []))) v.b (.ins CE dx (aK "key" (.str v.key) (aK "view" (.ref v.a) [])))) v.b (.ins CE dx (aK "sheet" (.ref v.s1) (aK "key" (.str v.key) (aK "view" (.ref v.a) []))))) v.b (.ins CE dx (aK "name" (.str v.t1) (aK "sheet" (.ref v.s1) (aK "key" (.str v.key) (aK "view" (.ref v.a) [])))))) v.b (.ins CE dx (gJ v))=H3 at s3 e5|-
  have hA3:=mk H3 s3 e5
  have i3:=I.same hIb s3
  have bl:(kM X v).length<=60:=by unfold kM;rw[List.length_append,List.length_map];omega
  refine⟨_,rfl,v.b,dx,_,rfl,e5,gA v (by decide+kernel),X,v,rfl,I,hA3,i3,fun H4 l4 s4 hl4 e4=>⟨l4,_,rfl,aO.of e4,by omega,fun d hd=> ?_⟩⟩
  have s5:=s4.trans (aD.new (o:=uG P w d (kR (kM X v)) (eI (kM X v)).length) hd)
  refine⟨d,_,_,rfl,aJ,_,rfl,v.b,dx,_,rfl,s5 _ _ e5,gA v (by decide+kernel),X,v,rfl,I,hA3.mv (bC.of s5),I.same i3 s5,fun H6 l6 s6 hl6 e6=>⟨.ref l6,_,rfl,.inl ⟨_,aO.of e6,rfl⟩,rfl,_,rfl,?_⟩⟩
  rw[List.length_map]
  refine dL (fun h=>absurd h ?_) (fun _=>q _ (s3.trans (s5.trans s6)) ((s5.trans s6) _ _ e5))
  rw[onc]
  simp
end
def jZ(P:Program)(w:World)(K:Fg)(mg:Str->Option Value)(base:Heap)(CF CB CT CG zt:Addr)(spg:Sp):Sp:=fun vs H Q E=>(uQ CF CB CT vs H Q E\/ uW CF CB CT vs H Q E)\/ tL P w K mg base CF CB CT CG zt spg vs H Q E
section
variable{P:Program}{w:World}{K:Fg}{mg:Str->Option Value}{base:Heap}
theorem a8a{CF CB CT CG zt:Addr}{spg:Sp}:jY (jZ P w K mg base CF CB CT CG zt spg):=fun vs H Q Q' hQ h=>by
 rcases h with(h|h)|h
 ·exact .inl (.inl (a9d vs H Q Q' hQ h))
 ·exact .inl (.inr (a55 vs H Q Q' hQ h))
 ·exact .inr (a9p vs H Q Q' hQ h)
theorem a5B(T:aW K mg){CR CF CB CT CG:Addr}(R:lF K mg CR)(Y:eW K mg CF)(Wb:bU K mg CB)(U:cI K mg CT)(Gr:qQ K CG){z:Addr×Addr}(B2:jP K mg "Finder" "gathered" "Finder.gathered" gQ z)(M:iO mg base z.1 z.2){spg:Sp}(G_gather:aL P w K mg base aC 8 CG "gather" ["self","look","many","table","column","place"] spg):aL P w K mg base aC 10 CF "attempt" ["self","cell"] (jZ P w K mg base CF CB CT CG z.2 spg):=
 (((a7z T Y Wb).le (by decide)).or ((a7Q T Y Wb U).le (by decide))|>.or (a4P T R Y Wb U Gr B2 M G_gather)).known Y.m_attempt (fun _ _ _ _ _ _ us hl=>dF (fun _ _=>rfl) us hl)
theorem sR{CS CF CB CT:Addr}{sp sp':Sp}(h:∀vs H Q,sp vs H Q E0->sp' vs H Q E0){vs:List V}{H:Hp}{Q:VK}(g:iI CS CF CB CT (gN CF sp) vs H Q E0):iI CS CF CB CT (gN CF sp') vs H Q E0:=by
 obtain⟨s,bd,ch,fi,df,kb,nm,t,p,B,fs,e,a1,a2,a3,a4,a5,a6,q⟩:=g
 refine⟨s,bd,ch,fi,df,kb,nm,t,p,B,fs,e,a1,a2,a3,a4,a5,a6,fun H1 ce x1 x2 x3=> ?_⟩
 obtain⟨fi',ce',bd',fd,lk,d0,ky,b1,b2,q2⟩:=q H1 ce x1 x2 x3
 exact⟨fi',ce',bd',fd,lk,d0,ky,b1,b2,fun H2 wl y1 y2 y3=>h _ _ _ (q2 H2 wl y1 y2 y3)⟩
def gT(g:List Int->PyData)(d:PyData):PyData:=match gO [d] []with
 | .inl d=>d
 | .inr is=>gU (g is)
def nN(m:Nat)(mk:List (aB×V)):Prop:=(mk.map (·.1)).Nodup/\∀k∈mk.map (·.1),k∈(List.range m).map fun(i:Nat)=>(.inl (i:Int):aB)
theorem nN.len{m:Nat}{mk:List (aB×V)}(h:nN m mk):mk.length<=m:=by
 have:=wG h.1 h.2
 rwa [List.length_map,List.length_map,List.length_range]at this
theorem nN.put{m:Nat}{mk:List (aB×V)}{p:Nat}{v:V}(h:nN m mk)(hp:p<m)(hn:aQ mk (.inl (p:Int):aB)=none):nN m (aR mk (.inl (p:Int):aB) v):=by
 refine⟨a1H v h.1 hn,fun k hk=> ?_⟩
 rw[wT v hn,List.map_append]at hk
 rcases List.mem_append.mp hk with hk|hk
 ·exact h.2 k hk
 ·rw[List.mem_singleton.mp hk]
  exact List.mem_map.mpr ⟨p,List.mem_range.mpr hp,rfl⟩
structure wW(K:Fg)(CS CF CB CT CG:Addr)(Hz:Hp)(X:fU)(s ch:Addr)(kb:List (aB×V))(bm:Str->BM)(m:Nat)(src:Str)(nl:Addr)(dv:Str->Str->List PyData):Prop where
 go:nD X
 tbs:∀tb∈X.tabs,tb.2=bm tb.1/\iV CS CB CT s X.bd ch X.fi kb tb.1 tb.2 Hz/\tb.2.xs.length<=30/\tb.2.ord.length<=30
 xs:X.B.xs=dA 0 m
 fin:∃df,Hz X.fi=some (.ins CF df (fG X.bd X.fd X.lk))
 gr:∃dx,Hz X.gr=some (.ins CG dx (gM nl X.fa))
 fs:X.fs=gM nl X.fa
 nl:Hz nl=some (.lst ([src].map V.str))
 ca:∃cs,Hz X.ca=some (.lst cs)/\cs.length<900
 nn:Hz X.fd=none/\Hz X.lk=none/\Hz X.mc=none
 ok:∀i,X.ok [i]
 nc:Nl X.c/\X.c∈X.B.ord
 ord:∀tb∈X.tabs,∀c∈tb.2.ord,(tb.1=X.nm/\c=X.c)\/ (Nl c/\∃ys,X.gv tb.1 c=some ys)
 gvs:∀t c ys,X.gv t c=some ys->bN K Hz ys (dv t c)/\∃B l,(t,B)∈X.tabs/\ys.length=B.xs.length/\aQ B.kvs (.inr c:aB)=some (.ref l)/\Hz l=some (.lst ys)
 src:∃ys,X.gv X.nm src=some ys
def rW(K:Fg)(zt:Addr)(Hz:Hp)(X:fU)(m:Nat)(src:Str)(dv:Str->Str->List PyData)(H:Hp):Prop:=aD Hz H/\gP jI H zt/\∃(kf kl:List (Ky×V)) (mk:List (aB×V)),H X.fd=some (.dT kf)/\H X.lk=some (.dT kl)/\H X.mc=some (.dK mk)/\dU X.Ks kf/\dU X.Ks kl/\nN m mk/\
 (∀t c p v ys,X.gv t c=some ys->aQ kf (aU t c p)=some v->cO ys (p:Int)=some v)/\
 ∀p:Nat,p<m->(aQ kf (aU X.nm X.c p)=none->aQ mk (.inl (p:Int):aB)=none)/\∀v,aQ kf (aU X.nm X.c p)=some v->Pw K Hz v (gT X.g ((dv X.nm src).getD p .none))
noncomputable def MF (X:fU) (s:Addr) (bm:Str->BM) (src:Str) (dv:Str->Str->List PyData):SM where
 ok:=fun s' t=>s'=s/\∃B,(t,B)∈X.tabs
 cols:=fun _ t=>(bm t).ord
 many:=fun _ t=>(bm t).xs.length
 val:=fun _ t c p=>if t=X.nm/\c=X.c then gT X.g ((dv X.nm src).getD p .none) else(dv t c).getD p .none
theorem a6L{m p:Nat}(h:p<m):cO (dA 0 m) (p:Int)=some (.int (p:Int)):=by
 refine gW ?_
 unfold dA
 rw[List.getElem?_map,List.getElem?_range h]
 show some (V.int (0+ (p:Int)))=_
 rw[Int.zero_add]
theorem bN.at2{H:Hp}{xs:List V}{ds:List PyData}{i:Nat}{v:V}(h:bN K H xs ds)(e:cO xs (i:Int)=some v)(hi:i<xs.length):Pv K H v (ds.getD i .none):=by
 have ld:xs.length=ds.length:=Paired.length h
 obtain⟨v',d,g1,g2,g3⟩:=bN.at h (i:=i) (by omega)
 rw[gW g1]at e
 obtain rfl:=Option.some.inj e
 rw[List.getD_eq_getElem?_getD,g2]
 exact g3
theorem a8O{xs:List V}{i:Nat}{v:V}(h:cO xs (i:Int)=some v):i<xs.length:=by
 rcases Nat.lt_or_ge i xs.length with h1|h1
 ·exact h1
 ·unfold cO lZ at h
  rw[if_pos (by omega),if_neg (by omega)]at h
  cases h
theorem Pv.uniq{H H':Hp}{v:V}{d d':PyData}(h:Pv K H v d)(h':Pv K H' v d')(s:bF H H'):d=d':=by
 rcases h with⟨i,rfl,rfl,_⟩|⟨a,y,rfl,e,rfl,_⟩
 ·rcases h' with⟨j,e1,rfl,_⟩|⟨a,y,e1,_⟩
  ·cases e1;rfl
  ·cases e1
 ·rcases h' with⟨j,e1,_⟩|⟨a',y',e1,e2,rfl,_⟩
  ·cases e1
  ·cases e1
   rw[s _ _ e]at e2
   cases e2
   rfl
noncomputable def qV (K:Fg) (zt:Addr) (Hz:Hp) (X:fU) (s:Addr) (bm:Str->BM) (m:Nat) (src:Str) (dv:Str->Str->List PyData):VC:=⟨MF X s bm src dv,fun x=>x≠X.fd/\x≠X.lk/\x≠X.mc/\x≠zt,rW K zt Hz X m src dv⟩
theorem a1j{CS CF CB CT CG:Addr}{zt:Addr}{Hz:Hp}{X:fU}{s ch:Addr}{kb:List (aB×V)}{bm:Str->BM}{m:Nat}{src:Str}{nl:Addr}{dv:Str->Str->List PyData}(S:wW K CS CF CB CT CG Hz X s ch kb bm m src nl dv)(fn:jW P w K mg base 4 Hz X.fa X.ca X.g X.ok)(hzt:Hz zt=none):
 SI K CS CF CB CT (jZ P w K mg base CF CB CT CG zt (jX P w K mg base CG)) (qV K zt Hz X s bm m src dv):=by
 have k8:=S.go.o3.k8
 have lx:X.B.xs.length=m:=by rw[S.xs,iG]
 obtain⟨n1,n2,n3⟩:=S.nn
 have hBm:bm X.nm=X.B:=((S.tbs _ S.go.hB).1).symm
 have m30:m<=30:=by rw[<- lx];exact(S.tbs _ S.go.hB).2.2.1
 have same:∀{H H':Hp},rW K zt Hz X m src dv H->aD H H'->rW K zt Hz X m src dv H':=fun⟨h1,tb,kf,kl,mk,a1,a2,a3,dQ⟩ s1=>⟨h1.trans s1,mV tb fun b o _ _ _ e=>s1 _ _ e,kf,kl,mk,s1 _ _ a1,s1 _ _ a2,s1 _ _ a3,dQ⟩
 have ga:∀{H:Hp} {kf kl:List (Ky×V)} {mk:List (aB×V)},aD Hz H->H X.fd=some (.dT kf)->H X.lk=some (.dT kl)->H X.mc=some (.dK mk)->dU X.Ks kf->dU X.Ks kl->(∀t c p v ys,X.gv t c=some ys->aQ kf (aU t c p)=some v->cO ys (p:Int)=some v)->iK P w K mg base CF CB CT CG X kf kl mk H:=fun{H kf kl mk} h1 a1 a2 a3 a4 a5 a6=>by
  obtain⟨df,ef⟩:=S.fin
  have l9:=a4.len
  refine⟨fun tb htb=> ?_,a4,a6,a2,a5,fun t c ys B g h=> ?_,?_,fn.keep (fL.of h1),a3⟩
  ·obtain⟨_,sh,_⟩:=S.tbs tb htb
   exact⟨⟨df,h1 _ _ ef⟩,⟨kb,h1 _ _ sh.2.1,sh.2.2.2.1⟩,sh.2.2.2.2.same h1,a1,by omega⟩
  ·obtain⟨_,B',l,hB',_,e1,e2⟩:=S.gvs t c ys g
   have:B=B':=((S.tbs _ h).1).trans ((S.tbs _ hB').1).symm
   rw[this]
   exact⟨l,e1,h1 _ _ e2⟩
  ·obtain⟨dx,e⟩:=S.gr
   rw[S.fs]
   exact⟨dx,h1 _ _ e⟩
 refine⟨same,fun⟨_,⟨S0,t0,_⟩,kf,kl,mk,a1,a2,a3,_⟩ hx=> ?_,fun{H H2 l o ys} ⟨b1,⟨S0,t0,_⟩,kf0,kl0,mk0,b2,b3,b4,_⟩ hl ⟨h1,tb,kf,kl,mk,a1,a2,a3,dQ⟩ hls=> ?_,fun{s' nm} ok=> ?_,fun{s' nm} ok=> ?_,?_⟩
 ·refine⟨fun y=> ?_,fun y=> ?_,fun y=> ?_,fun y=> ?_⟩
  ·rw[y,a1]at hx;cases hx
  ·rw[y,a2]at hx;cases hx
  ·rw[y,a3]at hx;cases hx
  ·rw[y,t0]at hx;cases hx
 ·have ne:∀{x:Addr} {o':HO},H x=some o'->x≠l:=fun e y=>by rw[y,hl]at e;cases e
  have u:bO l H2 (upd H2 l o):=bO.upd
  refine⟨fun x o' e=>u _ _ (ne (b1 _ _ e)) (h1 _ _ e),?_,kf,kl,mk,u _ _ (ne b2) a1,u _ _ (ne b3) a2,u _ _ (ne b4) a3,dQ⟩
  obtain⟨S1,t1,c1⟩:=tb
  refine⟨S1,u _ _ (ne t0) t1,fun c hc=> ?_⟩
  obtain⟨o1,e1,e2⟩:=c1 c hc
  exact⟨o1,u _ _ (fun y=>by rw[y,hls]at e1;cases e1) e1,e2⟩
 ·obtain⟨rfl,B,hB⟩:=ok
  obtain⟨eb,sh,_⟩:=S.tbs _ hB
  exact⟨X.bd,ch,X.fi,kb,B,fun H hI=>sh.same hI.1,congrArg (fun b:BM=>b.xs.length) eb,congrArg BM.ord eb⟩
 ·obtain⟨rfl,B,hB⟩:=ok
  obtain⟨eb,sh,x30,o30⟩:=S.tbs _ hB
  have eb:B=bm nm:=eb
  show Nl nm/\(bm nm).xs.length<=30/\(bm nm).ord.length<=30/\∀c∈(bm nm).ord,Nl c
  rw[<- eb]
  refine⟨sh.2.2.1,x30,o30,fun c hc=> ?_⟩
  rcases S.ord _ hB c hc with⟨_,rfl⟩|⟨h,_⟩
  ·exact S.nc.1
  ·exact h
 intro H s' nm c p Q hI ok hc hp q
 obtain⟨rfl,B,hB⟩:=ok
 obtain⟨eb,sh0,_⟩:=S.tbs _ hB
 have eb:B=bm nm:=eb
 have hc:c∈(bm nm).ord:=hc
 have hp:p<(bm nm).xs.length:=hp
 rw[<- eb]at hc hp
 obtain⟨h1,tb,kf,kl,mk,a1,a2,a3,a4,a5,a6,a7,a8⟩:=hI
 have G:=ga h1 a1 a2 a3 a4 a5 a7
 have hS:iV CS CB CT s' X.bd ch X.fi kb nm B H:=sh0.same h1
 obtain⟨cs,eca,lca⟩:=S.ca
 obtain⟨T0,t0,t0'⟩:=id tb
 have l9:=a4.len
 rcases S.ord _ hB c hc with⟨en,rfl⟩|⟨nlc,ys,hg⟩
 ·have en:nm=X.nm:=en
  subst en
  have:B=X.B:=eb.trans hBm
  subst this
  have hpm:p<m:=by rw[<- lx];exact hp
  have ev:(qV K zt Hz X s' bm m src dv).M.val s' X.nm X.c p=gT X.g ((dv X.nm src).getD p .none):=if_pos ⟨rfl,rfl⟩
  cases hv:aQ kf (aU X.nm X.c p)with
  |some v=>
   refine sR (fun vs H Q h=> .inl (.inl h)) (a7r S.go G hS S.nc.1 S.nc.2 hp hv fun H' s1=> ?_)
   refine q H' v (same ⟨h1,tb,kf,kl,mk,a1,a2,a3,a4,a5,a6,a7,a8⟩ s1) (bC.of s1) ?_
   rw[ev]
   exact((a8 p hpm).2 v hv).keep (bF.of (h1.trans s1))
  |none=>
   obtain⟨ya,ga'⟩:=S.src
   obtain⟨pa,Ba,lA,hBa,la,_⟩:=S.gvs _ _ _ ga'
   have eBa:Ba=X.B:=((S.tbs _ hBa).1).trans hBm
   rw[eBa,lx]at la
   obtain⟨va,ea⟩:∃va,ya[p]?=some va:=⟨_,List.getElem?_eq_getElem (by omega)⟩
   have hat:=gW ea
   have pva:=pa.at2 hat (by omega)
   obtain⟨dg,hgr⟩:=S.gr
   have tl:∀is,gO [(dv X.nm src).getD p .none] []= .inr is->X.ok is/\is.length<=100:=fun is e=>by
    have l1:is.length=1:=by have:=a2t e;simpa using this
    obtain⟨i,rfl⟩:=List.length_eq_one_iff.mp l1
    exact⟨S.ok i,(show 1<=100 by decide)⟩
   refine sR (fun vs H Q h=> .inr h) (a4F (num:=(p:Int)) (tf:=gO [(dv X.nm src).getD p .none] []) (wo:=none) S.go G (by have:=a6.len;omega) hS S.nc.1 S.nc.2 hp (by rw[S.xs];exact a6L hpm) hv tb (h1 _ _ eca) lca ((a8 p hpm).1 hv) (fun tl=>a4B (h1 _ _ hgr) (h1 _ _ S.nl) (show 1<=6 by decide) (.cons ⟨ya,va,ga',by omega,hat,pva.keep (bF.of h1)⟩ .nil)) tl fun H' v kf' kl' mk' G' tb' fr hv' ru en=> ?_)
   have hca':H' X.ca=some (.lst cs):=by
    revert en
    cases gO [(dv X.nm src).getD p .none] []with
    |inl d=>exact fun⟨_,_,_,h⟩=>h
    |inr is=>
     rintro(⟨_,_,h⟩|⟨_,_,_,_,_,h,_⟩)
     ·exact h
     ·exact h
   have up:∀x o,x≠X.fd->x≠X.lk->x≠X.mc->x≠zt->H x=some o->H' x=some o:=fun x o b1 b2 b3 b4 e=>by
    by_cases y:x=X.ca
    ·rw[y,h1 _ _ eca]at e
     rw[y,hca',e]
    ·exact fr x o b1 b2 b4 y b3 e
   have sz:aD Hz H':=fun x o e=>up x o (fun y=>by rw[y,n1]at e;cases e) (fun y=>by rw[y,n2]at e;cases e) (fun y=>by rw[y,n3]at e;cases e) (fun y=>by rw[y,hzt]at e;cases e) (h1 _ _ e)
   have fd':=G'.fnd S.go
   have mkc:nN m mk'/\(∀q:Nat,q≠p->aQ mk' (.inl (q:Int):aB)=aQ mk (.inl (q:Int):aB))/\Pw K Hz v (gT X.g ((dv X.nm src).getD p .none)):=by
    unfold gT
    revert en
    cases et:gO [(dv X.nm src).getD p .none] []with
    |inl d=>
     rintro⟨e1,⟨t,c',ys',q',e2,e3⟩,rfl,_⟩
     refine⟨a6,fun _ _=>rfl,.inl ?_⟩
     obtain⟨py',_⟩:=S.gvs _ _ _ e2
     have h0:=py'.at2 e3 (a8O e3)
     exact Pv.uniq h0 e1 (bF.of sz)▸h0
    |inr is=>
     rintro(⟨e1,_⟩|⟨_,tp,sm,_,_,_,_,_,rfl,e1⟩)
     ·cases e1
     ·refine⟨a6.put hpm ((a8 p hpm).1 hv),fun q' nq=> ?_,.inr (.inl e1)⟩
      rw[fT,if_neg (fun y=>nq (by injection y with y;omega))]
   refine q H' v ⟨sz,tb',kf',kl',mk',fd',G'.hl,G'.mc,G'.ko,G'.lo,mkc.1,G'.fo,fun p' hp'=> ?_⟩ ⟨fun x o fx e=>up x o fx.1 fx.2.1 fx.2.2.1 fx.2.2.2 e,fun x hx e=> ?_,fun x xs e=>up x _ (fun y=>by rw[y,a1]at e;cases e) (fun y=>by rw[y,a2]at e;cases e) (fun y=>by rw[y,a3]at e;cases e) (fun y=>by rw[y,t0]at e;cases e) e⟩ ?_
   ·by_cases y:p'=p
    ·subst y
     refine⟨fun e=>by{rw[hv']at e;cases e},fun v' e=> ?_⟩
     rw[hv']at e
     obtain rfl:=Option.some.inj e
     exact mkc.2.2
    ·have nk:aU X.nm X.c p'≠aU X.nm X.c p:=fun e=>y (mY e).2.2
     rw[ru _ _ p' S.go.no nk,mkc.2.1 p' y]
     exact a8 p' hp'
   ·by_cases y1:x=X.fd
    ·rw[y1,fd']at e
     cases e
    ·by_cases y2:x=X.lk
     ·rw[y2,G'.hl]at e;cases e
     ·by_cases y3:x=X.mc
      ·rw[y3,G'.mc]at e;cases e
      ·by_cases y4:x=zt
       ·obtain⟨S9,t9,_⟩:=tb'
        rw[y4,t9]at e;cases e
       ·cases e2:H x with
        |none=>exact hx e2
        |some o=>rw[up x o y1 y2 y3 y4 e2]at e;cases e
   ·rw[ev]
    exact mkc.2.2.keep (bF.of sz)
 ·obtain⟨py,B',l,hB',ly,kv,hl⟩:=S.gvs _ _ _ hg
  have:B'=B:=((S.tbs _ hB').1).trans eb.symm
  subst this
  obtain⟨B2,hB2,_,_,ru,_,kin⟩:=S.go.o3.g _ _ _ hg
  have:B2=B':=((S.tbs _ hB2).1).trans eb.symm
  subst this
  have nx:¬(nm=X.nm/\c=X.c):=fun⟨e1,e2⟩=>by
   have hg:X.gv nm c=some ys:=hg
   rw[e1,e2,S.go.no]at hg
   cases hg
  have ev:(qV K zt Hz X s' bm m src dv).M.val s' nm c p=(dv nm c).getD p .none:=if_neg nx
  obtain⟨v,evl⟩:∃v,ys[p]?=some v:=⟨_,List.getElem?_eq_getElem (by omega)⟩
  have hat:=gW evl
  have pv:=py.at2 hat (by omega)
  refine sR (fun vs H Q h=> .inl (.inr h)) (a2m (fd:=X.fd) (lk:=X.lk) (kf:=kf) (l:=l) (ys:=ys) (v:=v) (B:=B2) (G.F _ hB) hS nlc hc ru kv (h1 _ _ hl) hp hat (fun v' e'=> ?_) (by omega) fun H' kf' hk' hf' b'=> ?_)
  ·have:=a7 _ _ _ _ _ hg e'
   rw[hat]at this
   exact(Option.some.inj this).symm
  ·have sz:aD Hz H':=fun x o ex=>b' _ _ (fun y=>by rw[y,n1]at ex;cases ex) (h1 _ _ ex)
   refine q H' v ⟨sz,mV tb fun b o n _ _ e=>b' _ _ (fun y=>by rw[y,a1]at e;exact n _ (Option.some.inj e).symm) e,kf',kl,mk,hf',b' _ _ S.go.fl.symm a2,b' _ _ (fun y=>by rw[y,a1]at a3;cases a3) a3,?_,a5,a6,?_,?_⟩ ⟨fun x o fx ex=>b' _ _ fx.1 ex,fun x hx ex=> ?_,fun x xs ex=>b' _ _ (fun y=>by rw[y,a1]at ex;cases ex) ex⟩ ?_
   ·rcases hk' with rfl|rfl
    ·exact a4
    ·exact a4.put (kin p (by omega))
   ·intro t c' p' v' ys' g' e'
    rcases hk' with rfl|rfl
    ·exact a7 _ _ _ _ _ g' e'
    ·rw[fT]at e'
     by_cases h:aU t c' p'=aU nm c p
     ·rw[if_pos h]at e'
      obtain⟨rfl,rfl,rfl⟩:=mY h
      have hg:X.gv t c'=some ys:=hg
      rw[hg]at g'
      cases g'
      obtain rfl:=Option.some.inj e'
      exact hat
     ·rw[if_neg h]at e'
      exact a7 _ _ _ _ _ g' e'
   ·intro p' hp'
    have:aQ kf' (aU X.nm X.c p')=aQ kf (aU X.nm X.c p'):=by
     rcases hk' with rfl|rfl
     ·rfl
     ·rw[fT,if_neg (fun y=>nx ⟨(mY y).1.symm,(mY y).2.1.symm⟩)]
    rw[this]
    exact a8 p' hp'
   ·by_cases y:x=X.fd
    ·rw[y,hf']at ex;cases ex
    ·cases e2:H x with
     |none=>exact hx e2
     |some o=>rw[b' x o y e2]at ex;cases ex
   ·rw[ev]
    exact .inl (pv.keep (bF.of sz))
structure pI where
 s:Addr
 bd:Addr
 ch:Addr
 fi:Addr
 fd:Addr
 lk:Addr
 kb:List (aB×V)
 t:Str
 B:BM
 gv:Str->List V
 dv:Str->List PyData
structure GvOk(K:Fg)(CS CF CB CT:Addr)(Hz:Hp)(Y:pI):Prop where
 sh:iV CS CB CT Y.s Y.bd Y.ch Y.fi Y.kb Y.t Y.B Hz
 fin:∃df,Hz Y.fi=some (.ins CF df (fG Y.bd Y.fd Y.lk))
 nn:Hz Y.fd=none
 x30:Y.B.xs.length<=30
 o20:Y.B.ord.length<=20
 ord:∀c∈Y.B.ord,Nl c/\aQ Y.B.rus (.inr c:aB)=none/\(Y.gv c).length=Y.B.xs.length/\bN K Hz (Y.gv c) (Y.dv c)/\∃l,aQ Y.B.kvs (.inr c:aB)=some (.ref l)/\Hz l=some (.lst (Y.gv c))
noncomputable def ksG (Y:pI):List Ky:=Y.B.ord.flatMap fun c=>(List.range Y.B.xs.length).map fun p=>aU Y.t c p
theorem a0y(Y:pI)(h:Y.B.xs.length<=30):∀cs:List Str,(cs.flatMap fun c=>(List.range Y.B.xs.length).map fun p=>aU Y.t c p).length<=cs.length* 30
 | []=>Nat.le_refl _
 |c::cs=>by
  have:=a0y Y h cs
  rw[List.flatMap_cons,List.length_append,List.length_map,List.length_range,List.length_cons]
  omega
def InvG(Y:pI)(H:Hp):Prop:=∃kf,H Y.fd=some (.dT kf)/\dU (ksG Y) kf/\∀c∈Y.B.ord,∀p v,aQ kf (aU Y.t c p)=some v->cO (Y.gv c) (p:Int)=some v
noncomputable def uY (K:Fg) (zt:Addr) (Hz:Hp) (X:fU) (s:Addr) (bm:Str->BM) (m:Nat) (src:Str) (dv:Str->Str->List PyData) (Y:pI):VC:=
 ⟨{ok:=fun s' t=>(s'=Y.s/\t=Y.t)\/ (s'≠Y.s/\(MF X s bm src dv).ok s' t),cols:=fun s' t=>if s'=Y.s then Y.B.ord else(bm t).ord,many:=fun s' t=>if s'=Y.s then Y.B.xs.length else(bm t).xs.length,val:=fun s' t c p=>if s'=Y.s then(Y.dv c).getD p .none else(MF X s bm src dv).val s' t c p},
  fun x=>(qV K zt Hz X s bm m src dv).Free x/\x≠Y.fd,fun H=>rW K zt Hz X m src dv H/\InvG Y H⟩
theorem a73{CS CF CB CT CG:Addr}{zt:Addr}{Hz:Hp}{X:fU}{s ch:Addr}{kb:List (aB×V)}{bm:Str->BM}{m:Nat}{src:Str}{nl:Addr}{dv:Str->Str->List PyData}(S:wW K CS CF CB CT CG Hz X s ch kb bm m src nl dv)(fn:jW P w K mg base 4 Hz X.fa X.ca X.g X.ok)(hzt:Hz zt=none){Y:pI}(O:GvOk K CS CF CB CT Hz Y)(fr0:Y.fd≠X.fd/\Y.fd≠X.lk/\Y.fd≠X.mc/\Y.fd≠zt):
 SI K CS CF CB CT (jZ P w K mg base CF CB CT CG zt (jX P w K mg base CG)) (uY K zt Hz X s bm m src dv Y):=by
 have I:=a1j S fn hzt
 refine⟨fun⟨h1,kf,k1,k2⟩ s1=>⟨I.same h1 s1,kf,s1 _ _ k1,k2⟩,fun⟨h1,kf,k1,k2⟩ hx=>⟨I.new h1 hx,fun y=>by rw[y,k1]at hx;cases hx⟩,fun{H H2 l o ys} ⟨h1,kf,k1,k2⟩ hl ⟨h2,kf2,k3,k4⟩ hls=>⟨I.on h1 hl h2 hls,kf2,?_,k4⟩,fun{s' nm} ok=> ?_,fun{s' nm} ok=> ?_,?_⟩
 ·rw[aG (fun y=>by rw[y,hl]at k1;cases k1)]
  exact k3
 ·rcases ok with⟨rfl,rfl⟩|⟨n0,ok⟩
  ·exact⟨Y.bd,Y.ch,Y.fi,Y.kb,Y.B,fun H hI=>O.sh.same hI.1.1,(if_pos rfl).symm,(if_pos rfl).symm⟩
  ·obtain⟨bd,ch,fi,kb,B,h1,h2,h3⟩:=I.sh ok
   exact⟨bd,ch,fi,kb,B,fun H hI=>h1 H hI.1,h2.trans (if_neg n0).symm,h3.trans (if_neg n0).symm⟩
 ·rcases ok with⟨rfl,rfl⟩|⟨n0,ok⟩
  ·show Nl Y.t/\(if Y.s=Y.s then Y.B.xs.length else _)<=30/\(if Y.s=Y.s then Y.B.ord else _).length<=30/\∀c∈(if Y.s=Y.s then Y.B.ord else _),Nl c
   rw[if_pos rfl,if_pos rfl]
   exact⟨O.sh.2.2.1,O.x30,Nat.le_trans O.o20 (by decide),fun c hc=>(O.ord c hc).1⟩
  ·have h:=I.nb ok
   show Nl nm/\(if s'=Y.s then _ else(bm nm).xs.length)<=30/\(if s'=Y.s then _ else(bm nm).ord).length<=30/\∀c∈(if s'=Y.s then _ else(bm nm).ord),Nl c
   rw[if_neg n0,if_neg n0]
   exact h
 intro H s' nm c p Q hI ok hc hp q
 obtain⟨h1,kf,k1,k2,k3⟩:=hI
 rcases ok with⟨rfl,rfl⟩|⟨n0,ok⟩
 ·have hc:c∈(if Y.s=Y.s then Y.B.ord else(bm Y.t).ord):=hc
  have hp:p<(if Y.s=Y.s then Y.B.xs.length else(bm Y.t).xs.length):=hp
  rw[if_pos rfl]at hc hp
  have ev:(uY K zt Hz X s bm m src dv Y).M.val Y.s Y.t c p=(Y.dv c).getD p .none:=if_pos rfl
  obtain⟨nlc,ru,ly,py,l,kv,hl⟩:=O.ord c hc
  obtain⟨v,evl⟩:∃v,(Y.gv c)[p]?=some v:=⟨_,List.getElem?_eq_getElem (by omega)⟩
  have hat:=gW evl
  have pv:=py.at2 hat (by omega)
  have l9:kf.length<=600:=Nat.le_trans k2.len (Nat.le_trans (a0y Y O.x30 _) (by have:=O.o20;omega))
  obtain⟨df,ef⟩:=O.fin
  have F:dE CF CB CT H Y.fi Y.bd Y.fd Y.lk Y.t Y.B kf:=⟨⟨df,h1.1 _ _ ef⟩,⟨Y.kb,h1.1 _ _ O.sh.2.1,O.sh.2.2.2.1⟩,O.sh.2.2.2.2.same h1.1,k1,by omega⟩
  refine sR (fun vs H Q h=> .inl (.inr h)) (a2m (fd:=Y.fd) (lk:=Y.lk) (kf:=kf) (l:=l) (ys:=Y.gv c) (v:=v) (B:=Y.B) F (O.sh.same h1.1) nlc hc ru kv (h1.1 _ _ hl) hp hat (fun v' e'=> ?_) (by omega) fun H' kf' hk' hf' b'=> ?_)
  ·have:=k3 c hc p v' e'
   rw[hat]at this
   exact(Option.some.inj this).symm
  ·have sz:aD Hz H':=fun x o ex=>b' _ _ (fun y=>by rw[y,O.nn]at ex;cases ex) (h1.1 _ _ ex)
   obtain⟨_,tb,kx,kl,mk,a1,a2,a3,dQ⟩:=h1
   refine q H' v ⟨⟨sz,mV tb fun b o n _ _ e=>b' _ _ (fun y=>by rw[y,k1]at e;exact n _ (Option.some.inj e).symm) e,kx,kl,mk,b' _ _ fr0.1.symm a1,b' _ _ fr0.2.1.symm a2,b' _ _ fr0.2.2.1.symm a3,dQ⟩,kf',hf',?_,?_⟩ ⟨fun x o fx ex=>b' _ _ fx.2 ex,fun x hx ex=> ?_,fun x xs ex=>b' _ _ (fun y=>by rw[y,k1]at ex;cases ex) ex⟩ ?_
   ·rcases hk' with rfl|rfl
    ·exact k2
    ·exact k2.put (List.mem_flatMap.mpr ⟨c,hc,List.mem_map.mpr ⟨p,List.mem_range.mpr hp,rfl⟩⟩)
   ·intro c' hc' p' v' e'
    rcases hk' with rfl|rfl
    ·exact k3 c' hc' p' v' e'
    ·rw[fT]at e'
     by_cases h:aU Y.t c' p'=aU Y.t c p
     ·rw[if_pos h]at e'
      obtain⟨_,rfl,rfl⟩:=mY h
      obtain rfl:=Option.some.inj e'
      exact hat
     ·rw[if_neg h]at e'
      exact k3 c' hc' p' v' e'
   ·by_cases y:x=Y.fd
    ·rw[y,hf']at ex;cases ex
    ·cases e2:H x with
     |none=>exact hx e2
     |some o=>rw[b' x o y e2]at ex;cases ex
   ·rw[ev]
    exact .inl (pv.keep (bF.of sz))
 ·have hc:c∈(if s'=Y.s then Y.B.ord else(bm nm).ord):=hc
  have hp:p<(if s'=Y.s then Y.B.xs.length else(bm nm).xs.length):=hp
  rw[if_neg n0]at hc hp
  have ev:(uY K zt Hz X s bm m src dv Y).M.val s' nm c p=(qV K zt Hz X s bm m src dv).M.val s' nm c p:=if_neg n0
  refine I.cel h1 ok hc hp fun H' v i' f' pv=>q H' v ⟨i',kf,f'.k _ _ fr0 k1,k2,k3⟩ ⟨fun x o fx e=>f'.k x o fx.1 e,f'.nn,f'.kt⟩ ?_
  rw[ev]
  exact pv
end
theorem a6d:bootBuiltins "max"=some (.builtin "max"):=by kernel_rfl
section
variable{P:Program}{w:World}{K:Fg}{mg:Str->Option Value}{base:Heap}
def yO(K:Fg):Sp:=fun vs H Q _=>∃(a:Addr) (ns:List Int) (k:Nat),vs= [.ref a,.int (k:Int)] /\aO K H a (ns.map V.int)/\∀z:Int,Q (.int z) H
theorem a40:aV ["_law_script","_law_k"] ["_law_script","_law_k"] (aN a2s):=⟨rfl,rfl,rfl,by decide+kernel,rfl,by decide+kernel,by decide+kernel⟩
theorem a27(T:aW K mg):bI P w K mg base aC 1 "_law_cell_at" ["_law_script","_law_k"] (yO K):=by
 refine T.d_law_cell_at.known a40 (fun _ _ _ _ _ _ us hl=>dF (fun _ _=>rfl) us hl) (fun vs H Q E h=> ?_) (fun f cdv A outer s H vs Q E hr h=> ?_)
 ·obtain⟨a,ns,k,rfl,_⟩:=h
  rfl
 ·obtain⟨a,ns,k,rfl,hS,q⟩:=h
  refine⟨_,(aH (bM (cE vP (pv 1) (cT iL rfl T.len gI (aA (pv 0) aE)) (cH _)) (aI (bA (cJ gZ (pv 0) (pv 1) (fun _ _=>rfl)))) bP)
   (aI (bA bJ))),?_⟩
  refine⟨_,rfl,_,rfl,.ref a,(ns.map V.int).length,rfl,.inl ⟨_,hS,rfl⟩,_,_,rfl,rfl,_,rfl,?_⟩
  refine dL (fun h=> ?_) (fun _=>q 0)
  have hk:k<ns.length:=by
   have:=of_decide_eq_true h
   rw[List.length_map]at this
   omega
  exact⟨_,rfl,_,rfl,a,_,(k:Int),.int (ns[k]'hk),rfl,rfl,hS,gW (by rw[List.getElem?_map,List.getElem?_eq_getElem hk];rfl),q _⟩
def fC:Int:=10^ (60:Int).toNat
theorem xE{j:Int}(h1: -fC<j)(h2:j<fC):fR (.int j)=true:=by
 show decide ((if j<0 then-j else j)<fC)=true
 rw[decide_eq_true_eq]
 split<;>omega
theorem a9w:(1000:Int)<fC:=by unfold fC;decide+kernel
theorem a7d{i:Int}(h:fR (.int i)=true): -fC<i/\i<fC:=by
 have h:decide ((if i<0 then-i else i)<fC)=true:=h
 rw[decide_eq_true_eq]at h
 split at h<;>omega
noncomputable def rV:Int:=10^ (59:Int).toNat
theorem a5Z:fC=10* rV/\(1000:Int)<rV:=by unfold fC rV;decide+kernel
theorem a2W{i:Int}(h:fR (.int i)=true):gU (.int i)= .int i:=by
 unfold gU
 rw[if_pos (show jS (.int i)=true by show(fR (.int i)||_)=true;rw[h];rfl)]
theorem a0t{i:Int}(h:fR (.int i)=false):gU (.int i)=yK:=by
 unfold gU
 rw[if_neg (show¬jS (.int i)=true by show¬(fR (.int i)||hV (.int i))=true;rw[h];exact Bool.false_ne_true)]
def gD(is:List Int):PyData:=.int (2* is.headD 0)
theorem a3p(i:Int):gT gD (.int i)=gU (.int (2* i)):=rfl
theorem a50(y:Str):gT gD (.tuple [.str "fault",.str y])= .tuple [.str "fault",.str y]:=rfl
def Bw(d:PyData):Prop:=(∃i,d= .int i/\((0<=i/\i<=3)\/ (fC- 2<=i/\i<fC)))\/ ∃y,d= .tuple [.str "fault",.str y]
theorem nl45:Nl ("bad":Str)/\Nl ("odd":Str)/\Nl ("lacks":Str):=by unfold Nl;decide+kernel
def spLv(K:Fg):Sp:=fun vs H Q _=>∃i:Int,vs= [.int i] /\∀H' v d,aD H H'->Pv K H' v d->Bw d->Q v H'
theorem a6a:aV ["_law_number"] ["_law_number"] (aN a2b):=⟨rfl,rfl,rfl,by decide+kernel,rfl,by decide+kernel,by decide+kernel⟩
theorem a5I(T:aW K mg):bI P w K mg base aC 1 "_law_value" ["_law_number"] (spLv K):=by
 refine T.d_law_value.known a6a (fun _ _ _ _ _ _ us hl=>eD (fun _=>rfl) us hl) (fun vs H Q E h=> ?_) (fun f cdv A outer s H vs Q E hr h=> ?_)
 ·obtain⟨i,rfl,_⟩:=h
  rfl
 ·obtain⟨i,rfl,q⟩:=h
  refine⟨_,(aH (bM (cE oN (bY jK (pv 0) bJ) bJ (cH _)) (aI (bA (fA (aA cF (aA (cJ gZ (fW (aA cF (aA cF (aA cF aE)))) (bY jK (bY oU (pv 0) bJ) bJ) (fun _ _=>rfl)) aE))))) bP)
   (aH (bM (cE oN (bY jK (pv 0) bJ) bJ (cH _)) (aI (bA (bY yS (bY yS (bY zJ bJ bJ) bJ) (bY jK (bY oU (pv 0) bJ) bJ)))) bP)
   (aI (bA (bY jK (bY oU (pv 0) bJ) bJ))))),?_⟩
  have pb:=a9w
  refine⟨_,rfl,_,_,rfl,rfl,(show(0:Int)<6 by decide),rfl,_,rfl,dL (fun _=> ?_) (fun _=> ?_)⟩
  ·refine⟨sl,fun l hl=> ?_⟩
   refine⟨_,rfl,_,_,rfl,rfl,⟨by decide,by decide⟩,_,_,rfl,rfl,(show(0:Int)<3 by decide),?_⟩
   have s1:=aD.new (o:=.lst [.str ("bad":Str),.str ("odd":Str),.str ("lacks":Str)]) hl
   have l1:upd H l (.lst [.str ("bad":Str),.str ("odd":Str),.str ("lacks":Str)]) l=some (.lst [.str ("bad":Str),.str ("odd":Str),.str ("lacks":Str)]):=aJ
   generalize upd H l (.lst [.str ("bad":Str),.str ("odd":Str),.str ("lacks":Str)])=H1 at s1 l1|-
   obtain⟨n1,n2,n3⟩:=nl45
   obtain⟨k,ek,z,hz,hk⟩:∃k:Nat,i/ 6% 3=(k:Int)/\∃z:Str,Nl z/\ [V.str ("bad":Str),V.str ("odd":Str),V.str ("lacks":Str)][k]?=some (.str z):=by
    rcases(show i/ 6% 3=0\/ i/ 6% 3=1\/ i/ 6% 3=2 by omega)with h|h|h
    ·exact⟨0,h,_,n1,rfl⟩
    ·exact⟨1,h,_,n2,rfl⟩
    ·exact⟨2,h,_,n3,rfl⟩
   refine⟨l,_,_,.str z,rfl,rfl,aO.of l1,by rw[ek];exact gW hk,sl,fun p hp=> ?_⟩
   exact q _ _ (.tuple [.str "fault",.str z]) (s1.trans (aD.new hp)) (.inr ⟨p,z,rfl,aJ,rfl,hz⟩) (.inr ⟨z,rfl⟩)
  refine⟨_,rfl,_,_,rfl,rfl,(show(0:Int)<6 by decide),rfl,_,rfl,dL (fun _=> ?_) (fun _=> ?_)⟩
  ·refine⟨_,_,rfl,rfl,⟨by decide,by decide,by decide⟩,_,_,rfl,rfl,_,rfl,_,_,rfl,rfl,⟨by decide,by decide⟩,_,_,rfl,rfl,(show(0:Int)<2 by decide),_,_,rfl,rfl,?_⟩
   show Q (.int (fC- 1- i/ 6% 2)) H
   have h1:fC- 2<=fC- 1- i/ 6% 2/\fC- 1- i/ 6% 2<fC:=by omega
   exact q _ _ (.int (fC- 1- i/ 6% 2)) (aD.refl _) (.inl ⟨_,rfl,rfl,xE (by omega) (by omega)⟩) (.inl ⟨_,rfl,.inr h1⟩)
  ·refine⟨_,rfl,_,_,rfl,rfl,⟨by decide,by decide⟩,_,_,rfl,rfl,(show(0:Int)<4 by decide),?_⟩
   exact q _ _ (.int (i/ 6% 4)) (aD.refl _) (.inl ⟨_,rfl,rfl,xE (by omega) (by omega)⟩) (.inl ⟨_,rfl,.inl (by omega)⟩)
def zZ(K:Fg):Sp:=fun vs H Q _=>∃(a:Addr) (ns:List Int) (k m:Nat),vs= [.ref a,.int (k:Int),.int (m:Int)] /\aO K H a (ns.map V.int)/\k<=100/\m<=6/\∀H' l ys ds,aD H H'->H l=none->H' l=some (.lst ys)->ys.length=m->bN K H' ys ds->(∀d∈ds,Bw d)->Q (.ref l) H'
theorem bN.snoc{H:Hp}{v:V}{d:PyData}(h:Pv K H v d):∀{vs:List V} {ds:List PyData},bN K H vs ds->bN K H (vs++ [v]) (ds++ [d])
 |_,_,.nil=> .cons h .nil
 |_,_,.cons h' t=> .cons h' (bN.snoc h t)
theorem tT:aV ["_law_script","_law_at","_law_many","_law_values_here","_law_r","_law_cell"] ["_law_script","_law_at","_law_many"] (aN a0x):=⟨rfl,rfl,rfl,by decide+kernel,rfl,by decide+kernel,by decide+kernel⟩
theorem a5U(T:aW K mg):bI P w K mg base aC 2 "_law_values" ["_law_script","_law_at","_law_many"] (zZ K):=by
 have G_law_cell_at:bI P w K mg base aC 1 "_law_cell_at" ["_law_script","_law_k"] (yO K):=a27 T
 have G_law_value:bI P w K mg base aC 1 "_law_value" ["_law_number"] (spLv K):=a5I T
 refine T.d_law_values.known tT (fun _ _ _ _ _ _ us hl=>eM (fun _ _ _=>rfl) us hl) (fun vs H Q E h=> ?_) (fun f cdv A outer s H vs Q E hr h=> ?_)
 ·obtain⟨a,ns,k,m,rfl,_⟩:=h
  rfl
 ·obtain⟨a,ns,k,m,rfl,hS,k100,m6,q⟩:=h
  refine⟨_,(aH (bR (i:=3) tT.nd rfl (Or.inl rfl) (fW aE))
   (aH (jO PassesOwn.never rfl (tO rfl T.range (aA (pv 2) aE)) (fH (i:=4) tT.nd rfl (Or.inl rfl)) (aH (bR (i:=5) tT.nd rfl (Or.inl rfl) (bQ G_law_cell_at (hr.mono (by decide)) aM (aA (pv 0) (aA (bY tM bJ (bY jK (bY tM (pv 1) (pv 4)) (cT (a6z rfl) rfl T.max a6d (aA bJ (aA (bY yS (cT iL rfl T.len gI (aA (pv 0) aE)) bJ) aE))))) aE))))
   (aI (cC (kH PySem.F.plainAttrs_list PySem.F.slot_list_append PySem.F.type_list_append kD (pv 3) (aA (bQ G_law_value (hr.mono (by decide)) aM (aA (bY jK (bY rX (bY tM (bY tM (bY jK (pv 5) bJ) (bY rX bJ (pv 1))) (bY rX (pv 4) (pv 4))) bJ) bJ) aE)) aE))))))
   (aI (bA (pv 3))))),?_⟩
  refine⟨sl,fun l hl=> ?_⟩
  have s1:=aD.new (o:=.lst []) hl
  have e1:upd H l (.lst []) l=some (.lst []):=aJ
  generalize upd H l (.lst [])=H1 at s1 e1|-
  refine⟨_,rfl,(m:Int),rfl,by omega,by omega,?_⟩
  rw[Int.toNat_natCast]
  refine wZ (lo:=0) (n:=m) (fun r σ Hr=>∃o4 o5 zs es,σ= [some (.ref a),some (.int (k:Int)),some (.int (m:Int)),some (.ref l),o4,o5] /\aD H Hr/\Hr l=some (.lst zs)/\zs.length=r/\bN K Hr zs es/\∀d∈es,Bw d) ⟨_,_,[],[],rfl,s1,e1,rfl,.nil,fun d hd=>by{cases hd}⟩ ?_ ?_
  ·rintro r σ Hr hr' ⟨o4,o5,zs,es,rfl,sr,er,lr,pz,bz⟩
   rw[Int.zero_add]
   have hSr:=sr.seq hS
   let M:Int:=if(((ns.map V.int).length:Int)- 3)>1 then(((ns.map V.int).length:Int)- 3) else 1
   have hM:0<M:=by
    simp only[M]
    split<;>omega
   have hX:=Int.emod_nonneg ((k:Int)+ (r:Int)) (show M≠0 by omega)
   refine⟨_,rfl,_,rfl,_,rfl,_,_,rfl,rfl,_,rfl,.ref a,(ns.map V.int).length,rfl,.inl ⟨_,hSr,rfl⟩,_,_,rfl,rfl,_,_,rfl,_,_,rfl,rfl,hM,_,_,rfl,rfl,?_⟩
   refine⟨a,ns,(3+ ((k:Int)+ (r:Int))% M).toNat,by rw[Int.toNat_of_nonneg (by omega)];rfl,hSr,fun z=> ?_⟩
   refine⟨_,rfl,.inl ⟨rfl,_,aO.of er⟩,_,rfl,_,_,rfl,rfl,(show(0:Int)<1000033 by decide),_,rfl,_,_,rfl,rfl,.inl ⟨by decide,by decide⟩,_,_,rfl,rfl,_,rfl,_,rfl,_,_,rfl,rfl,.inl ⟨by omega,by omega⟩,_,_,rfl,rfl,_,_,rfl,rfl,.inr ⟨by decide,by decide⟩,_,_,rfl,rfl,(show(0:Int)<1000033 by decide),_,rfl,fun H3 y d s3 py by'=> ?_⟩
   have h3:=s3 _ _ er
   have kt:bF H3 (upd H3 l (.lst (zs++ [y]))):=fun b xs eb=>by
    rw[aG (fun z=>by rw[z,h3]at eb;cases eb)]
    exact eb
   refine⟨l,_,_,rfl,rfl,h3,cQ (by omega),?_⟩
   refine⟨_,_,_,es++ [d],rfl,(sr.trans s3).on hl,aJ,by rw[List.length_append,lr];rfl,bN.snoc (py.keep kt) ((pz.keep (bF.of s3)).keep kt),fun d' hd'=> ?_⟩
   rcases List.mem_append.mp hd' with h|h
   ·exact bz d' h
   ·rw[List.mem_singleton.mp h];exact by'
  ·rintro σ Hr ⟨o4,o5,zs,es,rfl,sr,er,lr,pz,bz⟩
   exact⟨_,rfl,q Hr l zs es sr hl er lr pz bz⟩
def spTw(K:Fg):Sp:=fun vs H Q _=>∃v d,vs= [v] /\Pv K H v d/\Bw d/\∀H' v',aD H H'->Pv K H' v' (gT gD d)->Q v' H'
theorem a87:aV ["_law_value_here"] ["_law_value_here"] (aN a3t):=⟨rfl,rfl,rfl,by decide+kernel,rfl,by decide+kernel,by decide+kernel⟩
theorem a7J(T:aW K mg):bI P w K mg base aC 1 "_law_twice" ["_law_value_here"] (spTw K):=by
 refine T.d_law_twice.known a87 (fun _ _ _ _ _ _ us hl=>eD (fun _=>rfl) us hl) (fun vs H Q E h=> ?_) (fun f cdv A outer s H vs Q E hr h=> ?_)
 ·obtain⟨v,d,rfl,_⟩:=h
  rfl
 ·obtain⟨v,d,rfl,hv,hw,q⟩:=h
  refine⟨_,(aH (bM (cM (cT jJ rfl T.isinstance iM (aA (pv 0) (aA (iB T.tuple tY) aE))) (fun _=>rfl)) (aI (bA (pv 0))) bP)
   (aH (bM (cE a0R (pv 0) (bY zJ bJ bJ) (cH _)) (aI (bA (fA (aA cF (aA cF aE))))) bP)
   (aI (bA (bY rX bJ (pv 0)))))),?_⟩
  obtain⟨e60,pb⟩:=a5Z
  refine⟨_,rfl,v,"tuple",d,_,rfl,hv.dt,tH K _,_,rfl,?_⟩
  rcases hv with⟨i,rfl,rfl,hb⟩|⟨a,y,rfl,e,rfl,hy⟩
  ·refine bK ?_
   have hw:(0<=i/\i<=3)\/ (fC- 2<=i/\i<fC):=by
    rcases hw with⟨j,ej,h⟩|⟨y,ey⟩
    ·cases ej;exact h
    ·cases ey
   refine⟨_,rfl,_,_,rfl,rfl,⟨by decide,by decide,by decide⟩,_,_,rfl,rfl,_,rfl,?_⟩
   refine dL (fun h=> ?_) (fun h=> ?_)
   ·have h:i>rV:=of_decide_eq_true h
    refine⟨sl,fun p hp=>q _ _ (aD.new hp) ?_⟩
    rw[a3p,a0t (show fR (.int (2* i))=false from by
     cases e:fR (.int (2* i))with
     |false=>rfl
     |true=>have:=a7d e;omega)]
    exact .inr ⟨p,"odd",rfl,aJ,rfl,sE⟩
   ·have h:¬i>rV:=fun e=>h (decide_eq_true e)
    have hn:fR (.int (2* i))=true:=xE (by omega) (by omega)
    refine⟨_,rfl,_,_,rfl,rfl,.inl ⟨by decide,by decide⟩,q _ _ (aD.refl _) ?_⟩
    rw[a3p,a2W hn]
    exact .inl ⟨_,rfl,rfl,hn⟩
  ·refine cD ⟨_,rfl,q _ _ (aD.refl _) ?_⟩
   exact .inr ⟨a,y,rfl,e,a50 y,hy⟩
end
end My
namespace L2
open PySem PySem.Spec PyProof.Rows
theorem a5k{cp:List (Nat×Str)}{tt:TT}{te:TE}{σ:St}{lo:Int}{n:Nat}{D:Addr}{Q:VK}{H1:Hp}(Pv:Nat->List V->Hp->Prop)(h0:Pv 0 [] (upd H1 D (.lst [])))
 (hs:∀i ys H,i<n->H D=some (.lst ys)->Pv i ys H->tt (some (.int (lo+ i))::dG cp σ) H fun b H4=>if b=true then te (some (.int (lo+ i))::dG cp σ) H4 (kU D Pv i ys) else∃ys',H4 D=some (.lst ys')/\Pv (i+ 1) ys' H4)
 (hd:∀ys H,H D=some (.lst ys)->Pv n ys H->Q (.ref D) H):nO cp tt te σ (lQ lo n) D Q H1:=by
 refine⟨fun i m H=>m=n- i/\i<=n/\∃ys,H D=some (.lst ys)/\Pv i ys H,⟨n,by simp,Nat.zero_le _,[],aJ,h0⟩,?_⟩
 rintro i m H ⟨rfl,hi,ys,hD,p⟩
 by_cases hlt:i<n
 ·refine .inr ⟨hlt,kU D Pv i ys,fun H4=>∃ys',H4 D=some (.lst ys')/\Pv (i+ 1) ys' H4,fun y H5 ⟨h1,h2,h3⟩=>⟨ys,n- (i+ 1),h1,h2,by omega,rfl,hlt,_,aJ,h3⟩,fun H4 ⟨ys',h1,h2⟩=>⟨n- (i+ 1),by omega,rfl,hlt,ys',h1,h2⟩,fun v H' y=> ?_⟩
  obtain⟨e,rfl⟩:=y
  subst e
  exact hs i ys _ hlt hD p
 ·have e:i=n:=by omega
  subst e
  exact .inl ⟨Nat.le_refl _,hd ys H hD p⟩
end L2
namespace My
open PySem L2
theorem Vd.eqv{d:PyData}(h:Vd d):PyData.eqv d d=true:=by
 rcases h with⟨i,rfl,_⟩|⟨y,rfl,_⟩<;>simp[PyData.eqv,PyData.eqvAll]
theorem a0G:∀{ds:List PyData},(∀d∈ds,PyData.eqv d d=true)->PyData.eqvAll ds ds=true
 | [],_=>by simp[PyData.eqvAll]
 |d::ds,h=>by
  simp only[PyData.eqvAll,Bool.and_eq_true]
  exact⟨h d List.mem_cons_self,a0G fun x hx=>h x (List.mem_cons_of_mem _ hx)⟩
theorem vS{ds:List PyData}(h:∀d∈ds,PyData.eqv d d=true):PyData.eqv (.list ds) (.list ds)=true:=by
 have:=a0G h
 simp only[PyData.eqv]
 exact this
theorem xW{ds:List PyData}{n:Nat}(h:∀d∈ds,d.canLay0=true/\d.depth<=n):(PyData.list ds).canLay0=true/\(PyData.list ds).depth<=n+ 1:=by
 have:PyData.canLayAll0 ds=true/\PyData.depthAll ds<=n:=by
  induction ds with
  |nil=>exact⟨rfl,Nat.zero_le _⟩
  |cons d ds ih=>
   obtain⟨h1,h2⟩:=ih fun x hx=>h x (List.mem_cons_of_mem _ hx)
   obtain⟨g1,g2⟩:=h d List.mem_cons_self
   refine⟨?_,?_⟩
   ·show(d.canLay0&&PyData.canLayAll0 ds)=true
    rw[g1,h1]
    rfl
   ·show max d.depth (PyData.depthAll ds)<=n
    omega
 exact⟨this.1,Nat.succ_le_succ this.2⟩
theorem a1m{ds:List PyData}(h:∀d∈ds,Vd d):(PyData.list ds).canLay0=true/\(PyData.list ds).depth<=64/\PyData.eqv (.list ds) (.list ds)=true:=by
 obtain⟨a,b⟩:=xW (n:=62) fun d hd=>(h d hd).lay
 exact⟨a,Nat.le_trans b (by decide),vS fun d hd=>(h d hd).eqv⟩
noncomputable def lP (z:Addr×Str×Str×Nat):PyData:=.tuple [.str z.2.1,.str z.2.2.1,.int (z.2.2.2:Int)]
theorem a2a{zs:List (Addr×Str×Str×Nat)}(h:∀z∈zs,Nl z.2.1/\Nl z.2.2.1):(PyData.list (zs.map lP)).canLay0=true/\(PyData.list (zs.map lP)).depth<=64/\PyData.eqv (.list (zs.map lP)) (.list (zs.map lP))=true:=by
 obtain⟨a,b⟩:=xW (n:=1) (ds:=zs.map lP) fun d hd=>by
  obtain⟨z,hz,rfl⟩:=List.mem_map.mp hd
  refine⟨?_,(show 1<=1 by decide)⟩
  show((PyData.canLay0 (.str z.2.1))&&((PyData.canLay0 (.str z.2.2.1))&&(true&&true)))=true
  rw[(h z hz).1.lay,(h z hz).2.lay]
  rfl
 refine⟨a,Nat.le_trans b (by decide),vS fun d hd=> ?_⟩
 obtain⟨z,hz,rfl⟩:=List.mem_map.mp hd
 simp[lP,PyData.eqv,PyData.eqvAll]
theorem jD.dt{K:Fg}{H:Hp}:∀{xs:List V} {zs:List (Addr×Str×Str×Nat)},jD H xs zs->dD K H xs (zs.map lP)
 |_,_,.nil=> .nil
 |_,_,.cons ⟨o,h1,h2⟩ t=> .cons (by rw[h1];exact .tup (bW.of h2) (.cons (.str _) (.cons (.str _) (.cons (.int _) .nil)))) (jD.dt t)
noncomputable def nA (tds:List PyData):PyData->List Nat
 | .int i=>(List.range tds.length).filter fun q=>eQ i (tds.getD q .none)
 |_=> []
noncomputable def beD (tds vds:List PyData) (d:PyData):PyData:=match d with
 | .int _=>(match nA tds d with| []=> .tuple [.str "fault",.str "lacks"]|q::_=>vds.getD q .none)
 |_=>d
theorem a19{n q:Nat}{f:Nat->PyData}(h:q<n):((List.range n).map f).getD q .none=f q:=by
 rw[List.getD_eq_getElem?_getD,List.getElem?_map,List.getElem?_range h]
 rfl
theorem a3D(X:VC)(v:BV)(d:PyData):nA ((List.range (X.M.many v.s1 v.t1)).map (X.M.val v.s1 v.t1 v.th)) d=fK X v d:=by
 cases d with
 |int i=>
  show List.filter _ _=List.filter _ _
  rw[List.length_map,List.length_range]
  refine List.filter_congr fun q hq=> ?_
  rw[a19 (List.mem_range.mp hq)]
 |_=>rfl
theorem a7N(X:VC)(v:BV)(c:Str)(d:PyData):beD ((List.range (X.M.many v.s1 v.t1)).map (X.M.val v.s1 v.t1 v.th)) ((List.range (X.M.many v.s1 v.t1)).map (X.M.val v.s1 v.t1 c)) d=yW X v c d:=by
 cases d with
 |int i=>
  show(match nA _ (.int i)with| []=>_|q::_=>_)=(match fK X v (.int i)with| []=>_|q::_=>_)
  rw[a3D]
  cases e:fK X v (.int i)with
  |nil=>rfl
  |cons q r=>exact a19 (a0X (X:=X) (v:=v) (d:=.int i) (by rw[e];exact List.mem_cons_self))
 |_=>rfl
section
variable{P:Program}{w:World}{K:Fg}{mg:Str->Option Value}{base:Heap}{CS CF CB CT CW CO CE:Addr}{spA:Sp}
theorem Pv.pw{H:Hp}{v:V}{d:PyData}(h:Pv K H v d):Pw K H v d:=.inl h
def yC(K:Fg):Sp:=fun vs H Q _=>∃(k:V) (kd:PyData) (tl:Addr) (ts:List V) (tds:List PyData),vs= [k,.ref tl] /\Pv K H k kd/\H tl=some (.lst ts)/\bN K H ts tds/\ts.length<=30/\∀H' l,aD H H'->H l=none->H' l=some (.lst (eL (nA tds kd)))->Q (.ref l) H'
theorem a5u:aV ["_law_key","_law_theirs"] ["_law_key","_law_theirs"] (aN qT):=⟨rfl,rfl,rfl,by decide+kernel,rfl,by decide+kernel,by decide+kernel⟩
theorem a1f(T:aW K mg):bI P w K mg base aC 1 "_law_matches" ["_law_key","_law_theirs"] (yC K):=by
 refine T.d_law_matches.known a5u (fun _ _ _ _ _ _ us hl=>dF (fun _ _=>rfl) us hl) (fun vs H Q E h=> ?_) (fun f cdv A outer s H vs Q E hr h=> ?_)
 ·obtain⟨k,kd,tl,ts,tds,rfl,_⟩:=h
  rfl
 ·obtain⟨k,kd,tl,ts,tds,rfl,hk,htl,hts,t30,q⟩:=h
  have hcl:∀x,(cY aC P w K mg base ["_law_key","_law_theirs"] "_law_matches" (aN qT) f cdv A outer s H E).nox.env.scope.names.lookup x=some .cell->∃c,(cY aC P w K mg base ["_law_key","_law_theirs"] "_law_matches" (aN qT) f cdv A outer s H E).nox.env.cells.lookup x=some c:=fun x hx=>Option.isSome_iff_exists.mp (PySem.W.cellsFrom_some _ _ _ (.inl hx))
  refine⟨_,(aH (bM (cM (cT jJ rfl T.isinstance iM (aA (pv 0) (aA (iB T.tuple tY) aE))) (fun _=>rfl)) (aI (bA (fW aE))) bP)
   (aI (bA (kY (tt:=qH (lY (fun x y H Q=>∃dx dy,Dt K H x dx/\Dt K H y dy/\dx.canLay0=true/\dy.canLay0=true/\dx.depth<=64/\Q (.bl (PyData.eqv dx dy)) H) (lY (rIxL K) (fN 2) (fN 0)) (fN 1))) (iY (sc:=aN qT) (N:=["_law_key","_law_theirs"]) (cp:=[(0,"_law_key"),(1,"_law_theirs")]) hcl) rfl rfl (by decide) (tO rfl T.range (aA (cT iL rfl T.len gI (aA (pv 1) aE)) aE)) (fun _ _ _ _ _=>(a1w (cE (pY hr.units) (cJ gZ (pv 2) (pv 0) (fun _ _=>rfl)) (pv 1) (cH _)))) (fun _ _ _ _ _=>(pv 0)))))),?_⟩
  refine⟨_,rfl,k,"tuple",kd,_,rfl,hk.dt,tH K _,_,rfl,?_⟩
  have ld:ts.length=tds.length:=Paired.length hts
  rcases hk with⟨i,rfl,rfl,hb⟩|⟨a,y,rfl,e,rfl,hy⟩
  ·refine bK ?_
   refine⟨_,rfl,.ref tl,ts.length,rfl,.inl ⟨_,aO.of htl,rfl⟩,(ts.length:Int),rfl,by omega,by omega,fun D hD=> ?_⟩
   rw[Int.toNat_natCast]
   refine a5k (lo:=0) (n:=ts.length) (fun n zs H4=>aD H H4/\zs=eL ((List.range n).filter fun q=>eQ i (tds.getD q .none))) ⟨aD.new hD,rfl⟩ ?_ ?_
   ·rintro n zs H4 hn h4 ⟨s4,rfl⟩
    rw[Int.zero_add]
    obtain⟨x',d',g1,g2,g3⟩:=bN.at (hts.keep (bF.of s4)) (i:=n) (by omega)
    have ed:tds.getD n .none=d':=by rw[List.getD_eq_getElem?_getD,g2];rfl
    have lz:(eL ((List.range n).filter fun q=>eQ i (tds.getD q .none))).length<900:=by
     rw[nX]
     have:=List.length_filter_le (fun q=>eQ i (tds.getD q .none)) (List.range n)
     rw[List.length_range]at this
     omega
    have fs:(List.range (n+ 1)).filter (fun q=>eQ i (tds.getD q .none))=(List.range n).filter (fun q=>eQ i (tds.getD q .none))++ (if eQ i d'=true then [n] else []):=by
     rw[List.range_succ,List.filter_append]
     congr 1
     show [n].filter _=_
     by_cases eq:eQ i d'=true
     ·rw[if_pos eq];simp[ed,eq,-List.getD_eq_getElem?_getD]
     ·rw[if_neg eq];simp[ed,eq,-List.getD_eq_getElem?_getD]
    have ok2:(∃j,d'= .int j)\/ ∃y,d'= .tuple [.str "fault",.str y]:=g3.pw.two.imp (fun⟨j,_,h⟩=>⟨j,h⟩) (fun⟨y,h,_⟩=>⟨y,h⟩)
    have lay:=g3.vd.lay
    refine⟨_,rfl,_,rfl,tl,_,(n:Int),x',rfl,rfl,aO.of (s4 _ _ htl),gW g1,_,rfl,d',.int i,g3.dt,.int i,lay.1,rfl,Nat.le_trans lay.2 (by decide),_,rfl,?_⟩
    rw[a1M ok2]
    cases eh:eQ i d' with
    |true=>
     rw[if_pos eh]at fs
     refine cD ⟨_,rfl,h4,cQ (by omega),s4.on hD,?_⟩
     rw[fs]
     unfold eL
     rw[List.map_append]
     rfl
    |false=>
     rw[if_neg (by rw[eh];exact Bool.false_ne_true)]at fs
     exact bK ⟨_,h4,s4,by rw[fs,List.append_nil]⟩
   ·rintro zs H4 h4 ⟨s4,rfl⟩
    refine q H4 D s4 hD ?_
    show H4 D=some (.lst (eL ((List.range tds.length).filter fun q=>eQ i (tds.getD q .none))))
    rw[<- ld]
    exact h4
  ·refine cD ⟨sl,fun l hl=> ?_⟩
   exact q _ l (aD.new hl) hl aJ
def spLb(K:Fg):Sp:=fun vs H Q _=>∃(k:V) (kd:PyData) (tl vl:Addr) (ts xs:List V) (tds vds:List PyData),vs= [k,.ref tl,.ref vl] /\Pv K H k kd/\H tl=some (.lst ts)/\bN K H ts tds/\ts.length<=30/\H vl=some (.lst xs)/\bN K H xs vds/\xs.length=ts.length/\∀H' v',aD H H'->Pv K H' v' (beD tds vds kd)->Q v' H'
theorem a3d:aV ["_law_key","_law_theirs","_law_values_here","_law_found"] ["_law_key","_law_theirs","_law_values_here"] (aN a2L):=⟨rfl,rfl,rfl,by decide+kernel,rfl,by decide+kernel,by decide+kernel⟩
theorem a4y(ms:List Nat):(PyData.list (ms.map fun(r:Nat)=>PyData.int (r:Int))).canLay0=true/\(PyData.list (ms.map fun(r:Nat)=>PyData.int (r:Int))).depth<=64:=by
 obtain⟨a,b⟩:=xW (n:=0) (ds:=ms.map fun(r:Nat)=>PyData.int (r:Int)) fun d hd=>by
  obtain⟨z,hz,rfl⟩:=List.mem_map.mp hd
  exact⟨rfl,Nat.le_refl 0⟩
 exact⟨a,Nat.le_trans b (by decide)⟩
theorem a14{H:Hp}:∀ms:List Nat,dD K H (eL ms) (ms.map fun(r:Nat)=>PyData.int (r:Int))
 | []=> .nil
 |_::r=> .cons (.int _) (a14 r)
theorem a8b(T:aW K mg):bI P w K mg base aC 2 "_law_beside" ["_law_key","_law_theirs","_law_values_here"] (spLb K):=by
 have G_law_matches:bI P w K mg base aC 1 "_law_matches" ["_law_key","_law_theirs"] (yC K):=a1f T
 refine T.d_law_beside.known a3d (fun _ _ _ _ _ _ us hl=>eM (fun _ _ _=>rfl) us hl) (fun vs H Q E h=> ?_) (fun f cdv A outer s H vs Q E hr h=> ?_)
 ·obtain⟨k,kd,tl,vl,ts,xs,tds,vds,rfl,_⟩:=h
  rfl
 ·obtain⟨k,kd,tl,vl,ts,xs,tds,vds,rfl,hk,htl,hts,t30,hvl,hxs,lx,q⟩:=h
  refine⟨_,(aH (bM (cM (cT jJ rfl T.isinstance iM (aA (pv 0) (aA (iB T.tuple tY) aE))) (fun _=>rfl)) (aI (bA (pv 0))) bP)
   (aH (bR (i:=3) a3d.nd rfl (Or.inl rfl) (bQ G_law_matches (hr.mono (by decide)) aM (aA (pv 0) (aA (pv 1) aE))))
   (aH (bM (cE (pY hr.units) (pv 3) (fW aE) (cH _)) (aI (bA (fA (aA cF (aA cF aE))))) bP)
   (aI (bA (cJ gZ (pv 2) (cJ gZ (pv 3) bJ (fun _ _=>rfl)) (fun _ _=>rfl))))))),?_⟩
  refine⟨_,rfl,k,"tuple",kd,_,rfl,hk.dt,tH K _,_,rfl,?_⟩
  rcases hk with⟨i,rfl,rfl,hb⟩|⟨a,y,rfl,e,rfl,hy⟩
  ·refine bK ?_
   refine⟨_,rfl,_,rfl,.int i,.int i,tl,ts,tds,rfl,.inl ⟨i,rfl,rfl,hb⟩,htl,hts,t30,fun H1 l1 s1 hl1 e1=> ?_⟩
   have q:=fun H' v' s' (h:Pv K H' v' (match nA tds (.int i)with| []=> .tuple [.str "fault",.str "lacks"]|q::_=>vds.getD q .none))=>q H' v' s' h
   have lt:∀q∈nA tds (.int i),q<tds.length:=fun q hq=>List.mem_range.mp (List.mem_filter.mp hq).1
   have ld:ts.length=tds.length:=Paired.length hts
   have lv:xs.length=vds.length:=Paired.length hxs
   generalize nA tds (.int i)=ms at e1 q lt
   obtain⟨w1,w2⟩:=a4y ms
   refine⟨_,rfl,sl,fun l2 hl2=> ?_⟩
   have s2:=aD.new (o:=.lst []) hl2
   have e2:upd H1 l2 (.lst []) l2=some (.lst []):=aJ
   generalize upd H1 l2 (.lst [])=H2 at s2 e2|-
   refine⟨_,.list [],.lst (aO.of (s2 _ _ e1)) (a14 ms),.lst (aO.of e2) .nil,w1,rfl,w2,_,rfl,?_⟩
   cases ms with
   |nil=>
    refine dL (fun _=> ?_) (fun h=>absurd (by simp[PyData.eqv,PyData.eqvAll]) h)
    refine⟨sl,fun p hp=>q _ _ ((s1.trans s2).trans (aD.new hp)) ?_⟩
    exact .inr ⟨p,"lacks",rfl,aJ,rfl,yA⟩
   |cons r rs=>
    refine dL (fun h=>absurd h (by simp[PyData.eqv,PyData.eqvAll])) (fun _=> ?_)
    have hr':=lt r List.mem_cons_self
    obtain⟨x',d',g1,g2,g3⟩:=bN.at (hxs.keep (bF.of (s1.trans s2))) (i:=r) (by omega)
    refine⟨_,rfl,_,rfl,l1,_,(0:Int),.int (r:Int),rfl,rfl,aO.of (s2 _ _ e1),gW (i:=0) rfl,vl,_,(r:Int),x',rfl,rfl,aO.of (s2 _ _ (s1 _ _ hvl)),gW g1,q _ _ (s1.trans s2) ?_⟩
    show Pv K H2 x' (vds.getD r .none)
    rw[List.getD_eq_getElem?_getD,g2]
    exact g3
  ·refine cD ⟨_,rfl,q _ _ (aD.refl _) ?_⟩
   exact .inr ⟨a,y,rfl,e,rfl,hy⟩
def jV(K:Fg)(X:VC)(H:Hp)(l:Addr)(ds:List PyData):Prop:=X.Free l/\∃xs,H l=some (.lst xs)/\bN K H xs ds
theorem jV.fr{X:VC}{H H':Hp}{l:Addr}{ds:List PyData}(u:bC X.Free H H')(h:jV K X H l ds):jV K X H' l ds:=⟨h.1,let ⟨xs,a,b⟩:=h.2;⟨xs,u.k _ _ h.1 a,b.keep u.kt⟩⟩
def spLc(K:Fg)(CS CF CB CT CW CE:Addr)(spA:Sp):Sp:=fun vs H Q _=>∃(X:VC) (v:BV) (c:Str) (vl kl tl:Addr),vs= [.ref v.b,.str v.t1,.str c,.ref vl,.ref kl,.ref tl] /\SI K CS CF CB CT spA X/\gK CW CE X H v/\X.Inv H/\c∈X.M.cols v.s1 v.t1/\jV K X H vl ((List.range (X.M.many v.s1 v.t1)).map (X.M.val v.s1 v.t1 c))/\jV K X H kl ((List.range (X.M.many v.s0 v.t0)).map (X.M.val v.s0 v.t0 v.key))/\jV K X H tl ((List.range (X.M.many v.s1 v.t1)).map (X.M.val v.s1 v.t1 v.th))/\∀H',X.Inv H'->bC X.Free H H'->Q (.bl true) H'
abbrev sC:List Str:=["_law_view","_law_name","_law_column_here","_law_values_here","_law_keys","_law_theirs","_law_due","_law_shown","_law_k","_law_spots"]
theorem qJ:aV sC ["_law_view","_law_name","_law_column_here","_law_values_here","_law_keys","_law_theirs"] (aN oO):=⟨rfl,rfl,rfl,by decide+kernel,rfl,by decide+kernel,by decide+kernel⟩
theorem a5Q(T:aW K mg)(Z:gG K mg CE)(GH:aL P w K mg base aC 15 CE "shown" ["self","column"] (a1P K CS CF CB CT CW CE spA))(GP:aL P w K mg base aC 15 CE "spots" ["self","column","place"] (a1G K CS CF CB CT CW CE spA))(GL:aL P w K mg base aC 15 CE "look" ["self","column","place"] (qU K CS CF CB CT CW CE spA)):bI P w K mg base aC 16 "_law_column" ["_law_view","_law_name","_law_column_here","_law_values_here","_law_keys","_law_theirs"] (spLc K CS CF CB CT CW CE spA):=by
 have G_law_matches:bI P w K mg base aC 1 "_law_matches" ["_law_key","_law_theirs"] (yC K):=a1f T
 have G_law_beside:bI P w K mg base aC 2 "_law_beside" ["_law_key","_law_theirs","_law_values_here"] (spLb K):=a8b T
 refine T.d_law_column.known qJ (fun _ _ _ _ _ _ us hl=>yL (fun _ _ _ _ _ _=>rfl) us hl) (fun vs H Q E h=> ?_) (fun f cdv A outer s H vs Q E hr h=> ?_)
 ·obtain⟨X,v,c,vl,kl,tl,rfl,_⟩:=h
  rfl
 ·obtain⟨X,v,c,vl,kl,tl,rfl,I,hA,hI,hc,hvl,hkl,htl,q⟩:=h
  have hcl:∀x,(cY aC P w K mg base sC "_law_column" (aN oO) f cdv A outer s H E).nox.env.scope.names.lookup x=some .cell->∃c,(cY aC P w K mg base sC "_law_column" (aN oO) f cdv A outer s H E).nox.env.cells.lookup x=some c:=fun x hx=>Option.isSome_iff_exists.mp (PySem.W.cellsFrom_some _ _ _ (.inl hx))
  refine⟨_,(aH (wP (i:=6) qJ.nd rfl rfl (iY (sc:=aN oO) (N:=sC) (cp:=[(5,"_law_theirs"),(3,"_law_values_here")]) hcl) rfl rfl (by decide) (fX (pv 4)) (fun _ _ _ _ _=>jT) (fun _ _ _ _ _=>(bQ G_law_beside (hr.mono (by decide)) aM (aA (pv 0) (aA (pv 1) (aA (pv 2) aE))))) rfl)
   (aH (bR (i:=7) qJ.nd rfl (Or.inl rfl) (bH (pv 0) Z.cl GH hr aM (aA (bY kK (bY kK (pv 1) cF) (pv 2)) aE)))
   (aH (bM (PW.pt (gB (dI (cM (cT jJ rfl T.isinstance iM (aA (pv 7) (aA (iB T.list iA) aE))) (fun _=>rfl))) (gY (cE (lV hr.units) (pv 7) (pv 6) (cH _))))) (aI (bA lJ)) bP)
   (aH (jO PassesOwn.never rfl (tO rfl T.range (aA (cT iL rfl T.len gI (aA (pv 4) aE)) aE)) (fH (i:=8) qJ.nd rfl (Or.inl rfl)) (aH (wP (te:=xU (jA (fN 1) (jA (fN 2) (jA (fN 0) kT)))) (i:=9) qJ.nd rfl rfl (iY (sc:=aN oO) (N:=sC) (cp:=[(1,"_law_name"),(2,"_law_column_here")]) hcl) rfl rfl (by decide) (fX (bQ G_law_matches (hr.mono (by decide)) aM (aA (cJ gZ (pv 4) (pv 8) (fun _ _=>rfl)) (aA (pv 5) aE)))) (fun _ _ _ _ _=>jT) (fun _ _ _ _ _=>(fA (aA (pv 1) (aA (pv 2) (aA (pv 0) aE))))) rfl)
   (aI (bM (PW.pt (gB (cE (lV hr.units) (bH (pv 0) Z.cl GP hr aM (aA (bY kK (bY kK (pv 1) cF) (pv 2)) (aA (pv 8) aE))) (pv 9) (cH _)) (gY (cE (lV hr.units) (bH (pv 0) Z.cl GL hr aM (aA (bY kK (bY kK (pv 1) cF) (pv 2)) (aA (pv 8) aE))) (cJ gZ (pv 6) (pv 8) (fun _ _=>rfl)) (cH _))))) (aI (bA lJ)) bP))))
   (aI (bA lJ)))))),?_⟩
  obtain⟨nn1,mm1,cc1,nc1⟩:=I.nb hA.ok
  obtain⟨nn0,mm0,cc0,nc0⟩:=I.nb hA.wh.2.1
  have nlc:=nc1 c hc
  have d1:(".":Str).length=1:=by decide+kernel
  have d2:(v.t1++ (".":Str)).length=v.t1.length+ 1:=by rw[Str.length_append,d1]
  have l1':=nn1.2.1
  have l2':=nlc.2.1
  have vd:∀d∈(List.range (X.M.many v.s0 v.t0)).map (fun p=>kN X v p (.their c)),PyData.eqv d d=PyData.eqv d d:=fun _ _=>rfl
  obtain⟨fk,ks,ekl,pks⟩:=id hkl
  obtain⟨ft,ts,etl,pts⟩:=id htl
  obtain⟨fv,xs,evl,pxs⟩:=id hvl
  have lk:ks.length=X.M.many v.s0 v.t0:=by rw[show ks.length=_ from Paired.length pks,List.length_map,List.length_range]
  have lt:ts.length=X.M.many v.s1 v.t1:=by rw[show ts.length=_ from Paired.length pts,List.length_map,List.length_range]
  have lx:xs.length=X.M.many v.s1 v.t1:=by rw[show xs.length=_ from Paired.length pxs,List.length_map,List.length_range]
  refine⟨_,rfl,kl,rfl,⟨_,aO.of ekl⟩,fun D hD=> ?_⟩
  have fD:=I.new hI hD
  refine kI (K:=K) (a:=kl) (xs:=ks) (fun i zs H2=>aD H H2/\zs.length=i/\bN K H2 zs ((List.range i).map fun p=>kN X v p (.their c))) ⟨aD.new hD,rfl,.nil⟩ (fun i zs H2 _ h=>aO.of (h.1 _ _ ekl)) ?_ ?_
  ·rintro i x zs H2 hx h2 ⟨s2,lz,pz⟩
   have hi:i<X.M.many v.s0 v.t0:=by rw[<- lk];exact(List.getElem?_eq_some_iff.mp hx).1
   obtain⟨x',d,g1,g2,g3⟩:=bN.at (pks.keep (bF.of s2)) (i:=i) (by rw[List.length_map,List.length_range];exact hi)
   rw[g1]at hx
   obtain rfl:=Option.some.inj hx
   rw[List.getElem?_map,List.getElem?_range hi]at g2
   obtain rfl:=Option.some.inj g2
   refine⟨_,rfl,_,rfl,_,rfl,x',_,tl,vl,ts,xs,_,_,rfl,g3,s2 _ _ etl,pts.keep (bF.of s2),by omega,s2 _ _ evl,pxs.keep (bF.of s2),by omega,fun H3 y s3 py=> ?_⟩
   rw[a7N]at py
   have h3:=s3 _ _ h2
   have kt:bF H3 (upd H3 D (.lst (zs++ [y]))):=bF.upd h3 (fun _ y=>by cases y)
   refine⟨h3,cQ (by omega),(s2.trans s3).on hD,by rw[List.length_append,lz];rfl,?_⟩
   rw[List.range_succ,List.map_append]
   exact bN.snoc (py.keep kt) ((pz.keep (bF.of s3)).keep kt)
  rintro ds H1 hD1 ⟨s1,ld,pd⟩
  rw[lk]at pd ld
  have f1:bC X.Free H H1:=bC.of s1
  have i1:=I.same hI s1
  have hA1:=hA.mv f1
  obtain⟨dx,e1⟩:=hA1.at_
  have hvd:∀d∈(List.range (X.M.many v.s0 v.t0)).map (fun p=>kN X v p (.their c)),Vd d:=fun d hd=>by
   obtain⟨i,hi⟩:=List.getElem?_of_mem hd
   obtain⟨x',d',g1,g2,g3⟩:=bN.at pd (i:=i) (List.getElem?_eq_some_iff.mp hi).1
   rw[hi]at g2
   obtain rfl:=Option.some.inj g2
   exact g3.vd
  obtain⟨w1,w2,w3⟩:=a1m hvd
  refine⟨_,rfl,v.b,dx,_,rfl,e1,gA v (by decide+kernel),_,rfl,v.t1,".",rfl,rfl,sl (by omega),_,rfl,_,c,rfl,rfl,sl (by omega),X,v,.their c,rfl,I,hA1,i1,hc,fun H2 l2 ys i2 f2 hl2 e2 py=> ?_⟩
  have f02:=f1.trans f2
  have hD2:=f2.k _ _ fD hD1
  refine⟨_,rfl,.ref l2,"list",.list _,_,rfl,.lst (aO.of e2) py.dt,vA K _,_,rfl,bK ⟨_,rfl,_,rfl,_,_,.lst (aO.of e2) py.dt,.lst (aO.of hD2) (pd.keep f2.kt).dt,w1,w1,w2,_,rfl,?_⟩⟩
  rw[w3]
  refine bK ?_
  have ekl2:=f02.k _ _ fk ekl
  refine⟨_,rfl,.ref kl,ks.length,rfl,.inl ⟨_,aO.of ekl2,rfl⟩,(ks.length:Int),rfl,by omega,by omega,?_⟩
  rw[Int.toNat_natCast,lk]
  refine wZ (lo:=0) (n:=X.M.many v.s0 v.t0) (fun i σ Hi=>∃o8 o9,σ= [some (.ref v.b),some (.str v.t1),some (.str c),some (.ref vl),some (.ref kl),some (.ref tl),some (.ref D),some (.ref l2),o8,o9] /\X.Inv Hi/\bC X.Free H2 Hi) ⟨_,_,rfl,i2,bC.of (aD.refl _)⟩ ?_ ?_
  ·rintro i σ Hi hi ⟨o8,o9,rfl,ii,fi⟩
   rw[Int.zero_add]
   have f0i:=f02.trans fi
   obtain⟨x',d,g1,g2,g3⟩:=bN.at (pks.keep f0i.kt) (i:=i) (by rw[List.length_map,List.length_range];exact hi)
   rw[List.getElem?_map,List.getElem?_range hi]at g2
   obtain rfl:=Option.some.inj g2
   refine⟨_,rfl,_,rfl,kl,_,(i:Int),x',rfl,rfl,aO.of (f0i.k _ _ fk ekl),gW g1,_,rfl,x',_,tl,ts,_,rfl,g3,f0i.k _ _ ft etl,pts.keep f0i.kt,by omega,fun H3 l3 s3 hl3 e3=> ?_⟩
   rw[a3D]at e3
   have ml:=zG (X:=X) (v:=v) (d:=X.M.val v.s0 v.t0 v.key i)
   refine⟨l3,rfl,⟨_,aO.of e3⟩,fun D9 hD9=> ?_⟩
   refine kI (K:=K) (a:=l3) (xs:=eL (fK X v (X.M.val v.s0 v.t0 v.key i))) (fun j zs H4=>aD H3 H4/\zs.length=j/\jD H4 zs (((fK X v (X.M.val v.s0 v.t0 v.key i)).take j).map fun q=>(v.s1,v.t1,c,q))) ⟨aD.new hD9,rfl,.nil⟩ (fun j zs H4 _ h=>aO.of (h.1 _ _ e3)) ?_ ?_
   ·rintro j x zs H4 hx h4 ⟨s4,lz,tz⟩
    obtain⟨r,er,rfl⟩:=wN hx
    have hj:j<(fK X v (X.M.val v.s0 v.t0 v.key i)).length:=(List.getElem?_eq_some_iff.mp er).1
    refine⟨_,rfl,_,rfl,_,rfl,sl,fun t ht=> ?_⟩
    have s5:=aD.new (o:=.tup [.str v.t1,.str c,.int (r:Int)]) ht
    have t5:upd H4 t (.tup [.str v.t1,.str c,.int (r:Int)]) t=some (.tup [.str v.t1,.str c,.int (r:Int)]):=aJ
    generalize upd H4 t (.tup [.str v.t1,.str c,.int (r:Int)])=H5 at s5 t5|-
    have h5:=s5 _ _ h4
    have kt:bF H5 (upd H5 D9 (.lst (zs++ [.ref t]))):=bF.upd h5 (fun _ y=>by cases y)
    refine⟨h5,cQ (by omega),(s4.trans s5).on hD9,by rw[List.length_append,lz];rfl,?_⟩
    rw[List.take_add_one,er,List.map_append]
    exact uR ⟨t,rfl,kt _ _ t5⟩ ((tz.keep (bF.of s5)).keep kt)
   rintro zs H4 h4 ⟨s4,lz,tz⟩
   rw[nX,List.take_length]at tz
   have s34:=s3.trans s4
   have i4:=I.same ii s34
   have f4:=f0i.trans (bC.of s34)
   have hA4:=hA.mv f4
   obtain⟨d4,e4⟩:=hA4.at_
   have f9:=I.new (I.same ii s3) hD9
   refine⟨_,rfl,v.b,d4,_,rfl,e4,gA v (by decide+kernel),_,rfl,v.t1,".",rfl,rfl,sl (by omega),_,rfl,_,c,rfl,rfl,sl (by omega),_,rfl,X,v,.their c,i,rfl,I,hA4,i4,hc,hi,fun H5 l5 us i5 f5 hl5 e5 tp=> ?_⟩
   obtain⟨x1,x2,x3⟩:=a2a (zs:=nK X v i (.their c)) (fun z hz=>by
    obtain⟨q',_,rfl⟩:=List.mem_map.mp hz
    exact⟨nn1,nlc⟩)
   refine⟨_,rfl,_,_,.lst (aO.of e5) tp.dt,.lst (aO.of (f5.k _ _ f9 h4)) (jD.dt (tz.keep f5.kt)),x1,x1,x2,_,rfl,?_⟩
   rw[show PyData.eqv (.list ((nK X v i (.their c)).map lP)) (.list (((fK X v (X.M.val v.s0 v.t0 v.key i)).map fun q=>(v.s1,v.t1,c,q)).map lP))=true from x3]
   refine bK ?_
   have f05:=f4.trans f5
   have hA5:=hA.mv f05
   obtain⟨d5,e5'⟩:=hA5.at_
   refine⟨_,rfl,v.b,d5,_,rfl,e5',gA v (by decide+kernel),_,rfl,v.t1,".",rfl,rfl,sl (by omega),_,rfl,_,c,rfl,rfl,sl (by omega),_,rfl,X,v,.their c,i,rfl,I,hA5,i5,hc,hi,fun H6 y i6 f6 py6=> ?_⟩
   have f26:=((fi.trans (bC.of s34)).trans f5).trans f6
   obtain⟨x6,d6,g61,g62,g63⟩:=bN.at ((pd.keep f2.kt).keep f26.kt) (i:=i) (by rw[List.length_map,List.length_range];exact hi)
   rw[List.getElem?_map,List.getElem?_range hi]at g62
   obtain rfl:=Option.some.inj g62
   have lay:=py6.vd.lay
   refine⟨_,rfl,_,rfl,D,_,(i:Int),x6,rfl,rfl,aO.of (f26.k _ _ fD hD2),gW g61,_,_,py6.dt,g63.dt,lay.1,lay.1,Nat.le_trans lay.2 (by decide),_,rfl,?_⟩
   rw[show PyData.eqv (kN X v i (.their c)) (kN X v i (.their c))=true from py6.vd.eqv]
   exact bK ⟨_,_,rfl,i6,f26⟩
  ·rintro σ Hi ⟨o8,o9,rfl,ii,fi⟩
   exact q Hi ii (f02.trans fi)
end
abbrev xQ:List Str:=["_law_script","_law_first","_law_many","_law_other","_law_alone","_law_keys","_law_theirs","_law_things","_law_sheet","_law_name","_law_second","_law_view","_law_due","_law_column_here","_law_twice_here","_law_values_here","_law_k"]
theorem eY:aV xQ ["_law_script"] (aN jH):=⟨rfl,rfl,rfl,by decide+kernel,rfl,by decide+kernel,by decide+kernel⟩
abbrev nQ(P:Program)(w:World)(K:Fg)(mg:Str->Option Value)(base:Heap)(f c:Addr)(A:Around)(outer:List Env)(s:Shared)(H:Hp)(E:XK):Cx:=(cY aC P w K mg base xQ "law" (aN jH) f (.ref c) A outer s H E).nox
abbrev pM:List Str:=["key","match","thing","twice"]
abbrev gE:List Str:=["key"]
abbrev fZ:List Str:=["match","thing","twice"]
structure nG(P:Program)(w:World)(K:Fg)(mg:Str->Option Value)(base:Heap)(CS CF CB CT CG:Addr)(z1 z2:Addr×Addr)(X:VC)(H:Hp)(s0 s1 kl tl gl:Addr)(nm:Str)(m n:Nat):Prop where
 I:SI K CS CF CB CT (jZ P w K mg base CF CB CT CG z2.2 (jX P w K mg base CG)) X
 inv:X.Inv H
 ok0:X.M.ok s0 "t"
 ok1:X.M.ok s1 nm
 m0:X.M.many s0 "t"=m
 m1:X.M.many s1 nm=n
 cf:(X.M.cols s0 "t"=pM/\X.M.cols s1 nm=pM/\nm= "t")\/ (X.M.cols s0 "t"=gE/\X.M.cols s1 nm=fZ/\nm= "u")
 kl:jV K X H kl ((List.range m).map (X.M.val s0 "t" "key"))
 tl:jV K X H tl ((List.range n).map (X.M.val s1 nm "match"))
 gl:jV K X H gl ((List.range n).map (X.M.val s1 nm "thing"))
 bw:∀q,q<n->Bw (X.M.val s1 nm "thing" q)
 tw:∀q,q<n->X.M.val s1 nm "twice" q=gT gD (X.M.val s1 nm "thing" q)
 out:∀H',X.Inv H'->bC X.Free H H'->mL [z1,z2] H'
theorem a7b{c0 c1:List Str}{nm:Str}(h:(c0=pM/\c1=pM/\nm= "t")\/ (c0=gE/\c1=fZ/\nm= "u")):
 ("key":Str)∈c0/\("match":Str)∈c1/\("thing":Str)∈c1/\("twice":Str)∈c1/\(∀c∈c1,eS nm c∉c0)/\(∀c∈c1,(eS nm c).length<=20/\∃i r,Builtin.Str.occurrences (eS nm c) "." 0 (eS nm c).length 1=i::r/\Builtin.Str.strSub (eS nm c) (i+ (".":Str).length) (eS nm c).length=c)/\(eI (c0++ c1.map (eS nm))).length=(c0++ c1.map (eS nm)).length/\(PyData.list ((c0++ c1.map (eS nm)).map PyData.str)).canLay0=true/\(PyData.list ((c0++ c1.map (eS nm)).map PyData.str)).depth<=64/\nm.length<=8/\(∀c∈c1,c.length<=8)/\c0.length<=4/\c1.length<=4:=by
 rcases h with⟨rfl,rfl,rfl⟩|⟨rfl,rfl,rfl⟩
 ·refine⟨by decide+kernel,by decide+kernel,by decide+kernel,by decide+kernel,by decide+kernel,?_,by decide+kernel,by decide+kernel,by decide+kernel,by decide+kernel,by decide+kernel,by decide,by decide⟩
  intro c hc
  simp only[List.mem_cons,List.not_mem_nil,or_false]at hc
  rcases hc with rfl|rfl|rfl|rfl
  ·exact⟨by decide+kernel,1,[],by decide+kernel,by decide+kernel⟩
  ·exact⟨by decide+kernel,1,[],by decide+kernel,by decide+kernel⟩
  ·exact⟨by decide+kernel,1,[],by decide+kernel,by decide+kernel⟩
  ·exact⟨by decide+kernel,1,[],by decide+kernel,by decide+kernel⟩
 ·refine⟨by decide+kernel,by decide+kernel,by decide+kernel,by decide+kernel,by decide+kernel,?_,by decide+kernel,by decide+kernel,by decide+kernel,by decide+kernel,by decide+kernel,by decide,by decide⟩
  intro c hc
  simp only[List.mem_cons,List.not_mem_nil,or_false]at hc
  rcases hc with rfl|rfl|rfl
  ·exact⟨by decide+kernel,1,[],by decide+kernel,by decide+kernel⟩
  ·exact⟨by decide+kernel,1,[],by decide+kernel,by decide+kernel⟩
  ·exact⟨by decide+kernel,1,[],by decide+kernel,by decide+kernel⟩
theorem vT{K:Fg}{H:Hp}:∀cs:List Str,dD K H (cs.map V.str) (cs.map PyData.str)
 | []=> .nil
 |c::r=> .cons (.str c) (vT r)
section
variable{P:Program}{w:World}{K:Fg}{mg:Str->Option Value}{base:Heap}
theorem a6b(T:aW K mg){CS CF CB CT CG CR CW CO CE:Addr}(Y:cU K mg CS)(R:lF K mg CR)(F:eW K mg CF)(Wb:bU K mg CB)(U:cI K mg CT)(Cc:lS K mg CG)(W:fM K mg CW)(O:lO K mg CO)(Z:gG K mg CE){z1 z2:Addr×Addr}(B2:jP K mg "Finder" "gathered" "Finder.gathered" gQ z2)(M2:iO mg base z2.1 z2.2){f:Addr}(A:Around)(outer:List Env)(s:Shared)(H:Hp)(Q:VK)(E:XK)(hr:bT 17 (A.deeper (PyProof.Rows.envOfC "law" (aN jH) s.heap.objs.size f (.ref z1.1))))(q:∀H',mL [z1,z2] H'->Q (.bl true) H'):
 ∃t,eE (nQ P w K mg base f z1.1 A outer s H E) ((eG jH).drop 17) t/\
  ∀(H8:Hp) (X:VC) (s0 s1 kl tl gl:Addr) (nm:Str) (m n:Nat) (o0 o1 o3 o4:Option V),nG P w K mg base CS CF CB CT CG z1 z2 X H8 s0 s1 kl tl gl nm m n->
   t {nx:=fun _ H'=>Q .non H',rt:=Q} [o0,o1,some (.int (m:Int)),o3,o4,some (.ref kl),some (.ref tl),some (.ref gl),some (.ref s0),some (.str nm),some (.ref s1),none,none,none,none,none,none] H8:=by
 have hcl:∀x,(nQ P w K mg base f z1.1 A outer s H E).env.scope.names.lookup x=some .cell->∃c,(nQ P w K mg base f z1.1 A outer s H E).env.cells.lookup x=some c:=fun x hx=>Option.isSome_iff_exists.mp (PySem.W.cellsFrom_some _ _ _ (.inl hx))
 have GVo:aL P w K mg base aC 11 CF "value_of" ["self","cell"] (gN CF (jZ P w K mg base CF CB CT CG z2.2 (jX P w K mg base CG))):=a4V T F a8a (a5B T R F Wb U (a8c Cc) B2 M2 (a8k T Cc))
 have GC:aL P w K mg base aC 12 CS "cell" ["self","table","column","place"] (iI CS CF CB CT (gN CF (jZ P w K mg base CF CB CT CG z2.2 (jX P w K mg base CG)))):=a61 T Y F Wb U (by decide) GVo
 have GS:=a7G T Y F Wb U GVo
 have GW:dJ P w K mg base aC 4 CW ["self","sheet","table"] (spWI K CS CF CB CT CW (jZ P w K mg base CF CB CT CG z2.2 (jX P w K mg base CG))):=a5R T Y Wb U W
 have GB:dJ P w K mg base aC 6 CE ["self","view","key","sheet","table","theirs"] (spBI K CS CF CB CT CW CE (jZ P w K mg base CF CB CT CG z2.2 (jX P w K mg base CG))):=a4p T Y Wb W Z
 have GH:=a9a T Y Wb U W Z GS GC
 have GL:=a4L T Y Wb U W Z GS GC
 have GP:=a7F T Y Wb U W Z O GS GC
 have G_cols:aL P w K mg base aC 3 CS "columns" ["self","table"] (pA CS CB CT):=uH T Y Wb
 have GK:aL P w K mg base aC 5 CE "columns" ["self"] (rG K CS CF CB CT CW CE (jZ P w K mg base CF CB CT CG z2.2 (jX P w K mg base CG))):=tS T Y Wb W Z
 have GM:aL P w K mg base aC 6 CE "many" ["self"] (a2k K CS CF CB CT CW CE (jZ P w K mg base CF CB CT CG z2.2 (jX P w K mg base CG))):=a7P T Y Wb U W Z
 have G_tw:bI P w K mg base aC 1 "_law_twice" ["_law_value_here"] (spTw K):=a7J T
 have G_cl:=a5Q T Z GH GP GL
 refine⟨_,(aH (bR (i:=11) eY.nd rfl (.inl rfl) (jC GB (hr.mono (by decide)) Z.c aM (aA (jC GW (hr.mono (by decide)) W.c aM (aA (pv 8) (aA cF aE))) (aA cF (aA (pv 10) (aA (pv 9) (aA cF aE)))))))
  (aH (bR (i:=12) eY.nd rfl (.inl rfl) (bH (pv 8) Y.cl G_cols (hr.mono (by decide)) aM (aA cF aE)))
  (aH (jO PassesOwn.never rfl (fX (bH (pv 10) Y.cl G_cols (hr.mono (by decide)) aM (aA (pv 9) aE))) (fH (i:=13) eY.nd rfl (.inl rfl)) (aI (cC (kH PySem.F.plainAttrs_list PySem.F.slot_list_append PySem.F.type_list_append kD (pv 12) (aA (bY kK (bY kK (pv 9) cF) (pv 13)) aE)))))
  (aH (bM (PW.pt (gB (cE (lV hr.units) (eO (pv 11) Z.cl GK (hr.mono (by decide)) aM) (pv 12) (cH _)) (gY (cE uZ (eO (pv 11) Z.cl GM (hr.mono (by decide)) aM) (pv 2) (cH _))))) (aI (bA lJ)) bP)
  (aH (wP (i:=14) eY.nd rfl rfl vB rfl rfl (by decide) (fX (pv 7)) (fun _ _ _ _ _=>jT) (fun _ _ _ _ _=>(bQ G_tw (hr.mono (by decide)) aM (aA (pv 0) aE))) rfl)
  (aH (jO PassesOwn.never rfl (fX (fW (aA (fA (aA cF (aA (pv 6) aE))) (aA (fA (aA cF (aA (pv 7) aE))) (aA (fA (aA cF (aA (pv 14) aE))) aE))))) (uK rfl (lK (fH (i:=13) eY.nd rfl (.inl rfl)) (lK (fH (i:=15) eY.nd rfl (.inl rfl)) sM))) (aI (bM (dI (cM (bQ G_cl (hr.mono (by decide)) aM (aA (pv 11) (aA (pv 9) (aA (pv 13) (aA (pv 15) (aA (pv 5) (aA (pv 6) aE))))))) (fun _=>rfl))) (aI (bA lJ)) bP)))
  (aH (jO PassesOwn.never rfl (tO rfl T.range (aA (pv 2) aE)) (fH (i:=16) eY.nd rfl (.inl rfl)) (aI (bM (PW.pt (gB (cE (lV hr.units) (bH (pv 11) Z.cl GL (hr.mono (by decide)) aM (aA cF (aA (pv 16) aE))) (cJ gZ (pv 5) (pv 16) (fun _ _=>rfl)) (cH _)) (gY (cE (lV hr.units) (bH (pv 11) Z.cl GP (hr.mono (by decide)) aM (aA cF (aA (pv 16) aE))) (fW (aA (fA (aA cF (aA cF (aA (pv 16) aE)))) aE)) (cH _))))) (aI (bA lJ)) bP)))
  (aI (bA (nE (pY hr.units) (bH (pv 11) Z.cl GH (hr.mono (by decide)) aM (aA cF aE)) (pv 5) (cH _))))))))))),?_⟩
 intro H8 X s0 s1 kl tl gl nm m n o0 o1 o3 o4 C
 have I:=C.I
 obtain⟨hk,hm,hg,ht,dis,prt,onc,lay1,lay2,ln8,lc8,l04,l14⟩:=a7b C.cf
 obtain⟨nn1,mm1,_,nc1⟩:=I.nb C.ok1
 obtain⟨nn0,mm0,_,nc0⟩:=I.nb C.ok0
 rw[C.m1]at mm1
 rw[C.m0]at mm0
 refine⟨_,rfl,?_⟩
 intro a7 d7 h7 h7d ne7
 have s8:aD H8 (upd (upd H8 d7 (.own a7)) a7 (.ins CW d7 [])):=fun x o e=>by rw[aG (aX e h7),aG (aX e h7d)];exact e
 refine⟨X,a7,d7,s0,"t",rfl,I,aJ,I.same C.inv s8,C.ok0,fun H9 b9 e9=>⟨rfl,_,rfl,_,rfl,?_⟩⟩
 have s9:aD H8 H9:=fun x o e=>b9 _ _ (aX e h7) (s8 _ _ e)
 have i9:=I.same C.inv s9
 have w9:lX CW X H9 a7 s0 "t":=⟨I.new C.inv h7,C.ok0,d7,e9⟩
 intro b db hb hdb neb
 have sb:aD H9 (upd (upd H9 db (.own b)) b (.ins CE db [])):=fun x o e=>by rw[aG (aX e hb),aG (aX e hdb)];exact e
 have mk:∀H',aD H9 H'->H' b=some (.ins CE db (gJ ⟨b,a7,s0,"t","key",s1,nm,"match"⟩))->gK CW CE X H' ⟨b,a7,s0,"t","key",s1,nm,"match"⟩:=fun H' s' e'=>⟨I.new i9 hb,w9.fr (bC.of s'),C.ok1,hk,hm,⟨db,e'⟩,dis,prt⟩
 refine⟨X,⟨b,a7,s0,"t","key",s1,nm,"match"⟩,db,H9,rfl,I,aJ,i9,hb,sb,w9,mk,hk,hm,C.ok1,onc,fun Ha sa ea=>⟨rfl,?_⟩⟩
 have hAa:=mk Ha sa ea
 generalize hv:(⟨b,a7,s0,"t","key",s1,nm,"match"⟩:BV)=v at hAa
 obtain⟨v1,v2,v3,v4,v5,v6,v7⟩:v.b=b/\v.s0=s0/\v.t0= "t" /\v.key= "key" /\v.s1=s1/\v.t1=nm/\v.th= "match":=by rw[<- hv];exact⟨rfl,rfl,rfl,rfl,rfl,rfl,rfl⟩
 have s8a:=s9.trans sa
 have ia:=I.same C.inv s8a
 have fa:bC X.Free H8 Ha:=bC.of s8a
 obtain⟨bd0,ch0,fi0,kb0,B0,hSh0,_,oc0⟩:=I.sh C.ok0
 obtain⟨⟨ds0,es0⟩,ebd0,enm0,ekb0,eB0⟩:=hSh0 Ha ia
 refine⟨_,rfl,s0,ds0,_,rfl,es0,dC,s0,bd0,ch0,fi0,ds0,kb0,"t",B0,rfl,es0,ebd0,enm0,ekb0,eB0,fun Hb dl sb' hdl edl=> ?_⟩
 rw[oc0]at edl
 have ib:=I.same ia sb'
 obtain⟨bd1,ch1,fi1,kb1,B1,hSh1,_,oc1⟩:=I.sh C.ok1
 obtain⟨⟨ds1,es1⟩,ebd1,enm1,ekb1,eB1⟩:=hSh1 Hb ib
 refine⟨_,rfl,s1,ds1,_,rfl,es1,dC,_,rfl,s1,bd1,ch1,fi1,ds1,kb1,nm,B1,rfl,es1,ebd1,enm1,ekb1,eB1,fun Hc cl sc hcl' ecl=> ?_⟩
 rw[oc1]at ecl
 have ncd:cl≠dl:=fun y=>by rw[y,edl]at hcl';cases hcl'
 have sac:=sb'.trans sc
 refine⟨cl,rfl,⟨_,aO.of ecl⟩,?_⟩
 refine mH (K:=K) (a:=cl) (xs:=(X.M.cols s1 nm).map V.str) (fun i σ Hi=>∃o13,σ= [o0,o1,some (.int (m:Int)),o3,o4,some (.ref kl),some (.ref tl),some (.ref gl),some (.ref s0),some (.str nm),some (.ref s1),some (.ref b),some (.ref dl),o13,none,none,none] /\aD Ha Hi/\Hi cl=some (.lst ((X.M.cols s1 nm).map V.str))/\Hi dl=some (.lst ((X.M.cols s0 "t" ++ ((X.M.cols s1 nm).take i).map (eS nm)).map V.str))) ⟨_,rfl,sac,ecl,by rw[List.take_zero,List.map_nil,List.append_nil];exact sc _ _ edl⟩ (by rintro i σ Hi _ ⟨_,_,_,e,_⟩;exact aO.of e) ?_ ?_
 ·rintro i x σ Hi hx ⟨o13,rfl,si,ei,edi⟩
  rw[List.getElem?_map]at hx
  obtain⟨c,ec,rfl⟩:=Option.map_eq_some_iff.mp hx
  have hc:=List.mem_of_getElem? ec
  have d1:(".":Str).length=1:=by decide+kernel
  have d2:(nm++ (".":Str)).length=nm.length+ 1:=by rw[Str.length_append,d1]
  have lc:=lc8 c hc
  refine⟨_,rfl,.inl ⟨rfl,_,aO.of edi⟩,_,rfl,nm,".",rfl,rfl,sl (by omega),_,rfl,_,c,rfl,rfl,sl (by omega),dl,_,_,rfl,rfl,edi,cQ ?_,?_⟩
  ·rw[List.length_map,List.length_append,List.length_map,List.length_take]
   omega
  ·refine⟨_,rfl,si.on hdl,by rw[aG ncd];exact ei,?_⟩
   rw[aJ,List.take_add_one,ec,List.map_append,List.map_append,List.map_append,List.map_append,List.append_assoc]
   rfl
 rintro σ Hd ⟨o13,rfl,sd,_,edd⟩
 rw[List.length_map,List.take_length]at edd
 have fd:bC X.Free H8 Hd:=bC.of (s8a.trans sd)
 have id':=I.same ia sd
 have hAd:=hAa.mv (bC.of sd)
 obtain⟨dd,eed⟩:=hAd.at_
 rw[v1]at eed
 have bno:∀{m:Str},m∈vM++ (["is_theirs","matching"]:List Str)->(gJ v).lookup m=none:=fun h=>gA v h
 have bc:kM X v=X.M.cols s0 "t" ++ (X.M.cols s1 nm).map (eS nm):=by unfold kM;rw[v2,v3,v5,v6]
 refine⟨_,rfl,b,dd,_,rfl,eed,bno (by decide+kernel),X,v,by rw[v1];rfl,I,hAd,id',fun He le se hle ele=> ?_⟩
 rw[bc]at ele
 refine⟨_,rfl,_,_,.lst (aO.of ele) (vT _),.lst (aO.of (se _ _ edd)) (vT _),lay1,lay1,lay2,_,rfl,?_⟩
 rw[vS (fun d hd=>by obtain⟨c,_,rfl⟩:=List.mem_map.mp hd;simp[PyData.eqv])]
 refine bK ?_
 have ie:=I.same id' se
 have hAe:=hAd.mv (bC.of se)
 obtain⟨de,eee⟩:=hAe.at_
 rw[v1]at eee
 refine⟨_,rfl,b,de,_,rfl,eee,bno (by decide+kernel),X,v,by rw[v1];rfl,I,hAe,ie,fun Hf sf=> ?_⟩
 rw[v2,v3,C.m0]
 refine⟨_,rfl,rfl,_,rfl,?_⟩
 refine dL (fun h=>absurd h (by simp)) (fun _=> ?_)
 have if':=I.same ie sf
 have ff:bC X.Free H8 Hf:=fd.trans (bC.of (se.trans sf))
 have hAf:=hAe.mv (bC.of sf)
 obtain⟨fg,gs,egl,pgs⟩:=C.gl.fr ff
 have lg:gs.length=n:=by rw[show gs.length=_ from Paired.length pgs,List.length_map,List.length_range]
 refine⟨_,rfl,gl,rfl,⟨_,aO.of egl⟩,fun D hD=> ?_⟩
 refine kI (K:=K) (a:=gl) (xs:=gs) (fun i zs H2=>aD Hf H2/\zs.length=i/\bN K H2 zs ((List.range i).map (X.M.val s1 nm "twice"))) ⟨aD.new hD,rfl,.nil⟩ (fun i zs H2 _ h=>aO.of (h.1 _ _ egl)) ?_ ?_
 ·rintro i x zs H2 hx h2 ⟨s2,lz,pz⟩
  have hi:i<n:=by rw[<- lg];exact(List.getElem?_eq_some_iff.mp hx).1
  obtain⟨x',d,g1,g2,g3⟩:=bN.at (pgs.keep (bF.of s2)) (i:=i) (by rw[List.length_map,List.length_range];exact hi)
  rw[g1]at hx
  obtain rfl:=Option.some.inj hx
  rw[List.getElem?_map,List.getElem?_range hi]at g2
  obtain rfl:=Option.some.inj g2
  refine⟨_,rfl,x',_,rfl,g3,C.bw i hi,fun H3 y s3 py=> ?_⟩
  rw[<- C.tw i hi]at py
  have h3:=s3 _ _ h2
  have kt:bF H3 (upd H3 D (.lst (zs++ [y]))):=bF.upd h3 (fun _ y=>by cases y)
  refine⟨h3,cQ (by omega),(s2.trans s3).on hD,by rw[List.length_append,lz];rfl,?_⟩
  rw[List.range_succ,List.map_append]
  exact bN.snoc (py.keep kt) ((pz.keep (bF.of s3)).keep kt)
 rintro zs Hg hDg ⟨sg,lz,pz⟩
 rw[lg]at pz
 have fg':=ff.trans (bC.of sg)
 have ig:=I.same if' sg
 have hAg:=hAf.mv (bC.of sg)
 have LD:jV K X Hg D ((List.range n).map (X.M.val s1 nm "twice")):=⟨I.new if' hD,zs,hDg,pz⟩
 refine⟨_,rfl,sl,fun t1 ht1=> ?_⟩
 have st1:=aD.new (o:=.tup [.str ("match":Str),.ref tl]) ht1
 have et1:=aJ (H:=Hg) (a:=t1) (o:=.tup [.str ("match":Str),.ref tl])
 generalize upd Hg t1 (.tup [.str ("match":Str),.ref tl])=Hg1 at st1 et1|-
 refine⟨_,rfl,sl,fun t2 ht2=> ?_⟩
 have st2:=aD.new (o:=.tup [.str ("thing":Str),.ref gl]) ht2
 have et2:=aJ (H:=Hg1) (a:=t2) (o:=.tup [.str ("thing":Str),.ref gl])
 generalize upd Hg1 t2 (.tup [.str ("thing":Str),.ref gl])=Hg2 at st2 et2|-
 refine⟨_,rfl,sl,fun t3 ht3=> ?_⟩
 have st3:=aD.new (o:=.tup [.str ("twice":Str),.ref D]) ht3
 have et3:=aJ (H:=Hg2) (a:=t3) (o:=.tup [.str ("twice":Str),.ref D])
 generalize upd Hg2 t3 (.tup [.str ("twice":Str),.ref D])=Hg3 at st3 et3|-
 refine⟨sl,fun l4 hl4=> ?_⟩
 have st4:=aD.new (o:=.lst [.ref t1,.ref t2,.ref t3]) hl4
 have et4:=aJ (H:=Hg3) (a:=l4) (o:=.lst [.ref t1,.ref t2,.ref t3])
 generalize upd Hg3 l4 (.lst [.ref t1,.ref t2,.ref t3])=Hh at st4 et4|-
 have sgh:=((st1.trans st2).trans st3).trans st4
 have ih:=I.same ig sgh
 have fh:=fg'.trans (bC.of sgh)
 have hAh:=hAg.mv (bC.of sgh)
 have LDh:=LD.fr (bC.of sgh)
 have fl4:X.Free l4:=I.new (I.same ig ((st1.trans st2).trans st3)) hl4
 refine⟨l4,rfl,⟨_,aO.of et4⟩,?_⟩
 refine mH (K:=K) (a:=l4) (xs:=[.ref t1,.ref t2,.ref t3]) (fun i σ Hi=>∃o13 o15,σ= [o0,o1,some (.int (m:Int)),o3,o4,some (.ref kl),some (.ref tl),some (.ref gl),some (.ref s0),some (.str nm),some (.ref s1),some (.ref b),some (.ref dl),o13,some (.ref D),o15,none] /\X.Inv Hi/\bC X.Free Hh Hi) ⟨_,_,rfl,ih,bC.of (aD.refl _)⟩ (by rintro i σ Hi _ ⟨_,_,_,_,fi⟩;exact aO.of (fi.k _ _ fl4 et4)) ?_ ?_
 ·rintro i x σ Hi hx ⟨o13,o15,rfl,ii,fi⟩
  have f8i:=fh.trans fi
  have pick:∃t c l,x= .ref t/\Hi t=some (.tup [.str c,.ref l])/\c∈X.M.cols s1 nm/\jV K X Hi l ((List.range n).map (X.M.val s1 nm c)):=by
   have hi:i<3:=(List.getElem?_eq_some_iff.mp hx).1
   rcases(lt3 (n:=i))with rfl|rfl|rfl
   ·cases hx
    exact⟨t1,"match",tl,rfl,fi.kt _ _ (((st2.trans st3).trans st4) _ _ et1),hm,C.tl.fr f8i⟩
   ·cases hx
    exact⟨t2,"thing",gl,rfl,fi.kt _ _ ((st3.trans st4) _ _ et2),hg,C.gl.fr f8i⟩
   ·cases hx
    exact⟨t3,"twice",D,rfl,fi.kt _ _ (st4 _ _ et3),ht,LDh.fr fi⟩
  obtain⟨t,c,l,rfl,et,hc,hl⟩:=pick
  refine⟨t,_,rfl,bW.of et,rfl,_,_,rfl,_,_,rfl,rfl,?_⟩
  refine⟨_,rfl,_,rfl,_,rfl,_,rfl,_,rfl,_,rfl,X,v,c,l,kl,tl,by rw[v1,v6];rfl,I,hAh.mv fi,ii,by rw[v5,v6];exact hc,by rw[v5,v6,C.m1];exact hl,by rw[v2,v3,v4,C.m0];exact C.kl.fr f8i,by rw[v5,v6,v7,C.m1];exact C.tl.fr f8i,fun H' i' f'=>⟨_,rfl,bK ⟨_,_,rfl,i',fi.trans f'⟩⟩⟩
 rintro σ Hi ⟨o13,o15,rfl,ii,fi⟩
 have f8i:=fh.trans fi
 have hAi:=hAh.mv fi
 refine⟨_,rfl,(m:Int),rfl,by omega,by omega,?_⟩
 rw[Int.toNat_natCast]
 have okk:BC.ok X v (.own "key"):=by show("key":Str)∈X.M.cols v.s0 v.t0;rw[v2,v3];exact hk
 refine wZ (lo:=0) (n:=m) (fun j σ Hj=>∃o16,σ= [o0,o1,some (.int (m:Int)),o3,o4,some (.ref kl),some (.ref tl),some (.ref gl),some (.ref s0),some (.str nm),some (.ref s1),some (.ref b),some (.ref dl),o13,some (.ref D),o15,o16] /\X.Inv Hj/\bC X.Free Hi Hj) ⟨_,rfl,ii,bC.of (aD.refl _)⟩ ?_ ?_
 ·rintro j σ Hj hj ⟨o16,rfl,ij,fj⟩
  rw[Int.zero_add]
  have hAj:=hAi.mv fj
  obtain⟨dj,ej⟩:=hAj.at_
  rw[v1]at ej
  have hjm:j<X.M.many v.s0 v.t0:=by rw[v2,v3,C.m0];exact hj
  refine⟨_,rfl,b,dj,_,rfl,ej,bno (by decide+kernel),_,rfl,X,v,.own "key",j,by rw[v1];rfl,I,hAj,ij,okk,hjm,fun Hk y ik fk py=> ?_⟩
  have f8k:=(f8i.trans fj).trans fk
  obtain⟨_,ks,ekl,pks⟩:=C.kl.fr f8k
  obtain⟨x',d,g1,g2,g3⟩:=bN.at pks (i:=j) (by rw[List.length_map,List.length_range];exact hj)
  rw[List.getElem?_map,List.getElem?_range hj]at g2
  obtain rfl:=Option.some.inj g2
  have eb:kN X v j (.own "key")=X.M.val s0 "t" "key" j:=by show X.M.val v.s0 v.t0 "key" j=_;rw[v2,v3]
  rw[eb]at py
  have lay:=py.vd.lay
  refine⟨_,rfl,_,rfl,kl,_,(j:Int),x',rfl,rfl,aO.of ekl,gW g1,_,_,py.dt,g3.dt,lay.1,lay.1,Nat.le_trans lay.2 (by decide),_,rfl,?_⟩
  rw[show PyData.eqv (X.M.val s0 "t" "key" j) (X.M.val s0 "t" "key" j)=true from py.vd.eqv]
  refine bK ?_
  have hAk:=hAj.mv fk
  obtain⟨dk,ek⟩:=hAk.at_
  rw[v1]at ek
  refine⟨_,rfl,b,dk,_,rfl,ek,bno (by decide+kernel),_,rfl,X,v,.own "key",j,by rw[v1];rfl,I,hAk,ik,okk,hjm,fun Hl ll us il fl hll ell tp=> ?_⟩
  have es:nK X v j (.own "key")= [(s0,("t":Str),("key":Str),j)]:=by show [(v.s0,v.t0,("key":Str),j)]=_;rw[v2,v3]
  rw[es]at tp
  refine⟨_,rfl,sl,fun t ht=> ?_⟩
  have sp1:=aD.new (o:=.tup [.str ("t":Str),.str ("key":Str),.int (j:Int)]) ht
  have ep1:=aJ (H:=Hl) (a:=t) (o:=.tup [.str ("t":Str),.str ("key":Str),.int (j:Int)])
  generalize upd Hl t (.tup [.str ("t":Str),.str ("key":Str),.int (j:Int)])=Hm at sp1 ep1|-
  refine⟨sl,fun lp hlp=> ?_⟩
  have sp2:=aD.new (o:=.lst [.ref t]) hlp
  have ep2:=aJ (H:=Hm) (a:=lp) (o:=.lst [.ref t])
  generalize upd Hm lp (.lst [.ref t])=Hn at sp2 ep2|-
  have s12:=sp1.trans sp2
  obtain⟨x1,x2,x3⟩:=a2a (zs:=[(s0,("t":Str),("key":Str),j)]) (fun z hz=>by
   rw[List.mem_singleton.mp hz]
   exact⟨nn0,nc0 _ hk⟩)
  refine⟨_,_,.lst (aO.of (s12 _ _ ell)) (jD.dt (tp.keep (bF.of s12))),.lst (aO.of ep2) (jD.dt (zs:=[(s0,("t":Str),("key":Str),j)]) (.cons ⟨t,rfl,sp2 _ _ ep1⟩ .nil)),x1,x1,x2,_,rfl,?_⟩
  rw[x3]
  exact bK ⟨_,rfl,I.same il s12,((fj.trans fk).trans fl).trans (bC.of s12)⟩
 rintro σ Hj ⟨o16,rfl,ij,fj⟩
 have f8j:=f8i.trans fj
 have hAj:=hAi.mv fj
 obtain⟨dj,ej⟩:=hAj.at_
 rw[v1]at ej
 refine⟨_,rfl,b,dj,_,rfl,ej,bno (by decide+kernel),X,v,.own "key",by rw[v1];rfl,I,hAj,ij,okk,fun Hk lk ys ik fk hlk elk py=> ?_⟩
 obtain⟨_,ks,ekl,pks⟩:=C.kl.fr (f8j.trans fk)
 have eb:(List.range (X.M.many v.s0 v.t0)).map (fun p=>kN X v p (.own "key"))=(List.range m).map (X.M.val s0 "t" "key"):=by
  rw[v2,v3,C.m0]
  refine List.map_congr_left fun p _=> ?_
  show X.M.val v.s0 v.t0 "key" p=_
  rw[v2,v3]
 rw[eb]at py
 obtain⟨w1,w2,w3⟩:=a1m (dZ.vd py)
 refine⟨_,rfl,_,_,.lst (aO.of elk) py.dt,.lst (aO.of ekl) pks.dt,w1,w1,w2,?_⟩
 rw[w3]
 exact q Hk (C.out Hk ik (f8j.trans fk))
end
end My
namespace L2
open PySem PySem.Spec PyProof.Rows
theorem zB{cells:List (Str×Addr)}:∀{names:List (Str×NameKind)} {acc:List (Str×Addr)},(∀y∈names,y.2≠ .free)->eV cells names acc=acc
 | [],_,_=>rfl
 |(n,k)::r,acc,h=>by
  unfold eV
  rw[if_neg (by have:=h (n,k) List.mem_cons_self;simpa using this)]
  exact zB fun y hy=>h y (List.mem_cons_of_mem _ hy)
theorem a6g{P:Program}{w:World}{K:Fg}{mg:Str->Option Value}{base:Heap}{q:Str}{params:Arguments}{body:Expr}{scope:Scope}{fa:Addr}{ps:List Str}{k:Nat}{spB:List V->Hp->VK->Prop}(A0:Around)(s0:Shared)(H0:Hp)
 (hb:∀(pm ctv:Value) (c:Addr) (clos:List (Str×Addr)) (us:List Value),us.length=ps.length->bindArgs (PySem.W.kla_fn "<lambda>" q params body scope clos pm (.ref c) ctv) ⟨us,[]⟩=pure (ps.zip us))
 (hbody:∀(cd:Value) (A:Around) (outer:List Env) (s:Shared) (H:Hp) (vs:List V) (Q:VK),bT k (A.deeper (PySem.W.envX q scope s.heap.objs.size fa cd []))->spB vs H Q->
  ∃t,PE (oA P w K mg base ps q scope fa cd [] A outer s H) body t/\t (vs.map some) H Q)
 (nofree:∀y∈scope.names,y.2≠ .free:=by decide+kernel)(kind:scope.kind= .function:=by rfl)(co:scope.isCoroutine=false:=by rfl)(gen:scope.isGenerator=false:=by rfl)(nocell:∀y∈scope.names,y.2≠ .cell:=by decide+kernel)(par:∀x∈ps,scope.names.lookup x=some .local:=by decide+kernel)(nd:ps.Nodup:=by decide+kernel):
 eF P w K mg base (k+ 1) fa (mS fa (fun _=>none) q params body scope [] ps.length spB):=by
 have e0:∀cells,eV cells scope.names []= []:=fun cells=>zB nofree
 have h:=a2Y (X:=oA P w K mg base [] q scope fa .none [] A0 [] s0 H0) (σ:=[]) (H₁:=H0) (f:=fun _=>none) (q:=q) (params:=params) (body:=body) (scope:=scope) (fa:=fa) (ps:=ps) (cp:=[]) (cv:=[]) (k:=k) (spB:=spB) ⟨(fun b o e=>by cases e),(fun x c e=>by cases e),(fun i x v e=>by cases e),(fun x y c e=>by cases e)⟩ (fun x hx=>absurd rfl (nocell _ (PySem.mem_of_lookup hx))) rfl (fun p hp=>by cases hp) (fun y hy e=>absurd e (nofree y hy)) kind co gen nocell par (by simpa using nd) hb (fun cd A outer s H vs Q hr h=>by
  rw[e0]at hr|-
  obtain⟨t,h1,h2⟩:=hbody cd A outer s H vs Q hr h
  refine⟨t,?_,?_⟩
  ·rw[show ps++ ([]:List (Nat×Str)).map (·.2)=ps from List.append_nil _]
   exact h1
  ·rw[List.append_nil]
   exact h2)
 rw[e0]at h
 exact h
end L2
namespace My
open PySem L2
theorem a4q(H:Hp):dR (fun _=>none) H=H:=by funext b;exact eJ rfl
theorem a6i{kvs:List (aB×V)}{k:aB}{v:V}:(aR kvs k v).length<=kvs.length+ 1:=by
 unfold aR
 split
 ·rw[List.length_map];omega
 ·rw[List.length_append];exact Nat.le_refl _
theorem bS.mvF{CB CT:Addr}{H H':Hp}{B:BM}(h:bS CB CT H B)(u:∀x∈B.foot,∀o,H x=some o->H' x=some o):bS CB CT H' B:=by
 obtain⟨⟨d1,e1⟩,⟨⟨d2,e2⟩,e3,e4⟩,e5,e6,e7⟩:=h
 have m:∀{x},x∈ [B.b,B.g,B.r,B.e,B.ru,B.me,B.od] ->x∈B.foot:=fun h=>h
 exact⟨⟨d1,u _ (m (by simp)) _ e1⟩,⟨⟨d2,u _ (m (by simp)) _ e2⟩,u _ (m (by simp)) _ e3,u _ (m (by simp)) _ e4⟩,u _ (m (by simp)) _ e5,u _ (m (by simp)) _ e6,u _ (m (by simp)) _ e7⟩
theorem a5r(j:Int):Vd (gU (.int j)):=by
 cases h:fR (.int j)with
 |true=>rw[a2W h];exact .inl ⟨j,rfl,h⟩
 |false=>rw[a0t h];exact .inr ⟨"odd",rfl,sE⟩
def mT(is:List Int):Prop:=0<is.length
def Wm(s ch:Addr)(B:BM):List Addr:=[s,ch,B.od,B.e,B.ru,B.me]
structure Md(K:Fg)(CS CB CT:Addr)(z1 z2:Addr×Addr)(H:Hp)(s bd ch:Addr)(cs:List V)(kb:List (aB×V))(B:BM)(Bs:List (Str×BM))(nm:Str)(n:Nat)(pre:List Str)(tl gl:Addr)(ths gs:List V)(td gd:List PyData):Prop where
 sh:oW CS s bd ch cs kb H
 cl:cs.length<=10
 nn:Nl nm
 hkb:aQ kb (.inr nm:aB)=some (.ref B.b)
 bt:bS CB CT H B
 sp:B.sep
 ss:sU bd ch B
 xs:B.xs=dA 0 n
 n6:n<=6
 ru:B.rus= []
 me:B.mes= []
 od:B.ord=pre
 pr:pre= []\/ pre= [("key":Str)]
 kl:B.kvs.length<=1
 htl:H tl=some (.lst ths)/\ths.length=n/\bN K H ths td
 hgl:H gl=some (.lst gs)/\gs.length=n/\bN K H gs gd
 wl:tl∉Wm s ch B/\gl∉Wm s ch B
 t1:H z1.2=some (eN z1.2 [])
 t2:H z2.2=some (eN z2.2 [])
 kn:(kb.map (·.1)).Nodup/\kb.length<=4
 ot:∀kv∈kb,kv=((.inr nm:aB),V.ref B.b)\/ ∃t B',(t,B')∈Bs/\kv=((.inr t:aB),V.ref B'.b)
 os:∀tb∈Bs,Nl tb.1/\bS CB CT H tb.2/\tb.2.rus= [] /\bd≠tb.2.ru/\∀x∈tb.2.foot,x∉Wm s ch B
structure Mf(P:Program)(w:World)(K:Fg)(mg:Str->Option Value)(base:Heap)(CS CF CB CT CG:Addr)(z1 z2:Addr×Addr)(H0 H:Hp)(s bd ch:Addr)(kb:List (aB×V))(B:BM)(pre:List Str)(ths gs:List V)(fi fd lk mc gr nl fa lm lg:Addr):Prop where
 old:∀x o,x∉Wm s ch B->x≠z1.2->H0 x=some o->H x=some o
 nf:H0 fd=none/\H0 lk=none/\H0 mc=none/\H0 fi=none
 sh:∃dx,H s=some (.ins CS dx (dP bd ch fi))
 hch:∃chs,H ch=some (.lst chs)/\chs.length<900
 hbd:H bd=some (.dK kb)
 hfi:∃df,H fi=some (.ins CF df (fG bd fd lk))
 hfd:H fd=some (.dT [])
 hlk:H lk=some (.dT [])
 fl:fd≠lk
 bt:bS CB CT H {B with kvs:=aR (aR B.kvs (.inr "match":aB) (.ref lm)) (.inr "thing":aB) (.ref lg),rus:=[((.inr "twice":aB),V.ref gr)],mes:=[((.inr "twice":aB),V.ref mc)],ord:=pre++ fZ}
 hlm:H lm=some (.lst ths)/\lm≠ch/\H0 lm=none
 hlg:H lg=some (.lst gs)/\lg≠ch/\H0 lg=none
 hmc:H mc=some (.dK [])
 hgr:∃dx,H gr=some (.ins CG dx (gM nl fa))
 hnl:H nl=some (.lst ([("thing":Str)].map V.str))
 t1:∃S,H z1.2=some (eN z1.2 S)
 t2:H z2.2=some (eN z2.2 [])
 fn:jW P w K mg base 4 H fa ch gD mT
section
variable{P:Program}{w:World}{K:Fg}{mg:Str->Option Value}{base:Heap}
def spBP(g:List Int->PyData)(ok:List Int->Prop):List V->Hp->VK->Prop:=fun vs H Q=>∃(l:Addr) (is:List Int),vs= [.ref l] /\H l=some (.lst (is.map V.int))/\ok is/\is.length<=100/\∀i,g is= .int i->Q (.int i) H
theorem a88{q:Str}{params:Arguments}{body:Expr}{scope:Scope}{clos:List (Str×Addr)}{fa ca:Addr}{k:Nat}{fl:eU}{HB:Hp}{g:List Int->PyData}{ok:List Int->Prop}(gi:∀is,∃i,g is= .int i)(hk:k<=4)(free:∀b o,fl b=some o->HB b=none)(la:gF q params body scope clos HB fa)(F:eF P w K mg base k fa (mS fa fl q params body scope clos 1 (spBP g ok))):jW P w K mg base 4 (dR fl HB) fa ca g ok:=by
 refine⟨fun H=>gF q params body scope clos H fa/\∀b o,fl b=some o->H b=some (Fz o),(F.mono hk).imp fun vs H Q E h=> ?_,⟨?_,fun b o e=>lI e⟩,fun H H' kz h=>⟨nT kz h.1,fun b o e=>kz _ _ (h.2 b o e)⟩⟩
 ·obtain⟨l,is,cs,rfl,⟨h1,h2⟩,hl,hca,c9,hok,i1,ncl,qq⟩:=h
  have nf:∀{b:Addr} {o:HO},H b=some o->(∀u,o≠Fz u)->fl b=none:=fun{b o} e n=>by
   cases e2:fl b with
   |none=>rfl
   |some ob=>rw[h2 b ob e2]at e;exact absurd (Option.some.inj e).symm (n ob)
  have fl':=nf hl (fun _ y=>by cases y)
  have fc:=nf hca (fun _ y=>by cases y)
  refine⟨rfl,h1,h2,l,is,rfl,by rw[dN fl'];exact hl,hok,i1,fun i hi fr=> ?_⟩
  refine qq _ _ (fun x o n e=> ?_) ?_ ⟨i,hi,rfl⟩
  ·cases e2:fl x with
   |none=>rw[eJ e2,dN e2];exact e
   |some ob=>rw[h2 x ob e2]at e;rw[lI e2];exact e
  ·rw[eJ fc,dN fc]
   exact hca
 ·refine nT (fun b u e=> ?_) la
  cases e2:fl b with
  |none=>rw[eJ e2];exact e
  |some ob=>rw[free b ob e2]at e;cases e
theorem a4M(T:aW K mg){CS CF CB CT CG CR CW CO CE CC CX:Addr}(Y:cU K mg CS)(R:lF K mg CR)(F:eW K mg CF)(Wb:bU K mg CB)(U:cI K mg CT)(Cc:lS K mg CG)(W:fM K mg CW)(O:lO K mg CO)(Z:gG K mg CE)(Cs:nY K mg CC)(Ru:qC K mg CX){z1 z2:Addr×Addr}(M1:iO mg base z1.1 z1.2)(B2:jP K mg "Finder" "gathered" "Finder.gathered" gQ z2)(M2:iO mg base z2.1 z2.2)(n12:z1.2≠z2.2){f:Addr}(A:Around)(outer:List Env)(s:Shared)(H:Hp)(Q:VK)(E:XK)(hr:bT 17 (A.deeper (PyProof.Rows.envOfC "law" (aN jH) s.heap.objs.size f (.ref z1.1))))(q:∀H',mL [z1,z2] H'->Q (.bl true) H'):
 ∃t,eE (nQ P w K mg base f z1.1 A outer s H E) ((eG jH).drop 14) t/\
  ∀(H0:Hp) (s0 s1 bd ch kl tl gl:Addr) (cs:List V) (kb:List (aB×V)) (B:BM) (Bs:List (Str×BM)) (nm:Str) (m n:Nat) (pre:List Str) (ths gs:List V) (td gd:List PyData) (o0 o1 o3 o4:Option V),Md K CS CB CT z1 z2 H0 s1 bd ch cs kb B Bs nm n pre tl gl ths gs td gd->
   (∀H8 fi fd lk mc gr nl fa lm lg,Mf P w K mg base CS CF CB CT CG z1 z2 H0 H8 s1 bd ch kb B pre ths gs fi fd lk mc gr nl fa lm lg->∃X,nG P w K mg base CS CF CB CT CG z1 z2 X H8 s0 s1 kl tl gl nm m n)->
   t {nx:=fun _ H'=>Q .non H',rt:=Q} [o0,o1,some (.int (m:Int)),o3,o4,some (.ref kl),some (.ref tl),some (.ref gl),some (.ref s0),some (.str nm),some (.ref s1),none,none,none,none,none,none] H0:=by
 have hcl:∀x,(nQ P w K mg base f z1.1 A outer s H E).env.scope.names.lookup x=some .cell->∃c,(nQ P w K mg base f z1.1 A outer s H E).env.cells.lookup x=some c:=fun x hx=>Option.isSome_iff_exists.mp (PySem.W.cellsFrom_some _ _ _ (.inl hx))
 have GI:dJ P w K mg base aC 4 CG ["self","names","function"] (a3I K CG):=a6k T Ru Cc
 have G_rule:aL P w K mg base aC 9 CS "rule" ["self","table","column","rule"] (a2P K CS CF CB CT CG (vW CG)):=a4k T Y F Wb U Cs (a66 Cc) (a5G T Cc)
 have G_give:aL P w K mg base aC 9 CS "give" ["self","table","column","values"] (yE K CS CF CB CT):=a22 T Y F Wb U Cs
 obtain⟨tE,hE,qE⟩:=a6b (P:=P) (w:=w) (z1:=z1) T Y R F Wb U Cc W O Z B2 M2 (f:=f) A outer s H Q E hr q
 refine⟨_,(aH (cC (bH (pv 10) Y.cl G_give (hr.mono (by decide)) aM (aA (pv 9) (aA cF (aA (jR nB rfl T.list iA (aA (pv 6) aE)) aE)))))
  (aH (cC (bH (pv 10) Y.cl G_give (hr.mono (by decide)) aM (aA (pv 9) (aA cF (aA (jR nB rfl T.list iA (aA (pv 7) aE)) aE)))))
  (aH (cC (bH (pv 10) Y.cl G_rule (hr.mono (by decide)) aM (aA (pv 9) (aA cF (aA (jC GI (hr.mono (by decide)) Cc.c aM (aA (fW (aA cF aE)) (aA (wH M1 rfl (iY (sc:=aN jH) (N:=xQ) (cp:=[]) hcl).clos rfl) aE))) aE)))))
  hE))),?_⟩
 intro H0 s0 s1 bd ch kl tl gl cs kb B Bs nm m n pre ths gs td gd o0 o1 o3 o4 G build
 have n6:=G.n6
 have kl1:=G.kl
 have cl:=G.cl
 have pl:pre.length<=1:=by rcases G.pr with h|h<;>rw[h]<;>decide
 have pn:∀c∈fZ,c∉pre:=by
  rcases G.pr with h|h
  ·rw[h];exact fun _ _ h=>by cases h
  ·rw[h];decide+kernel
 obtain⟨nmm,nmt,nmw⟩:Nl ("match":Str)/\Nl ("thing":Str)/\Nl ("twice":Str):=by unfold Nl;decide+kernel
 have lx:B.xs.length=n:=by rw[G.xs,iG]
 obtain⟨⟨dS,fiS,sS⟩,chS,bdS⟩:=G.sh
 have w0:∀{x},x∈Wm s1 ch B->x=s1\/ x=ch\/ x=B.od\/ x=B.e\/ x=B.ru\/ x=B.me:=fun h=>by
  unfold Wm at h
  simpa only[List.mem_cons,List.not_mem_nil,or_false] using h
 have wI:∀{x},x=s1\/ x=ch\/ x=B.od\/ x=B.e\/ x=B.ru\/ x=B.me->x∈Wm s1 ch B:=fun h=>by
  unfold Wm
  simpa only[List.mem_cons,List.not_mem_nil,or_false] using h
 refine⟨_,rfl,s1,dS,_,rfl,sS,dC,_,rfl,_,rfl,tl,ths,rfl,.inl (aO.of G.htl.1),fun c1 hc1=> ?_⟩
 have sa:=aD.new (o:=.lst ths) hc1
 have ea:upd H0 c1 (.lst ths) c1=some (.lst ths):=aJ
 generalize upd H0 c1 (.lst ths)=Ha at sa ea|-
 refine⟨s1,bd,ch,c1,cs,kb,nm,"match",ths,td,B,rfl,⟨⟨dS,fiS,sa _ _ sS⟩,sa _ _ chS,sa _ _ bdS⟩,by omega,G.nn,G.hkb,G.bt.same sa,G.sp,G.ss,⟨by rw[G.ru];rfl,by rw[G.od];exact pn _ (by decide+kernel)⟩,nmm,ea,(aX G.bt.ord hc1).symm,G.htl.2.2.keep (bF.of sa),by rw[lx];exact G.htl.2.1,by rw[G.htl.2.1];omega,by omega,by rw[G.od];omega,fun H1 fi1 fd1 lk1 cc1 lm Fr1 hlm0 hB1 hlm u1=> ?_⟩
 obtain⟨⟨dx1,f11⟩,f12,f13,_⟩:=Fr1
 have lm0:H0 lm=none:=dW sa hlm0
 have o1':∀x o,x∉Wm s1 ch B->H0 x=some o->H1 x=some o:=fun x o n e=>u1 _ _ (fun y=>n (wI (.inl y))) (fun y=>n (wI (.inr (.inl y)))) (fun y=>n (wI (.inr (.inr (.inl y))))) (fun y=>n (wI (.inr (.inr (.inr (.inl y)))))) (sa _ _ e)
 have k1:bF H0 H1:=fun x xs e=>u1 _ _ (fun y=>by rw[y,sS]at e;cases e) (fun y=>by rw[y,chS]at e;cases e) (fun y=>by rw[y,G.bt.ord]at e;cases e) (fun y=>by rw[y,G.bt.tab.kept]at e;cases e) (sa _ _ e)
 refine⟨_,rfl,s1,dx1,_,rfl,f11,dC,_,rfl,_,rfl,gl,gs,rfl,.inl (aO.of (o1' _ _ G.wl.2 G.hgl.1)),fun c2 hc2=> ?_⟩
 have sb:=aD.new (o:=.lst gs) hc2
 have eb:upd H1 c2 (.lst gs) c2=some (.lst gs):=aJ
 generalize upd H1 c2 (.lst gs)=Hb at sb eb|-
 have p2:(aR B.kvs (.inr "match":aB) (.ref lm)).length<=2:=Nat.le_trans a6i (by omega)
 refine⟨s1,bd,ch,c2,_,kb,nm,"thing",gs,gd,{B with kvs:=aR B.kvs (.inr "match":aB) (.ref lm),ord:=B.ord++ [("match":Str)]},rfl,⟨⟨dx1,fi1,sb _ _ f11⟩,sb _ _ f12,sb _ _ f13⟩,by rw[List.length_append];show cs.length+ 1<900;omega,G.nn,G.hkb,hB1.same sb,⟨G.sp.ro,G.sp.eu,G.sp.em,G.sp.um⟩,⟨G.ss.r,G.ss.o,G.ss.e,G.ss.u,G.ss.m⟩,⟨by show aQ B.rus _=none;rw[G.ru];rfl,by
  show("thing":Str)∉B.ord++ [("match":Str)]
  rw[G.od,List.mem_append]
  exact fun h=>h.elim (pn _ (by decide+kernel)) (by decide+kernel)⟩,nmt,eb,(aX hB1.ord hc2).symm,(G.hgl.2.2.keep k1).keep (bF.of sb),by show gs.length=B.xs.length;rw[lx];exact G.hgl.2.1,by rw[G.hgl.2.1];omega,by show(aR B.kvs _ _).length<8;omega,by show(B.ord++ [("match":Str)]).length<8;rw[List.length_append,G.od];show pre.length+ 1<8;omega,fun H2 fi2 fd2 lk2 cc2 lg eT hlg0 hB2 hlg u2=> ?_⟩
 obtain⟨⟨dx2,f21⟩,f22,f23,_⟩:=eT
 have hlg1:H1 lg=none:=dW sb hlg0
 have u2:∀x o,x≠s1->x≠ch->x≠B.od->x≠B.e->Hb x=some o->H2 x=some o:=u2
 have o2':∀x o,x∉Wm s1 ch B->H0 x=some o->H2 x=some o:=fun x o n e=>u2 _ _ (fun y=>n (wI (.inl y))) (fun y=>n (wI (.inr (.inl y)))) (fun y=>n (wI (.inr (.inr (.inl y))))) (fun y=>n (wI (.inr (.inr (.inr (.inl y)))))) (sb _ _ (o1' _ _ n e))
 have nlm:lm∉Wm s1 ch B:=fun h=>by
  rcases w0 h with y|y|y|y|y|y
  ·rw[y,sS]at lm0;cases lm0
  ·rw[y,chS]at lm0;cases lm0
  ·rw[y,G.bt.ord]at lm0;cases lm0
  ·rw[y,G.bt.tab.kept]at lm0;cases lm0
  ·rw[y,G.bt.rul]at lm0;cases lm0
  ·rw[y,G.bt.mem]at lm0;cases lm0
 have hlm2:H2 lm=some (.lst ths):=u2 _ _ (fun y=>nlm (wI (.inl y))) (fun y=>nlm (wI (.inr (.inl y)))) (fun y=>nlm (wI (.inr (.inr (.inl y))))) (fun y=>nlm (wI (.inr (.inr (.inr (.inl y)))))) (sb _ _ hlm)
 have bk1:∀{x:Addr},H1 x=none->H0 x=none:=fun{x} h=>by
  cases e:H0 x with
  |none=>rfl
  |some o=>
   by_cases hw:x∈Wm s1 ch B
   ·rcases w0 hw with y|y|y|y|y|y
    ·rw[y,f11]at h;cases h
    ·rw[y,f12]at h;cases h
    ·rw[y,hB1.ord]at h;cases h
    ·rw[y,hB1.tab.kept]at h;cases h
    ·rw[y,hB1.rul]at h;cases h
    ·rw[y,hB1.mem]at h;cases h
   ·rw[o1' _ _ hw e]at h;cases h
 have bk2:∀{x:Addr},H2 x=none->H0 x=none:=fun{x} h=>by
  cases e:H0 x with
  |none=>rfl
  |some o=>
   by_cases hw:x∈Wm s1 ch B
   ·rcases w0 hw with y|y|y|y|y|y
    ·rw[y,f21]at h;cases h
    ·rw[y,f22]at h;cases h
    ·rw[y,hB2.ord]at h;cases h
    ·rw[y,hB2.tab.kept]at h;cases h
    ·rw[y,hB2.rul]at h;cases h
    ·rw[y,hB2.mem]at h;cases h
   ·rw[o2' _ _ hw e]at h;cases h
 have wz:∀{x:Addr} {φ},H0 x=some (.ext φ)->x∉Wm s1 ch B:=fun e h=>by
  rcases w0 h with y|y|y|y|y|y
  ·rw[y,sS]at e;cases e
  ·rw[y,chS]at e;cases e
  ·rw[y,G.bt.ord]at e;cases e
  ·rw[y,G.bt.tab.kept]at e;cases e
  ·rw[y,G.bt.rul]at e;cases e
  ·rw[y,G.bt.mem]at e;cases e
 refine⟨_,rfl,s1,dx2,_,rfl,f21,dC,_,rfl,sl,fun l0 hl0=> ?_⟩
 have sc:=aD.new (o:=.lst [.str ("thing":Str)]) hl0
 have cc:upd H2 l0 (.lst [.str ("thing":Str)]) l0=some (.lst [.str ("thing":Str)]):=aJ
 generalize upd H2 l0 (.lst [.str ("thing":Str)])=Hc at sc cc|-
 have t1:=sc _ _ (o2' _ _ (wz G.t1) G.t1)
 refine⟨⟨[],t1,fun c hc=>by cases hc⟩,fun fa HA hfa sA tA lA=> ?_⟩
 have kA:∀{x:Addr} {o:HO},Hc x=some o->(∀φ,o≠ .ext φ)->HA x=some o:=fun e n=>sA _ _ (fun y=>by rw[y,t1]at e;exact n _ (Option.some.inj e).symm) e
 obtain⟨S1,tS1,_⟩:=id tA
 intro gr dg hgr hdg ne
 have l0A:=kA cc (fun _ y=>by cases y)
 have hN:∀z∈ [("thing":Str)],Nl z:=fun z hz=>by rw[List.mem_singleton.mp hz];exact nmt
 refine⟨gr,dg,l0,fa,["thing"],rfl,aJ,aO.of ?_,aX l0A hgr,(show 1<=6 by decide),hN,fun HB nl bB hnl' grB nlB=>⟨rfl,?_⟩⟩
 ·rw[aG (aX l0A hgr),aG (aX l0A hdg)]
  exact l0A
 have hnl:HA nl=none:=(iR (iR hnl').1).1
 have sB:aD HA HB:=fun x o e=>bB _ _ (aX e hgr) (by rw[aG (aX e hgr),aG (aX e hdg)];exact e)
 have kB:∀{x:Addr} {o:HO},H2 x=some o->(∀φ,o≠ .ext φ)->HB x=some o:=fun e n=>sB _ _ (kA (sc _ _ e) n)
 have kb2:∀{D:BM},bS CB CT H2 D->bS CB CT HB D:=fun{D} h=>by
  obtain⟨⟨d1,e1⟩,⟨⟨d2,e2⟩,e3,e4⟩,e5,e6,e7⟩:=h
  exact⟨⟨d1,kB e1 (fun _ y=>by cases y)⟩,⟨⟨d2,kB e2 (fun _ y=>by cases y)⟩,kB e3 (fun _ y=>by cases y),kB e4 (fun _ y=>by cases y)⟩,kB e5 (fun _ y=>by cases y),kB e6 (fun _ y=>by cases y),kB e7 (fun _ y=>by cases y)⟩
 have btB:=kb2 hB2
 have once:∀z∈fJ ([("thing":Str)].map fun z=>(nm,z)),z=(nm,("thing":Str)):=fun z hz=>List.mem_singleton.mp (zO hz)
 have o3':B.ord++ [("match":Str)] ++ [("thing":Str)]=pre++ [("match":Str),"thing"]:=by rw[G.od,List.append_assoc];rfl
 have inT:("thing":Str)∈B.ord++ [("match":Str)] ++ [("thing":Str)]:=List.mem_append_right _ (List.mem_singleton.mpr rfl)
 refine⟨s1,bd,ch,gr,dg,_,kb,nm,"twice",gM nl fa,{B with kvs:=aR (aR B.kvs (.inr "match":aB) (.ref lm)) (.inr "thing":aB) (.ref lg),ord:=B.ord++ [("match":Str)] ++ [("thing":Str)]},fJ ([("thing":Str)].map fun z=>(nm,z)),[(nm,("thing":Str))],rfl,⟨⟨dx2,fi2,kB f21 (fun _ y=>by cases y)⟩,kB f22 (fun _ y=>by cases y),kB f23 (fun _ y=>by cases y)⟩,by rw[List.length_append,List.length_append];show cs.length+ 1+ 1<900;omega,G.nn,G.hkb,btB,⟨G.sp.ro,G.sp.eu,G.sp.em,G.sp.um⟩,⟨G.ss.r,G.ss.o,G.ss.e,G.ss.u,G.ss.m⟩,⟨by show aQ B.rus _=none;rw[G.ru];rfl,?_⟩,nmw,grB,(pH _ _).2.2.1,a7x grB nlB (show 1<=6 by decide) hN G.nn,fun z hz=> ?_,Nat.le_trans (a0e _) (show 1<=100 by decide),fun h=> ?_,(show 1<=100 by decide),G.kn.1,G.kn.2,fun kv hkv=> ?_,by show B.rus.length<100;rw[G.ru];exact(show 0<100 by decide),by show B.mes.length<100;rw[G.me];exact(show 0<100 by decide),?_,fun H7 fi fd lk cc3 mc Fr hmc hB7 hm7 u7=> ?_⟩
 ·show("twice":Str)∉B.ord++ [("match":Str)] ++ [("thing":Str)]
  rw[o3',List.mem_append]
  exact fun h=>h.elim (pn _ (by decide+kernel)) (by decide+kernel)
 ·obtain rfl:=once z hz
  exact⟨⟨G.nn,nmt⟩,List.mem_singleton.mpr rfl,{B with kvs:=aR (aR B.kvs (.inr "match":aB) (.ref lm)) (.inr "thing":aB) (.ref lg),ord:=B.ord++ [("match":Str)] ++ [("thing":Str)]},G.hkb,btB,inT⟩
 ·have:=List.mem_singleton.mp h
  exact absurd (Prod.mk.inj this).2 (by decide+kernel)
 ·rcases G.ot kv hkv with rfl|⟨t,B',hB',rfl⟩
  ·refine⟨nm,{B with kvs:=aR (aR B.kvs (.inr "match":aB) (.ref lm)) (.inr "thing":aB) (.ref lg),ord:=B.ord++ [("match":Str)] ++ [("thing":Str)]},rfl,G.nn,btB,G.ss.u,?_,?_,fun rv hrv=> ?_⟩
   ·show(B.rus.map _).Nodup
    rw[G.ru];exact List.nodup_nil
   ·show B.rus.length<=_
    rw[G.ru];exact Nat.zero_le _
   ·have hrv:rv∈B.rus:=hrv
    rw[G.ru]at hrv
    cases hrv
  ·obtain⟨a1,a2,a3,a4,a5⟩:=G.os _ hB'
   refine⟨t,B',rfl,a1,kb2 (a2.mvF fun x hx o e=>o2' _ _ (a5 x hx) e),a4,?_,?_,fun rv hrv=> ?_⟩
   ·rw[show B'.rus= [] from a3];exact List.nodup_nil
   ·rw[show B'.rus= [] from a3];exact Nat.zero_le _
   ·rw[show B'.rus= [] from a3]at hrv
    cases hrv
 ·show(B.ord++ [("match":Str)] ++ [("thing":Str)]).length<8
  rw[o3',List.length_append]
  show pre.length+ 2<8
  omega
 obtain⟨⟨dx7,f1⟩,f2,f3,f4,f5,f6,f7,f8,f9,f10⟩:=Fr
 have u7:∀x o,x≠s1->x≠ch->x≠B.od->x≠B.ru->x≠B.me->HB x=some o->H7 x=some o:=u7
 have old:∀x o,x∉Wm s1 ch B->x≠z1.2->H0 x=some o->H7 x=some o:=fun x o n nz e=>u7 _ _ (fun y=>n (wI (.inl y))) (fun y=>n (wI (.inr (.inl y)))) (fun y=>n (wI (.inr (.inr (.inl y))))) (fun y=>n (wI (.inr (.inr (.inr (.inr (.inl y))))))) (fun y=>n (wI (.inr (.inr (.inr (.inr (.inr y))))))) (sB _ _ (sA _ _ nz (sc _ _ (o2' _ _ n e))))
 have kW:∀{y:Addr} {o':HO},H2 y=some o'->(∀φ,o'≠ .ext φ)->∀{x},HA x=none->x≠y:=fun e' n x h z=>by rw[z,kA (sc _ _ e') n]at h;cases h
 have new7:∀{x:Addr} {o:HO},HA x=none->HB x=some o->H7 x=some o:=fun{x o} h e=>
  u7 _ _ (kW f21 (fun _ y=>by cases y) h) (kW f22 (fun _ y=>by cases y) h) (kW hB2.ord (fun _ y=>by cases y) h) (kW hB2.rul (fun _ y=>by cases y) h) (kW hB2.mem (fun _ y=>by cases y) h) e
 have kind:∀{x:Addr} {o:HO},HB x=some o->(∀a b c,o≠ .ins a b c)->(∀y,o≠ .lst y)->(∀y,o≠ .dK y)->H7 x=some o:=fun{x o} e n1 n2 n3=>by
  refine u7 _ _ (fun y=> ?_) (fun y=> ?_) (fun y=> ?_) (fun y=> ?_) (fun y=> ?_) e
  ·rw[y,kB f21 (fun _ y=>by cases y)]at e;exact n1 _ _ _ (Option.some.inj e).symm
  ·rw[y,kB f22 (fun _ y=>by cases y)]at e;exact n2 _ (Option.some.inj e).symm
  ·rw[y,btB.ord]at e;exact n2 _ (Option.some.inj e).symm
  ·rw[y,btB.rul]at e;exact n3 _ (Option.some.inj e).symm
  ·rw[y,btB.mem]at e;exact n3 _ (Option.some.inj e).symm
 have lst7:∀{l:Addr} {ys:List V},H2 l=some (.lst ys)->l≠ch->l≠B.od->H7 l=some (.lst ys):=fun{l ys} e n1 n2=>by
  have e':=kB e (fun _ y=>by cases y)
  refine u7 _ _ (fun y=> ?_) n1 n2 (fun y=> ?_) (fun y=> ?_) e'
  ·rw[y,f21]at e;cases e
  ·rw[y,hB2.rul]at e;cases e
  ·rw[y,hB2.mem]at e;cases e
 have bkB:∀{x:Addr},HB x=none->H0 x=none:=fun{x} h=>by
  refine bk2 ?_
  cases e:H2 x with
  |none=>rfl
  |some o=>
   by_cases hz:x=z1.2
   ·have:=sB _ _ tS1
    rw[<- hz,h]at this
    cases this
   ·rw[sB _ _ (sA _ _ hz (sc _ _ e))]at h;cases h
 have fn:jW P w K mg base 4 H7 fa ch gD mT:=by
  have la:=nT (fun x u e=>kind (sB _ _ e) (fun _ _ _ y=>by cases y) (fun _ y=>by cases y) (fun _ y=>by cases y)) lA
  rw[zB (by decide+kernel)]at la
  have h:=a88 (P:=P) (w:=w) (K:=K) (mg:=mg) (base:=base) (ca:=ch) (k:=2) (fl:=fun _=>none) (g:=gD) (ok:=mT) (fun is=>⟨_,rfl⟩) (by decide) (fun b o e=>by cases e) la (a6g (ps:=["_law_xs"]) (k:=1) (spB:=spBP gD mT) A s H (fun _ _ _ _ us hl=>eD (fun _=>rfl) us hl) (fun cd A' outer' s'' H' vs Q' hr' h'=> ?_))
  ·rw[a4q]at h
   exact h
  ·obtain⟨l,is,rfl,hl,ho,i1,q'⟩:=h'
   refine⟨_,bY rX bJ (cJ gZ (pv 0) bJ (fun _ _=>rfl)),?_⟩
   have e0:is[0]?=some (is.headD 0):=by
    cases is with
    |nil=>exact absurd ho (by unfold mT;decide)
    |cons x r=>rfl
   exact⟨_,rfl,l,_,(0:Int),.int (is.headD 0),rfl,rfl,aO.of hl,gW (i:=0) (by rw[List.getElem?_map,e0];rfl),_,_,rfl,rfl,.inl ⟨by decide,by decide⟩,q' _ rfl⟩
 have nlg:lg∉Wm s1 ch B:=fun h=>by
  rcases w0 h with y|y|y|y|y|y
  ·rw[y,f11]at hlg1;cases hlg1
  ·rw[y,f12]at hlg1;cases hlg1
  ·rw[y,hB1.ord]at hlg1;cases hlg1
  ·rw[y,hB1.tab.kept]at hlg1;cases hlg1
  ·rw[y,hB1.rul]at hlg1;cases hlg1
  ·rw[y,hB1.mem]at hlg1;cases hlg1
 have hB8:bS CB CT H7 {B with kvs:=aR (aR B.kvs (.inr "match":aB) (.ref lm)) (.inr "thing":aB) (.ref lg),rus:=[((.inr "twice":aB),V.ref gr)],mes:=[((.inr "twice":aB),V.ref mc)],ord:=pre++ fZ}:=by
  have e1:aR B.rus (.inr "twice":aB) (.ref gr)= [((.inr "twice":aB),V.ref gr)]:=by rw[G.ru];rfl
  have e2:aR B.mes (.inr "twice":aB) (.ref mc)= [((.inr "twice":aB),V.ref mc)]:=by rw[G.me];rfl
  have e3:B.ord++ [("match":Str)] ++ [("thing":Str)] ++ [("twice":Str)]=pre++ fZ:=by rw[o3',List.append_assoc];rfl
  rw[<- e1,<- e2,<- e3]
  exact hB7
 obtain⟨X,RR⟩:=build H7 fi fd lk mc gr nl fa lm lg ⟨old,⟨bkB f9,bkB f10,bkB hmc,bkB f8⟩,⟨dx7,f1⟩,⟨_,f2,by rw[List.length_append,List.length_append,List.length_append];show cs.length+ 1+ 1+ 1<900;omega⟩,f3,f4,f5,f6,f7,hB8,⟨lst7 hlm2 (fun y=>nlm (wI (.inr (.inl y)))) (fun y=>nlm (wI (.inr (.inr (.inl y))))),fun y=>nlm (wI (.inr (.inl y))),lm0⟩,⟨lst7 hlg (fun y=>nlg (wI (.inr (.inl y)))) (fun y=>nlg (wI (.inr (.inr (.inl y))))),fun y=>nlg (wI (.inr (.inl y))),bk1 hlg1⟩,hm7,⟨dg,new7 hgr grB⟩,new7 hnl nlB,⟨S1,kind (sB _ _ tS1) (fun _ _ _ y=>by cases y) (fun _ y=>by cases y) (fun _ y=>by cases y)⟩,old _ _ (wz G.t2) n12.symm G.t2,fn⟩
 exact qE H7 X s0 s1 kl tl gl nm m n o0 o1 o3 o4 RR
end
theorem oK{α:Type}{d:α}{ds:List α}{m:Nat}(h:ds.length=m):(List.range m).map (fun p=>ds.getD p d)=ds:=by
 refine List.ext_getElem? fun i=> ?_
 rw[List.getElem?_map]
 by_cases hi:i<m
 ·rw[List.getElem?_range hi]
  show some (ds.getD i d)=_
  rw[List.getD_eq_getElem?_getD,List.getElem?_eq_getElem (by omega)]
  rfl
 ·rw[List.getElem?_eq_none (by rw[List.length_range];omega),List.getElem?_eq_none (by omega)]
  rfl
noncomputable def iC (hk:Bool) (nm:Str) (ths gs ks:List V) (t c:Str):Option (List V):=
 if t=nm/\c= "match" then some ths else if t=nm/\c= "thing" then some gs else if hk=true/\t= "t" /\c= "key" then some ks else none
noncomputable def dX (nm:Str) (td gd kd:List PyData) (t c:Str):List PyData:=
 if t=nm/\c= "match" then td else if t=nm/\c= "thing" then gd else kd
theorem a5p{hk:Bool}{nm:Str}{ths gs ks ys:List V}{td gd kd:List PyData}{t c:Str}(h:iC hk nm ths gs ks t c=some ys):
 (t=nm/\c= "match" /\ys=ths/\dX nm td gd kd t c=td)\/ (t=nm/\c= "thing" /\ys=gs/\dX nm td gd kd t c=gd)\/ (hk=true/\t= "t" /\c= "key" /\ys=ks/\dX nm td gd kd t c=kd):=by
 unfold iC at h
 unfold dX
 by_cases h1:t=nm/\c= "match"
 ·rw[if_pos h1]at h|-
  exact .inl ⟨h1.1,h1.2,(Option.some.inj h).symm,rfl⟩
 rw[if_neg h1]at h|-
 by_cases h2:t=nm/\c= "thing"
 ·rw[if_pos h2]at h|-
  exact .inr (.inl ⟨h2.1,h2.2,(Option.some.inj h).symm,rfl⟩)
 rw[if_neg h2]at h|-
 by_cases h3:hk=true/\t= "t" /\c= "key"
 ·rw[if_pos h3]at h
  exact .inr (.inr ⟨h3.1,h3.2.1,h3.2.2,(Option.some.inj h).symm,rfl⟩)
 ·rw[if_neg h3]at h;cases h
theorem a8p{hk:Bool}{nm:Str}{ths gs ks:List V}:iC hk nm ths gs ks nm "match"=some ths:=if_pos ⟨rfl,rfl⟩
theorem a0n{hk:Bool}{nm:Str}{ths gs ks:List V}:iC hk nm ths gs ks nm "thing"=some gs:=by
 unfold iC
 rw[if_neg (fun h=>absurd h.2 (by decide+kernel)),if_pos ⟨rfl,rfl⟩]
theorem a6f{nm:Str}{ths gs ks:List V}:iC true nm ths gs ks "t" "key"=some ks:=by
 unfold iC
 rw[if_neg (fun h=>absurd h.2 (by decide+kernel)),if_neg (fun h=>absurd h.2 (by decide+kernel)),if_pos ⟨rfl,rfl,rfl⟩]
theorem a5h{hk:Bool}{nm t:Str}{ths gs ks:List V}:iC hk nm ths gs ks t "twice"=none:=by
 unfold iC
 rw[if_neg (fun h=>absurd h.2 (by decide+kernel)),if_neg (fun h=>absurd h.2 (by decide+kernel)),if_neg (fun h=>absurd h.2.2 (by decide+kernel))]
theorem a09{nm:Str}{td gd kd:List PyData}:dX nm td gd kd nm "match"=td:=if_pos ⟨rfl,rfl⟩
theorem sZ{nm:Str}{td gd kd:List PyData}:dX nm td gd kd nm "thing"=gd:=by
 unfold dX
 rw[if_neg (fun h=>absurd h.2 (by decide+kernel)),if_pos ⟨rfl,rfl⟩]
theorem a6B{nm t:Str}{td gd kd:List PyData}:dX nm td gd kd t "key"=kd:=by
 unfold dX
 rw[if_neg (fun h=>absurd h.2 (by decide+kernel)),if_neg (fun h=>absurd h.2 (by decide+kernel))]
noncomputable def mE (nm:Str) (m n:Nat):List Ky:=fZ.flatMap (fun c=>(List.range n).map fun p=>aU nm c p)++ (List.range m).map fun p=>aU "t" "key" p
theorem a6P{nm:Str}{m n:Nat}(hm:m<=6)(hn:n<=6):(mE nm m n).length<=800:=by
 unfold mE
 simp only[List.flatMap_cons,List.flatMap_nil,List.append_nil,List.length_append,List.length_map,List.length_range]
 omega
theorem vR{nm c:Str}{m n p:Nat}(hc:c∈fZ)(hp:p<n):aU nm c p∈mE nm m n:=List.mem_append_left _ (List.mem_flatMap.mpr ⟨c,hc,List.mem_map.mpr ⟨p,List.mem_range.mpr hp,rfl⟩⟩)
theorem a38{nm:Str}{m n p:Nat}(hp:p<m):aU "t" "key" p∈mE nm m n:=List.mem_append_right _ (List.mem_map.mpr ⟨p,List.mem_range.mpr hp,rfl⟩)
noncomputable def dY (B:BM) (pre:List Str) (lm lg gr mc:Addr):BM:={B with kvs:=aR (aR B.kvs (.inr "match":aB) (.ref lm)) (.inr "thing":aB) (.ref lg),rus:=[((.inr "twice":aB),V.ref gr)],mes:=[((.inr "twice":aB),V.ref mc)],ord:=pre++ fZ}
structure rB(H Hz:Hp)(fd lk mc:Addr):Prop where
 s:aD Hz H
 nn:Hz fd=none/\Hz lk=none/\Hz mc=none
 L:∀{x:Addr} {y:List V},H x=some (.lst y)->Hz x=some (.lst y)
 I:∀{x C d:Addr} {y:List (Str×V)},H x=some (.ins C d y)->Hz x=some (.ins C d y)
 T:bF H Hz
 D:∀{x:Addr} {y:List (aB×V)},H x=some (.dK y)->x≠mc->Hz x=some (.dK y)
 Z:fL H Hz
theorem rB.b{CB CT:Addr}{H Hz:Hp}{fd lk mc:Addr}(k:rB H Hz fd lk mc){B:BM}(h:bS CB CT H B)(m1:mc≠B.e)(m2:mc≠B.ru)(m3:mc≠B.me):bS CB CT Hz B:=by
 obtain⟨⟨d1,e1⟩,⟨⟨d2,e2⟩,e3,e4⟩,e5,e6,e7⟩:=h
 exact⟨⟨d1,k.I e1⟩,⟨⟨d2,k.I e2⟩,k.L e3,k.D e4 m1.symm⟩,k.D e5 m2.symm,k.D e6 m3.symm,k.L e7⟩
structure yP(CB CT:Addr)(H:Hp)(kb:List (aB×V))(ch mc:Addr)(hk:Bool)(nm:Str)(tabs:List (Str×BM))(bm:Str->BM)(m:Nat)(lkey:Addr):Prop where
 tb:∀tb∈tabs,tb.2=bm tb.1/\Nl tb.1/\aQ kb (.inr tb.1:aB)=some (.ref tb.2.b)/\bS CB CT H tb.2/\tb.2.xs.length<=6/\tb.2.ord.length<=4/\(mc≠tb.2.e/\mc≠tb.2.ru/\mc≠tb.2.me)/\ch≠tb.2.r/\ch≠tb.2.od
 od:∀tb∈tabs,∀c∈tb.2.ord,(tb.1=nm/\c∈fZ)\/ (hk=true/\tb.1= "t" /\c= "key")
 ky:hk=true->∃Bk,(("t":Str),Bk)∈tabs/\aQ Bk.kvs (.inr "key":aB)=some (.ref lkey)/\Bk.xs.length=m/\aQ Bk.rus (.inr "key":aB)=none
section
variable{P:Program}{w:World}{K:Fg}{mg:Str->Option Value}{base:Heap}
theorem a0w{CS CF CB CT CG:Addr}{z1 z2:Addr×Addr}{H0 H Hz:Hp}{s bd ch:Addr}{kb:List (aB×V)}{B:BM}{pre:List Str}{ths gs ks:List V}{fi fd lk mc gr nl fa lm lg lkey:Addr}{hk:Bool}{nm:Str}{tabs:List (Str×BM)}{bm:Str->BM}{m n:Nat}{td gd kd:List PyData}(M:Mf P w K mg base CS CF CB CT CG z1 z2 H0 H s bd ch kb B pre ths gs fi fd lk mc gr nl fa lm lg)(k:rB H Hz fd lk mc)(h0:(nm,dY B pre lm lg gr mc)∈tabs)(tk:yP CB CT H kb ch mc hk nm tabs bm m lkey)(mb:mc≠bd)(xs:B.xs=dA 0 n)(n6:n<=6)(m6:m<=6)(pt:bN K H ths td)(pg:bN K H gs gd)(lt:ths.length=n)(lg':gs.length=n)
 (kk:hk=true->H lkey=some (.lst ks)/\ks.length=m/\bN K H ks kd/\lkey≠ch):wW K CS CF CB CT CG Hz ⟨fi,bd,fd,lk,tabs,mE nm m n,iC hk nm ths gs ks,nm,"twice",dY B pre lm lg gr mc,gr,fa,ch,mc,gM nl fa,gD,mT⟩ s ch kb bm n "thing" nl (dX nm td gd kd):=by
 have lx:(dY B pre lm lg gr mc).xs.length=n:=by show B.xs.length=n;rw[xs,iG]
 obtain⟨nmm,nmt,nmw,nmk⟩:Nl ("match":Str)/\Nl ("thing":Str)/\Nl ("twice":Str)/\Nl ("key":Str):=by unfold Nl;decide+kernel
 have in3:("twice":Str)∈fZ:=by decide+kernel
 have rus:∀{c:Str},c≠ "twice" ->aQ (dY B pre lm lg gr mc).rus (.inr c:aB)=none:=fun{c} h=>by
  show aQ [((.inr "twice":aB),V.ref gr)] _=none
  rw[iS (fun e=>h (Sum.inr.inj e).symm)]
  rfl
 have kvm:aQ (dY B pre lm lg gr mc).kvs (.inr "match":aB)=some (.ref lm):=by
  show aQ (aR (aR B.kvs _ _) _ _) _=_
  rw[fT,if_neg (by decide+kernel),fT,if_pos rfl]
 have kvt:aQ (dY B pre lm lg gr mc).kvs (.inr "thing":aB)=some (.ref lg):=by
  show aQ (aR (aR B.kvs _ _) _ _) _=_
  rw[fT,if_pos rfl]
 have gvs:∀t c ys,iC hk nm ths gs ks t c=some ys->bN K Hz ys (dX nm td gd kd t c)/\∃D l,(t,D)∈tabs/\ys.length=D.xs.length/\aQ D.kvs (.inr c:aB)=some (.ref l)/\Hz l=some (.lst ys)/\l≠ch/\Nl c/\aQ D.rus (.inr c:aB)=none/\∀p,p<ys.length->aU t c p∈mE nm m n:=fun t c ys h=>by
  rcases a5p (td:=td) (gd:=gd) (kd:=kd) h with⟨rfl,rfl,rfl,e⟩|⟨rfl,rfl,rfl,e⟩|⟨hk1,rfl,rfl,rfl,e⟩
  ·rw[e]
   exact⟨pt.keep k.T,_,lm,h0,by rw[lx];exact lt,kvm,k.L M.hlm.1,M.hlm.2.1,nmm,rus (by decide+kernel),fun p hp=>vR (by decide+kernel) (by omega)⟩
  ·rw[e]
   exact⟨pg.keep k.T,_,lg,h0,by rw[lx];exact lg',kvt,k.L M.hlg.1,M.hlg.2.1,nmt,rus (by decide+kernel),fun p hp=>vR (by decide+kernel) (by omega)⟩
  ·rw[e]
   obtain⟨Bk,g1,g2,g3,g4⟩:=tk.ky hk1
   obtain⟨q1,q2,q3,q4⟩:=kk hk1
   exact⟨q3.keep k.T,Bk,lkey,g1,by rw[g3];exact q2,g2,k.L q1,q4,nmk,g4,fun p hp=>a38 (by omega)⟩
 have go:nD ⟨fi,bd,fd,lk,tabs,mE nm m n,iC hk nm ths gs ks,nm,"twice",dY B pre lm lg gr mc,gr,fa,ch,mc,gM nl fa,gD,mT⟩:=by
  refine⟨⟨a6P m6 n6,fun t c y h=> ?_⟩,h0,eR rfl,eR rfl,a5h,fun p hp=>vR in3 (by rw[<- lx];exact hp),⟨(pH _ _).1,(pH _ _).2.2.2.2⟩,(pH _ _).2.2.2.1,fun is _=>⟨a3c (by intro h;cases h),a5r _⟩,M.fl,mb,fun tb h=>(tk.tb tb h).2.2.2.2.2.2.1,fun tb h=>(tk.tb tb h).2.2.2.2.2.2.2,fun t c y D h hb=> ?_⟩
  ·obtain⟨_,D,l,g1,g2,g3,g4,g5,g6,g7,g8⟩:=gvs t c y h
   exact⟨D,g1,g6,(tk.tb _ g1).2.1,g7,g2,g8⟩
  ·obtain⟨_,D',l,g1,g2,g3,g4,g5,_⟩:=gvs t c y h
   have:D=D':=((tk.tb _ hb).1).trans ((tk.tb _ g1).1).symm
   rw[this,g3]
   exact fun y=>g5 (by cases y;rfl)
 obtain⟨dS,hS⟩:=M.sh
 obtain⟨chs,hch,lch⟩:=M.hch
 refine⟨go,fun tb h=> ?_,xs,M.hfi.imp fun _ e=>k.I e,M.hgr.imp fun _ e=>k.I e,rfl,k.L M.hnl,⟨chs,k.L hch,lch⟩,k.nn,fun _=>(show 0<1 by decide),⟨nmw,List.mem_append_right _ in3⟩,fun tb h c hc=> ?_,fun t c y h=> ?_,⟨_,a0n⟩⟩
 ·obtain⟨a1,a2,a3,a4,a5,a6,a7,a8⟩:=tk.tb tb h
  exact⟨a1,⟨⟨dS,k.I hS⟩,k.D M.hbd mb.symm,a2,a3,k.b a4 a7.1 a7.2.1 a7.2.2⟩,by omega,by omega⟩
 ·rcases tk.od tb h c hc with⟨e,hc⟩|⟨hk1,e1,e2⟩
  ·have hc:c= "match"\/ c= "thing"\/ c= "twice":=by simpa only[List.mem_cons,List.not_mem_nil,or_false] using hc
   rcases hc with rfl|rfl|rfl
   ·exact .inr ⟨nmm,_,by rw[e];exact a8p⟩
   ·exact .inr ⟨nmt,_,by rw[e];exact a0n⟩
   ·exact .inl ⟨e,rfl⟩
  ·refine .inr ⟨by rw[e2];exact nmk,ks,?_⟩
   show iC hk nm ths gs ks tb.1 c=some ks
   rw[hk1,e1,e2]
   exact a6f
 ·obtain⟨q1,D,l,g1,g2,g3,g4,_⟩:=gvs t c y h
  exact⟨q1,D,l,g1,g2,g3,g4⟩
theorem a01{CS CF CB CT CG:Addr}{z1 z2:Addr×Addr}{H0 H Hz:Hp}{s bd ch:Addr}{kb:List (aB×V)}{B:BM}{pre:List Str}{ths gs:List V}{fi fd lk mc gr nl fa lm lg:Addr}(M:Mf P w K mg base CS CF CB CT CG z1 z2 H0 H s bd ch kb B pre ths gs fi fd lk mc gr nl fa lm lg)(k:rB H Hz fd lk mc){X:fU}(e1:X.fd=fd)(e2:X.lk=lk)(e3:X.mc=mc){n:Nat}{src:Str}{dv:Str->Str->List PyData}:rW K z2.2 Hz X n src dv H:=by
 refine⟨k.s,⟨[],M.t2,(fun c hc=>by cases hc)⟩,[],[],[],by rw[e1];exact M.hfd,by rw[e2];exact M.hlk,by rw[e3];exact M.hmc,dU.nil,dU.nil,⟨List.nodup_nil,(fun k hk=>by cases hk)⟩,(fun t c p v y _ h=>by cases h),fun p hp=>⟨fun _=>rfl,(fun v h=>by cases h)⟩⟩
theorem a3s{H:Hp}{fd lk mc zt:Addr}{xs:List Addr}(h1:∃y,H fd=some (.dT y))(h2:∃y,H lk=some (.dT y))(h3:H mc=some (.dK []))(h4:∃S,H zt=some (eN zt S))(h5:∀x∈xs,∃y,H x=some (.dT y)):∃Hz,rB H Hz fd lk mc/\Hz zt=none/\(∀x∈xs,Hz x=none):=by
 classical
 obtain⟨y1,h1⟩:=h1
 obtain⟨y2,h2⟩:=h2
 obtain⟨S,h4⟩:=h4
 let R:Addr->Prop:=fun x=>x=fd\/ x=lk\/ x=mc\/ x=zt\/ x∈xs
 have kd:∀{x:Addr} {o:HO},H x=some o->(∀y,o≠ .dT y)->x≠mc->(∀φ,o≠ .ext φ)->¬R x:=fun{x o} e n1 n2 n3 r=>by
  rcases r with r|r|r|r|r
  ·rw[r,h1]at e;exact n1 _ (Option.some.inj e).symm
  ·rw[r,h2]at e;exact n1 _ (Option.some.inj e).symm
  ·exact n2 r
  ·rw[r,h4]at e;exact n3 _ (Option.some.inj e).symm
  ·obtain⟨y,h⟩:=h5 x r
   rw[h]at e;exact n1 _ (Option.some.inj e).symm
 have nm:∀{x:Addr} {o:HO},H x=some o->(∀y,o≠ .dK y)->x≠mc:=fun e n y=>by rw[y,h3]at e;exact n _ (Option.some.inj e).symm
 have z:∀{x:Addr} {o:HO},H x=some o->¬R x->(fun x=>if R x then none else H x:Hp) x=some o:=fun e n=>by show(if R _ then none else H _)=_;rw[if_neg n];exact e
 have zn:∀{x:Addr},R x->(fun x=>if R x then none else H x:Hp) x=none:=fun r=>if_pos r
 refine⟨fun x=>if R x then none else H x,⟨fun x o e=> ?_,⟨zn (.inl rfl),zn (.inr (.inl rfl)),zn (.inr (.inr (.inl rfl)))⟩,fun e=>z e (kd e (fun _ y=>by cases y) (nm e (fun _ y=>by cases y)) (fun _ y=>by cases y)),fun e=>z e (kd e (fun _ y=>by cases y) (nm e (fun _ y=>by cases y)) (fun _ y=>by cases y)),fun x xs e=>z e (kd e (fun _ y=>by cases y) (nm e (fun _ y=>by cases y)) (fun _ y=>by cases y)),fun e n=>z e (kd e (fun _ y=>by cases y) n (fun _ y=>by cases y)),fun x u e=>z e fun r=> ?_⟩,zn (.inr (.inr (.inr (.inl rfl)))),fun x hx=>zn (.inr (.inr (.inr (.inr hx))))⟩
 ·have e:(if R x then none else H x)=some o:=e
  by_cases r:R x
  ·rw[if_pos r]at e;cases e
  ·rw[if_neg r]at e;exact e
 ·rcases r with r|r|r|r|r
  ·rw[r,h1]at e;cases e
  ·rw[r,h2]at e;cases e
  ·rw[r,h3]at e;cases e
  ·rw[r,h4]at e;cases e
  ·obtain⟨y,h⟩:=h5 x r
   rw[h]at e;cases e
theorem a13{CS CF CB CT CG:Addr}{z1 z2:Addr×Addr}{H0 H:Hp}{s bd ch:Addr}{kb:List (aB×V)}{B:BM}{pre:List Str}{ths gs ks:List V}{fi fd lk mc gr nl fa lm lg lkey kl tl gl:Addr}{nm:Str}{tabs:List (Str×BM)}{bm:Str->BM}{m n:Nat}{td gd kd:List PyData}(M:Mf P w K mg base CS CF CB CT CG z1 z2 H0 H s bd ch kb B pre ths gs fi fd lk mc gr nl fa lm lg)(n12:z1.2≠z2.2)(h0:(nm,dY B pre lm lg gr mc)∈tabs)(tk:yP CB CT H kb ch mc true nm tabs bm m lkey)(mb:mc≠bd)(xs:B.xs=dA 0 n)(n6:n<=6)(m6:m<=6)(pt:bN K H ths td)(pg:bN K H gs gd)(lt:ths.length=n)(lg':gs.length=n)
 (kk:H lkey=some (.lst ks)/\ks.length=m/\bN K H ks kd/\lkey≠ch)(cf:((bm "t").ord=pM/\(bm nm).ord=pM/\nm= "t")\/ ((bm "t").ord=gE/\(bm nm).ord=fZ/\nm= "u"))(hkl:H kl=some (.lst ks))(htl:H tl=some (.lst ths))(hgl:H gl=some (.lst gs))(hw:∀d∈gd,Bw d):∃X,nG P w K mg base CS CF CB CT CG z1 z2 X H s s kl tl gl nm m n:=by
 obtain⟨Hz,k,hzt,_⟩:=a3s (zt:=z2.2) (xs:=[]) ⟨_,M.hfd⟩ ⟨_,M.hlk⟩ M.hmc ⟨_,M.t2⟩ (fun x hx=>by cases hx)
 have S:=a0w M k h0 tk mb xs n6 m6 pt pg lt lg' (fun _=>kk)
 have lx:(dY B pre lm lg gr mc).xs.length=n:=by show B.xs.length=n;rw[xs,iG]
 have I:=a1j S (M.fn.keep k.Z) hzt
 have fr:∀{x:Addr} {o:HO},H x=some o->(∀y,o≠ .dT y)->(∀y,o≠ .dK y)->(∀φ,o≠ .ext φ)->x≠fd/\x≠lk/\x≠mc/\x≠z2.2:=fun{x o} e h1 h2 h3=>by
  refine⟨fun y=> ?_,fun y=> ?_,fun y=> ?_,fun y=> ?_⟩
  ·rw[y,M.hfd]at e;exact h1 _ (Option.some.inj e).symm
  ·rw[y,M.hlk]at e;exact h1 _ (Option.some.inj e).symm
  ·rw[y,M.hmc]at e;exact h2 _ (Option.some.inj e).symm
  ·rw[y,M.t2]at e;exact h3 _ (Option.some.inj e).symm
 have frL:∀{x:Addr} {y:List V},H x=some (.lst y)->x≠fd/\x≠lk/\x≠mc/\x≠z2.2:=fun e=>fr e (fun _ y=>by cases y) (fun _ y=>by cases y) (fun _ y=>by cases y)
 obtain⟨Bk,q1,q2,q3,q4⟩:=tk.ky rfl
 have eb:bm nm=dY B pre lm lg gr mc:=((tk.tb _ h0).1).symm
 have ek:bm "t"=Bk:=((tk.tb _ q1).1).symm
 have v1:∀{t c:Str},c≠ "twice" ->(fun p=>if t=nm/\c= "twice" then gT gD ((dX nm td gd kd nm "thing").getD p .none) else(dX nm td gd kd t c).getD p .none)=fun p=>(dX nm td gd kd t c).getD p .none:=fun h=>by
  funext p
  rw[if_neg (fun e=>h e.2)]
 refine⟨_,I,a01 M k rfl rfl rfl,⟨rfl,Bk,q1⟩,⟨rfl,_,h0⟩,?_,?_,cf,⟨frL hkl,ks,hkl,?_⟩,⟨frL htl,ths,htl,?_⟩,⟨frL hgl,gs,hgl,?_⟩,fun q hq=> ?_,fun q hq=> ?_,fun H' hI f' z hz'=> ?_⟩
 ·show(bm "t").xs.length=m
  rw[ek];exact q3
 ·show(bm nm).xs.length=n
  rw[eb];exact lx
 ·show bN K H ks ((List.range m).map fun p=>if "t"=nm/\("key":Str)= "twice" then _ else _)
  rw[v1 (by decide+kernel),a6B,oK (by rw[<- kk.2.1];exact(Paired.length kk.2.2.1).symm)]
  exact kk.2.2.1
 ·show bN K H ths ((List.range n).map fun p=>if nm=nm/\("match":Str)= "twice" then _ else _)
  rw[v1 (by decide+kernel),a09,oK (by rw[<- lt];exact(Paired.length pt).symm)]
  exact pt
 ·show bN K H gs ((List.range n).map fun p=>if nm=nm/\("thing":Str)= "twice" then _ else _)
  rw[v1 (by decide+kernel),sZ,oK (by rw[<- lg'];exact(Paired.length pg).symm)]
  exact pg
 ·show Bw (if nm=nm/\("thing":Str)= "twice" then _ else _)
  rw[if_neg (fun e=>absurd e.2 (by decide+kernel)),sZ]
  have lgd:gs.length=gd.length:=Paired.length pg
  rw[List.getD_eq_getElem?_getD,List.getElem?_eq_getElem (by omega)]
  exact hw _ (List.getElem_mem _)
 ·show(if nm=nm/\("twice":Str)= "twice" then _ else _)=gT gD (if nm=nm/\("thing":Str)= "twice" then _ else _)
  rw[if_pos ⟨rfl,rfl⟩,if_neg (fun e=>absurd e.2 (by decide+kernel))]
 ·simp only[List.mem_cons,List.not_mem_nil,or_false]at hz'
  rcases hz' with rfl|rfl
  ·obtain⟨S1,e⟩:=M.t1
   refine⟨S1,f'.k _ _ ⟨fun y=> ?_,fun y=> ?_,fun y=> ?_,n12⟩ e⟩
   ·have y:z.2=fd:=y;rw[y,M.hfd]at e;cases e
   ·have y:z.2=lk:=y;rw[y,M.hlk]at e;cases e
   ·have y:z.2=mc:=y;rw[y,M.hmc]at e;cases e
  ·obtain⟨_,⟨S2,e,_⟩,_⟩:=hI
   exact⟨S2,e⟩
theorem a3U{CS CF CB CT CG:Addr}{z1 z2:Addr×Addr}{H0 H:Hp}{s bd ch:Addr}{kb:List (aB×V)}{B:BM}{pre:List Str}{ths gs ks:List V}{fi fd lk mc gr nl fa lm lg lkey kl tl gl:Addr}{m n:Nat}{td gd kd:List PyData}(M:Mf P w K mg base CS CF CB CT CG z1 z2 H0 H s bd ch kb B pre ths gs fi fd lk mc gr nl fa lm lg)(n12:z1.2≠z2.2)(tk:yP CB CT H kb ch mc false "u" [("u",dY B pre lm lg gr mc)] (fun _=>dY B pre lm lg gr mc) m lkey)(mb:mc≠bd)(xs:B.xs=dA 0 n)(n6:n<=6)(m6:m<=6)(pt:bN K H ths td)(pg:bN K H gs gd)(lt:ths.length=n)(lg':gs.length=n)(pre0:pre= [])
 {s0 bd0 ch0 fi0 fd0 lk0:Addr}{kb0:List (aB×V)}{B0:BM}(ns:s0≠s)(sh0:iV CS CB CT s0 bd0 ch0 fi0 kb0 "t" B0 H)(hf0:∃df,H fi0=some (.ins CF df (fG bd0 fd0 lk0)))(hd0:H fd0=some (.dT []))(nf0:fd0≠fd/\fd0≠lk)(x0:B0.xs.length=m)(o0:B0.ord=gE)(r0:B0.rus= [])(m0:mc≠bd0/\mc≠B0.e/\mc≠B0.ru/\mc≠B0.me)(kv0:aQ B0.kvs (.inr "key":aB)=some (.ref lkey))
 (kk:H lkey=some (.lst ks)/\ks.length=m/\bN K H ks kd)(hkl:H kl=some (.lst ks))(htl:H tl=some (.lst ths))(hgl:H gl=some (.lst gs))(hw:∀d∈gd,Bw d):∃X,nG P w K mg base CS CF CB CT CG z1 z2 X H s0 s kl tl gl "u" m n:=by
 obtain⟨Hz,k,hzt,hz0⟩:=a3s (zt:=z2.2) (xs:=[fd0]) ⟨_,M.hfd⟩ ⟨_,M.hlk⟩ M.hmc ⟨_,M.t2⟩ (fun x hx=>by rw[List.mem_singleton.mp hx];exact⟨_,hd0⟩)
 have hB:(("u":Str),dY B pre lm lg gr mc)∈ [(("u":Str),dY B pre lm lg gr mc)]:=List.mem_singleton.mpr rfl
 have S:=a0w (ks:=ks) (kd:=kd) M k hB tk mb xs n6 m6 pt pg lt lg' (fun h=>by cases h)
 have lx:(dY B pre lm lg gr mc).xs.length=n:=by show B.xs.length=n;rw[xs,iG]
 have nmk:Nl ("key":Str):=by unfold Nl;decide+kernel
 have ok:GvOk K CS CF CB CT Hz ⟨s0,bd0,ch0,fi0,fd0,lk0,kb0,"t",B0,fun _=>ks,fun _=>kd⟩:=by
  obtain⟨⟨dx,a1⟩,a2,a3,a4,a5⟩:=sh0
  refine⟨⟨⟨dx,k.I a1⟩,k.D a2 m0.1.symm,a3,a4,k.b a5 m0.2.1 m0.2.2.1 m0.2.2.2⟩,hf0.imp fun _ e=>k.I e,hz0 _ (List.mem_singleton.mpr rfl),by show B0.xs.length<=30;omega,by show B0.ord.length<=20;rw[o0];decide,fun c hc=> ?_⟩
  have hc:c∈gE:=by rw[<- o0];exact hc
  obtain rfl:=List.mem_singleton.mp hc
  exact⟨nmk,by show aQ B0.rus _=none;rw[r0];rfl,by show ks.length=B0.xs.length;omega,kk.2.2.keep k.T,lkey,kv0,k.L kk.1⟩
 have I:=a73 S (M.fn.keep k.Z) hzt ok ⟨nf0.1,nf0.2,(fun y=>by{have y:fd0=mc:=y;rw[y,M.hmc]at hd0;cases hd0}),(fun y=>by{have y:fd0=z2.2:=y;rw[y,M.t2]at hd0;cases hd0})⟩
 have frL:∀{x:Addr} {y:List V},H x=some (.lst y)->(x≠fd/\x≠lk/\x≠mc/\x≠z2.2)/\x≠fd0:=fun{x y} e=>by
  refine⟨⟨fun y=> ?_,fun y=> ?_,fun y=> ?_,fun y=> ?_⟩,fun y=> ?_⟩
  ·rw[y,M.hfd]at e;cases e
  ·rw[y,M.hlk]at e;cases e
  ·rw[y,M.hmc]at e;cases e
  ·rw[y,M.t2]at e;cases e
  ·rw[y,hd0]at e;cases e
 have v1:∀{c:Str},c≠ "twice" ->(fun p=>if s=s0 then kd.getD p .none else if("u":Str)= "u" /\c= "twice" then gT gD ((dX "u" td gd kd "u" "thing").getD p .none) else(dX "u" td gd kd "u" c).getD p .none)=fun p=>(dX "u" td gd kd "u" c).getD p .none:=fun h=>by
  funext p
  rw[if_neg ns.symm,if_neg (fun e=>h e.2)]
 refine⟨_,I,⟨a01 M k rfl rfl rfl,[],hd0,dU.nil,fun c _ p v h=>by cases h⟩,.inl ⟨rfl,rfl⟩,.inr ⟨ns.symm,rfl,_,hB⟩,?_,?_,.inr ⟨?_,?_,rfl⟩,⟨frL hkl,ks,hkl,?_⟩,⟨frL htl,ths,htl,?_⟩,⟨frL hgl,gs,hgl,?_⟩,fun q hq=> ?_,fun q hq=> ?_,fun H' hI f' z hz'=> ?_⟩
 ·show(if s0=s0 then B0.xs.length else _)=m
  rw[if_pos rfl];exact x0
 ·show(if s=s0 then B0.xs.length else(dY B pre lm lg gr mc).xs.length)=n
  rw[if_neg ns.symm];exact lx
 ·show(if s0=s0 then B0.ord else _)=gE
  rw[if_pos rfl];exact o0
 ·show(if s=s0 then B0.ord else(dY B pre lm lg gr mc).ord)=fZ
  rw[if_neg ns.symm]
  show pre++ fZ=fZ
  rw[pre0];rfl
 ·show bN K H ks ((List.range m).map fun p=>if s0=s0 then kd.getD p .none else _)
  have e:∀g:Nat->PyData,(fun p=>if s0=s0 then kd.getD p .none else g p)=fun p=>kd.getD p .none:=fun g=>by funext p;rw[if_pos rfl]
  rw[e,oK (by rw[<- kk.2.1];exact(Paired.length kk.2.2).symm)]
  exact kk.2.2
 ·show bN K H ths ((List.range n).map fun p=>if s=s0 then kd.getD p .none else if("u":Str)= "u" /\("match":Str)= "twice" then gT gD ((dX "u" td gd kd "u" "thing").getD p .none) else(dX "u" td gd kd "u" "match").getD p .none)
  rw[v1 (by decide+kernel),a09,oK (by rw[<- lt];exact(Paired.length pt).symm)]
  exact pt
 ·show bN K H gs ((List.range n).map fun p=>if s=s0 then kd.getD p .none else if("u":Str)= "u" /\("thing":Str)= "twice" then gT gD ((dX "u" td gd kd "u" "thing").getD p .none) else(dX "u" td gd kd "u" "thing").getD p .none)
  rw[v1 (by decide+kernel),sZ,oK (by rw[<- lg'];exact(Paired.length pg).symm)]
  exact pg
 ·show Bw (if s=s0 then kd.getD q .none else if("u":Str)= "u" /\("thing":Str)= "twice" then gT gD ((dX "u" td gd kd "u" "thing").getD q .none) else(dX "u" td gd kd "u" "thing").getD q .none)
  rw[if_neg ns.symm,if_neg (fun e=>absurd e.2 (by decide+kernel)),sZ]
  have lgd:gs.length=gd.length:=Paired.length pg
  rw[List.getD_eq_getElem?_getD,List.getElem?_eq_getElem (by omega)]
  exact hw _ (List.getElem_mem _)
 ·have e1:∀c:Str,(uY K z2.2 Hz ⟨fi,bd,fd,lk,[("u",dY B pre lm lg gr mc)],mE "u" m n,iC false "u" ths gs ks,"u","twice",dY B pre lm lg gr mc,gr,fa,ch,mc,gM nl fa,gD,mT⟩ s (fun _=>dY B pre lm lg gr mc) n "thing" (dX "u" td gd kd) ⟨s0,bd0,ch0,fi0,fd0,lk0,kb0,"t",B0,fun _=>ks,fun _=>kd⟩).M.val s "u" c q=if("u":Str)= "u" /\c= "twice" then gT gD ((dX "u" td gd kd "u" "thing").getD q .none) else(dX "u" td gd kd "u" c).getD q .none:=fun c=>if_neg ns.symm
  rw[e1,e1,if_pos ⟨rfl,rfl⟩,if_neg (fun e=>absurd e.2 (by decide+kernel))]
 ·simp only[List.mem_cons,List.not_mem_nil,or_false]at hz'
  rcases hz' with rfl|rfl
  ·obtain⟨S1,e⟩:=M.t1
   refine⟨S1,f'.k _ _ ⟨⟨fun y=> ?_,fun y=> ?_,fun y=> ?_,n12⟩,fun y=> ?_⟩ e⟩
   ·have y:z.2=fd:=y;rw[y,M.hfd]at e;cases e
   ·have y:z.2=lk:=y;rw[y,M.hlk]at e;cases e
   ·have y:z.2=mc:=y;rw[y,M.hmc]at e;cases e
   ·have y:z.2=fd0:=y;rw[y,hd0]at e;cases e
  ·obtain⟨⟨_,⟨S2,e,_⟩,_⟩,_⟩:=hI
   exact⟨S2,e⟩
end
end My
namespace L2
open PySem PySem.Spec PyProof.Rows
theorem iZ.okT{P:Program}{w:World}{K:Fg}{mg:Str->Option Value}{base:Heap}{x qual:Str}{st:Stmt}{f c:Addr}{fd:FuncData}{N ps:List Str}{k:Nat}{sp:Sp}(F:iZ K x qual st f fd)(hc:fd.code= .ref c)(S:aV N ps (aN st))(len:∀vs H Q E,sp vs H Q E->vs.length=ps.length)
 (hbody:∀(A:Around) (outer:List Env) (s:Shared) (H:Hp) (vs:List V) (Q:VK) (E:XK),bT k (A.deeper (envOfC qual (aN st) s.heap.objs.size f (.ref c)))->sp vs H Q E->
  ∃t,eE (cY aC P w K mg base N qual (aN st) f (.ref c) A outer s H E).nox (eG st) t/\t {nx:=fun _ H'=>Q .non H',rt:=Q} (start N vs) H):eX P w K mg base aC (k+ 1) f fd ps sp:=by
 obtain⟨oc,od,kV,doc,pm,an,cdv,ct,osl,rfl,lk,hcd⟩:=F.ex
 have e:cdv= .ref c:=hc
 subst e
 refine vG lk hcd S len fun A outer s H vs Q E hr hsp=> ?_
 obtain⟨t,h,q⟩:=hbody A outer s H vs Q E hr hsp
 exact⟨t,h.nox,q⟩
end L2
namespace My
open PySem L2
theorem bS.some{CB CT:Addr}{H:Hp}{B:BM}(h:bS CB CT H B):∀x∈B.foot,H x≠none:=by
 obtain⟨⟨d1,e1⟩,⟨⟨d2,e2⟩,e3,e4⟩,e5,e6,e7⟩:=h
 intro x hx
 unfold BM.foot at hx
 simp only[List.mem_cons,List.not_mem_nil,or_false]at hx
 rcases hx with rfl|rfl|rfl|rfl|rfl|rfl|rfl
 ·rw[e1];exact fun y=>by cases y
 ·rw[e2];exact fun y=>by cases y
 ·rw[e3];exact fun y=>by cases y
 ·rw[e4];exact fun y=>by cases y
 ·rw[e5];exact fun y=>by cases y
 ·rw[e6];exact fun y=>by cases y
 ·rw[e7];exact fun y=>by cases y
structure S1(K:Fg)(CS CF CB CT:Addr)(z1 z2:Addr×Addr)(H0 H:Hp)(s bd ch fi fd lk:Addr)(cs:List V)(B:BM)(lkey kl tl gl:Addr)(m n:Nat)(ks ths gs:List V)(kd td gd:List PyData):Prop where
 old:aD H0 H
 sh:∃dx,H s=some (.ins CS dx (dP bd ch fi))
 hch:H ch=some (.lst cs)
 hbd:H bd=some (.dK [((.inr "t":aB),V.ref B.b)])
 hfi:∃df,H fi=some (.ins CF df (fG bd fd lk))
 hfd:H fd=some (.dT [])
 cl:cs.length<=4
 bt:bS CB CT H B
 sp:B.sep
 ft:∀x∈B.foot,x≠s/\x≠ch/\x≠bd/\H0 x=none
 nw:H0 s=none/\H0 ch=none/\H0 bd=none
 xs:B.xs=dA 0 m
 ru:B.rus= []
 me:B.mes= []
 od:B.ord=gE
 kv:B.kvs= [((.inr "key":aB),V.ref lkey)]
 key:H lkey=some (.lst ks)/\lkey≠ch/\lkey≠B.od
 hkl:H0 kl=some (.lst ks)/\ks.length=m/\bN K H0 ks kd
 htl:H0 tl=some (.lst ths)/\ths.length=n/\bN K H0 ths td
 hgl:H0 gl=some (.lst gs)/\gs.length=n/\bN K H0 gs gd
 bw:∀d∈gd,Bw d
 m6:m<=6
 n6:n<=6
 t1:H0 z1.2=some (eN z1.2 [])
 t2:H0 z2.2=some (eN z2.2 [])
theorem pP{s ch x:Addr}{B:BM}:x∈Wm s ch B↔x=s\/ x=ch\/ x=B.od\/ x=B.e\/ x=B.ru\/ x=B.me:=by
 unfold Wm
 simp only[List.mem_cons,List.not_mem_nil,or_false]
theorem jG:Nl ("t":Str)/\Nl ("u":Str):=by unfold Nl;decide+kernel
section
variable{P:Program}{w:World}{K:Fg}{mg:Str->Option Value}{base:Heap}
theorem md_A{CS CF CB CT:Addr}{z1 z2:Addr×Addr}{H0 H:Hp}{s bd ch fi fd lk:Addr}{cs:List V}{B:BM}{lkey kl tl gl:Addr}{m:Nat}{ks ths gs:List V}{kd td gd:List PyData}(G:S1 K CS CF CB CT z1 z2 H0 H s bd ch fi fd lk cs B lkey kl tl gl m m ks ths gs kd td gd):Md K CS CB CT z1 z2 H s bd ch cs [((.inr "t":aB),V.ref B.b)] B [] "t" m gE tl gl ths gs td gd:=by
 have cl:=G.cl
 have mem:∀{x},x∈ [B.b,B.g,B.r,B.e,B.ru,B.me,B.od] ->x∈B.foot:=fun h=>h
 have w0:∀{x:Addr} {o:HO},H0 x=some o->x∉Wm s ch B:=fun{x o} e h=>by
  have k:∀y,H0 y=none->x≠y:=fun y h z=>by rw[<- z,e]at h;cases h
  rcases pP.mp h with y|y|y|y|y|y
  ·exact k _ G.nw.1 y
  ·exact k _ G.nw.2.1 y
  ·exact k _ (G.ft _ (mem (by simp))).2.2.2 y
  ·exact k _ (G.ft _ (mem (by simp))).2.2.2 y
  ·exact k _ (G.ft _ (mem (by simp))).2.2.2 y
  ·exact k _ (G.ft _ (mem (by simp))).2.2.2 y
 refine⟨⟨G.sh.imp fun dx e=>⟨fi,e⟩,G.hch,G.hbd⟩,by omega,jG.1,eR rfl,G.bt,G.sp,⟨(G.ft _ (mem (by simp))).2.1.symm,(G.ft _ (mem (by simp))).2.1.symm,(G.ft _ (mem (by simp))).2.2.1.symm,(G.ft _ (mem (by simp))).2.2.1.symm,(G.ft _ (mem (by simp))).2.2.1.symm⟩,G.xs,G.m6,G.ru,G.me,G.od,.inr rfl,by rw[G.kv];exact(show 1<=1 by decide),⟨G.old _ _ G.htl.1,G.htl.2.1,G.htl.2.2.keep (bF.of G.old)⟩,⟨G.old _ _ G.hgl.1,G.hgl.2.1,G.hgl.2.2.keep (bF.of G.old)⟩,⟨w0 G.htl.1,w0 G.hgl.1⟩,G.old _ _ G.t1,G.old _ _ G.t2,⟨by simp,(show 1<=4 by decide)⟩,fun kv hkv=> .inl (List.mem_singleton.mp hkv),fun tb h=>by cases h⟩
theorem bd_A{CS CF CB CT CG:Addr}{z1 z2:Addr×Addr}(n12:z1.2≠z2.2){H0 H H8:Hp}{s bd ch fi0 fd0 lk0:Addr}{cs:List V}{B:BM}{lkey kl tl gl:Addr}{m:Nat}{ks ths gs:List V}{kd td gd:List PyData}(G:S1 K CS CF CB CT z1 z2 H0 H s bd ch fi0 fd0 lk0 cs B lkey kl tl gl m m ks ths gs kd td gd){fi fd lk mc gr nl fa lm lg:Addr}(M:Mf P w K mg base CS CF CB CT CG z1 z2 H H8 s bd ch [((.inr "t":aB),V.ref B.b)] B gE ths gs fi fd lk mc gr nl fa lm lg):∃X,nG P w K mg base CS CF CB CT CG z1 z2 X H8 s s kl tl gl "t" m m:=by
 have mem:∀{x},x∈ [B.b,B.g,B.r,B.e,B.ru,B.me,B.od] ->x∈B.foot:=fun h=>h
 have w0:∀{x:Addr} {o:HO},H0 x=some o->x∉Wm s ch B:=fun{x o} e h=>by
  have k:∀y,H0 y=none->x≠y:=fun y h z=>by rw[<- z,e]at h;cases h
  rcases pP.mp h with y|y|y|y|y|y
  ·exact k _ G.nw.1 y
  ·exact k _ G.nw.2.1 y
  ·exact k _ (G.ft _ (mem (by simp))).2.2.2 y
  ·exact k _ (G.ft _ (mem (by simp))).2.2.2 y
  ·exact k _ (G.ft _ (mem (by simp))).2.2.2 y
  ·exact k _ (G.ft _ (mem (by simp))).2.2.2 y
 have old:∀{x:Addr} {o:HO},H0 x=some o->(∀φ,o≠ .ext φ)->H8 x=some o:=fun{x o} e n=>M.old _ _ (w0 e) (fun y=>by rw[y,G.t1]at e;exact n _ (Option.some.inj e).symm) (G.old _ _ e)
 have kt:bF H0 H8:=fun x xs e=>old e (fun _ y=>by cases y)
 have ml:∀{x:Addr} {o:HO},H x=some o->mc≠x:=fun e y=>by rw[<- y,M.nf.2.2.1]at e;cases e
 obtain⟨dx,hs⟩:=G.sh
 have hkey:H8 lkey=some (.lst ks):=by
  refine M.old _ _ (fun h=> ?_) (fun y=> ?_) G.key.1
  ·rcases pP.mp h with y|y|y|y|y|y
   ·have e:=G.key.1;rw[y,hs]at e;cases e
   ·exact G.key.2.1 y
   ·exact G.key.2.2 y
   ·have e:=G.key.1;rw[y,G.bt.tab.kept]at e;cases e
   ·have e:=G.key.1;rw[y,G.bt.rul]at e;cases e
   ·have e:=G.key.1;rw[y,G.bt.mem]at e;cases e
  ·have e:=G.key.1;rw[y,G.old _ _ G.t1]at e;cases e
 have lx:B.xs.length=m:=by rw[G.xs,iG]
 have m6:=G.m6
 refine a13 (tabs:=[("t",dY B gE lm lg gr mc)]) (bm:=fun _=>dY B gE lm lg gr mc) (lkey:=lkey) (ks:=ks) (kd:=kd) (td:=td) (gd:=gd) M n12 (List.mem_singleton.mpr rfl) ⟨fun tb h=> ?_,fun tb h c hc=> ?_,fun _=>⟨_,List.mem_singleton.mpr rfl,?_,lx,?_⟩⟩ (ml G.hbd) G.xs G.m6 G.m6 (G.htl.2.2.keep kt) (G.hgl.2.2.keep kt) G.htl.2.1 G.hgl.2.1 ⟨hkey,G.hkl.2.1,G.hkl.2.2.keep kt,G.key.2.1⟩ (.inl ⟨rfl,rfl,rfl⟩) (old G.hkl.1 (fun _ y=>by cases y)) (old G.htl.1 (fun _ y=>by cases y)) (old G.hgl.1 (fun _ y=>by cases y)) G.bw
 ·obtain rfl:=List.mem_singleton.mp h
  exact⟨rfl,jG.1,eR rfl,M.bt,by show B.xs.length<=6;omega,(show 4<=4 by decide),⟨ml G.bt.tab.kept,ml G.bt.rul,ml G.bt.mem⟩,(show ch≠B.r from(G.ft _ (mem (by simp))).2.1.symm),(show ch≠B.od from(G.ft _ (mem (by simp))).2.1.symm)⟩
 ·obtain rfl:=List.mem_singleton.mp h
  have hc:c= "key"\/ c∈fZ:=by
   have hc:c∈gE++ fZ:=hc
   rcases List.mem_append.mp hc with h|h
   ·exact .inl (List.mem_singleton.mp h)
   ·exact .inr h
  rcases hc with rfl|h
  ·exact .inr ⟨rfl,rfl,rfl⟩
  ·exact .inl ⟨rfl,h⟩
 ·show aQ (aR (aR B.kvs _ _) _ _) _=_
  rw[fT,if_neg (by decide+kernel),fT,if_neg (by decide+kernel),G.kv]
  exact eR rfl
 ·show aQ [((.inr "twice":aB),V.ref gr)] _=none
  rw[iS (fun e=>absurd (show("twice":Str)= "key" from Sum.inr.inj e) (by decide+kernel))]
  rfl
theorem md_B{CS CF CB CT:Addr}{z1 z2:Addr×Addr}{H0 H H1:Hp}{s bd ch fi fd lk:Addr}{cs cs1:List V}{B B1:BM}{lkey kl tl gl:Addr}{m n:Nat}{ks ths gs:List V}{kd td gd:List PyData}(G:S1 K CS CF CB CT z1 z2 H0 H s bd ch fi fd lk cs B lkey kl tl gl m n ks ths gs kd td gd)(u:∀x o,x≠s->x≠ch->x≠bd->H x=some o->H1 x=some o)(sh:oW CS s bd ch cs1 [((.inr "t":aB),V.ref B.b),((.inr "u":aB),V.ref B1.b)] H1)(cl:cs1.length<=10)(bt:bS CB CT H1 B1)(sp:B1.sep)(nw:∀x∈B1.foot,H x=none)(xs:B1.xs=dA 0 n)(ru:B1.rus= [])(me:B1.mes= [])(od:B1.ord= [])(kv:B1.kvs= []):Md K CS CB CT z1 z2 H1 s bd ch cs1 [((.inr "t":aB),V.ref B.b),((.inr "u":aB),V.ref B1.b)] B1 [("t",B)] "u" n [] tl gl ths gs td gd:=by
 have mem:∀{x},x∈ [B.b,B.g,B.r,B.e,B.ru,B.me,B.od] ->x∈B.foot:=fun h=>h
 have mem1:∀{x},x∈ [B1.b,B1.g,B1.r,B1.e,B1.ru,B1.me,B1.od] ->x∈B1.foot:=fun h=>h
 obtain⟨dx,hs⟩:=G.sh
 have n1:∀{x y:Addr} {o:HO},H y=some o->x∈B1.foot->y≠x:=fun e h z=>by rw[z,nw _ h]at e;cases e
 have w1:∀{x:Addr} {o:HO},H x=some o->x≠s->x≠ch->x∉Wm s ch B1:=fun{x o} e ns nc h=>by
  rcases pP.mp h with y|y|y|y|y|y
  ·exact ns y
  ·exact nc y
  ·exact n1 e (mem1 (by simp)) y
  ·exact n1 e (mem1 (by simp)) y
  ·exact n1 e (mem1 (by simp)) y
  ·exact n1 e (mem1 (by simp)) y
 have k0:∀{x:Addr} {o:HO},H0 x=some o->x≠s/\x≠ch/\x≠bd:=fun{x o} e=>by
  have k:∀y,H0 y=none->x≠y:=fun y h z=>by rw[<- z,e]at h;cases h
  exact⟨k _ G.nw.1,k _ G.nw.2.1,k _ G.nw.2.2⟩
 have u0:∀{x:Addr} {o:HO},H0 x=some o->H1 x=some o:=fun e=>u _ _ (k0 e).1 (k0 e).2.1 (k0 e).2.2 (G.old _ _ e)
 have kt:bF H0 H1:=fun x xs e=>u0 e
 refine⟨sh,cl,jG.2,rfl,bt,sp,⟨n1 G.hch (mem1 (by simp)),n1 G.hch (mem1 (by simp)),n1 G.hbd (mem1 (by simp)),n1 G.hbd (mem1 (by simp)),n1 G.hbd (mem1 (by simp))⟩,xs,G.n6,ru,me,od,.inl rfl,by rw[kv];exact Nat.zero_le _,⟨u0 G.htl.1,G.htl.2.1,G.htl.2.2.keep kt⟩,⟨u0 G.hgl.1,G.hgl.2.1,G.hgl.2.2.keep kt⟩,⟨w1 (G.old _ _ G.htl.1) (k0 G.htl.1).1 (k0 G.htl.1).2.1,w1 (G.old _ _ G.hgl.1) (k0 G.hgl.1).1 (k0 G.hgl.1).2.1⟩,u0 G.t1,u0 G.t2,⟨(show [(.inr "t":aB),(.inr "u":aB)].Nodup by decide+kernel),(show 2<=4 by decide)⟩,fun kv hkv=> ?_,fun tb h=> ?_⟩
 ·simp only[List.mem_cons,List.not_mem_nil,or_false]at hkv
  rcases hkv with rfl|rfl
  ·exact .inr ⟨"t",B,List.mem_singleton.mpr rfl,rfl⟩
  ·exact .inl rfl
 ·obtain rfl:=List.mem_singleton.mp h
  refine⟨jG.1,G.bt.mvF fun x hx o e=>u _ _ (G.ft x hx).1 (G.ft x hx).2.1 (G.ft x hx).2.2.1 e,G.ru,(G.ft _ (mem (by simp))).2.2.1.symm,fun x hx=> ?_⟩
  have h1:=G.bt.some x hx
  cases e:H x with
  |none=>exact absurd e h1
  |some o=>exact w1 e (G.ft x hx).1 (G.ft x hx).2.1
theorem bd_B{CS CF CB CT CG:Addr}{z1 z2:Addr×Addr}(n12:z1.2≠z2.2){H0 H H1 H8:Hp}{s bd ch fi0 fd0 lk0:Addr}{cs cs1:List V}{B B1:BM}{lkey kl tl gl:Addr}{m n:Nat}{ks ths gs:List V}{kd td gd:List PyData}(G:S1 K CS CF CB CT z1 z2 H0 H s bd ch fi0 fd0 lk0 cs B lkey kl tl gl m n ks ths gs kd td gd)(u:∀x o,x≠s->x≠ch->x≠bd->H x=some o->H1 x=some o)(D:Md K CS CB CT z1 z2 H1 s bd ch cs1 [((.inr "t":aB),V.ref B.b),((.inr "u":aB),V.ref B1.b)] B1 [("t",B)] "u" n [] tl gl ths gs td gd)(nw:∀x∈B1.foot,H x=none){fi fd lk mc gr nl fa lm lg:Addr}(M:Mf P w K mg base CS CF CB CT CG z1 z2 H1 H8 s bd ch [((.inr "t":aB),V.ref B.b),((.inr "u":aB),V.ref B1.b)] B1 [] ths gs fi fd lk mc gr nl fa lm lg):∃X,nG P w K mg base CS CF CB CT CG z1 z2 X H8 s s kl tl gl "u" m n:=by
 have mem:∀{x},x∈ [B.b,B.g,B.r,B.e,B.ru,B.me,B.od] ->x∈B.foot:=fun h=>h
 have mem1:∀{x},x∈ [B1.b,B1.g,B1.r,B1.e,B1.ru,B1.me,B1.od] ->x∈B1.foot:=fun h=>h
 obtain⟨a1,a2,a3,a4,a5⟩:=D.os _ (List.mem_singleton.mpr rfl)
 have k0:∀{x:Addr} {o:HO},H0 x=some o->x≠s/\x≠ch/\x≠bd:=fun{x o} e=>by
  have k:∀y,H0 y=none->x≠y:=fun y h z=>by rw[<- z,e]at h;cases h
  exact⟨k _ G.nw.1,k _ G.nw.2.1,k _ G.nw.2.2⟩
 have n1:∀{x y:Addr} {o:HO},H y=some o->x∈B1.foot->y≠x:=fun e h z=>by rw[z,nw _ h]at e;cases e
 have w1:∀{x:Addr} {o:HO},H x=some o->x≠s->x≠ch->x∉Wm s ch B1:=fun{x o} e ns nc h=>by
  rcases pP.mp h with y|y|y|y|y|y
  ·exact ns y
  ·exact nc y
  ·exact n1 e (mem1 (by simp)) y
  ·exact n1 e (mem1 (by simp)) y
  ·exact n1 e (mem1 (by simp)) y
  ·exact n1 e (mem1 (by simp)) y
 have nz:∀{x:Addr} {o:HO},H x=some o->(∀φ,o≠ .ext φ)->x≠z1.2:=fun e n y=>by rw[y,G.old _ _ G.t1]at e;exact n _ (Option.some.inj e).symm
 have old:∀{x:Addr} {o:HO},H0 x=some o->(∀φ,o≠ .ext φ)->H8 x=some o:=fun{x o} e n=>M.old _ _ (w1 (G.old _ _ e) (k0 e).1 (k0 e).2.1) (nz (G.old _ _ e) n) (u _ _ (k0 e).1 (k0 e).2.1 (k0 e).2.2 (G.old _ _ e))
 have kt:bF H0 H8:=fun x xs e=>old e (fun _ y=>by cases y)
 have ml:∀{x:Addr} {o:HO},H1 x=some o->mc≠x:=fun e y=>by rw[<- y,M.nf.2.2.1]at e;cases e
 have lkn:lkey≠s/\lkey≠bd:=by
  obtain⟨dx,hs⟩:=G.sh
  exact⟨(fun y=>by{have e:=G.key.1;rw[y,hs]at e;cases e}),(fun y=>by{have e:=G.key.1;rw[y,G.hbd]at e;cases e})⟩
 have hkey:H8 lkey=some (.lst ks):=M.old _ _ (w1 G.key.1 lkn.1 G.key.2.1) (nz G.key.1 (fun _ y=>by cases y)) (u _ _ lkn.1 G.key.2.1 lkn.2 G.key.1)
 have hb8:bS CB CT H8 B:=a2.mvF fun x hx o e=>by
  have hx1:=G.bt.some x hx
  cases e2:H x with
  |none=>exact absurd e2 hx1
  |some o2=>
   refine M.old _ _ (a5 x hx) (fun y=> ?_) e
   rw[y,D.t1]at e
   have h3:=e2
   rw[y,G.old _ _ G.t1]at h3
   have hz:=(G.ft x hx).2.2.2
   rw[y,G.t1]at hz
   cases hz
 have lx:B.xs.length=m:=by rw[G.xs,iG]
 have lx1:B1.xs.length=n:=by rw[D.xs,iG]
 have m6:=G.m6
 have n6:=G.n6
 refine a13 (tabs:=[("u",dY B1 [] lm lg gr mc),("t",B)]) (bm:=fun t=>if t= "u" then dY B1 [] lm lg gr mc else B) (lkey:=lkey) (ks:=ks) (kd:=kd) (td:=td) (gd:=gd) M n12 List.mem_cons_self ⟨fun tb h=> ?_,fun tb h c hc=> ?_,fun _=>⟨B,List.mem_cons_of_mem _ (List.mem_singleton.mpr rfl),?_,lx,?_⟩⟩ (ml D.sh.2.2) D.xs G.n6 G.m6 (G.htl.2.2.keep kt) (G.hgl.2.2.keep kt) G.htl.2.1 G.hgl.2.1 ⟨hkey,G.hkl.2.1,G.hkl.2.2.keep kt,G.key.2.1⟩ (.inr ⟨?_,?_,rfl⟩) (old G.hkl.1 (fun _ y=>by cases y)) (old G.htl.1 (fun _ y=>by cases y)) (old G.hgl.1 (fun _ y=>by cases y)) G.bw
 ·simp only[List.mem_cons,List.not_mem_nil,or_false]at h
  rcases h with rfl|rfl
  ·exact⟨(if_pos rfl).symm,jG.2,rfl,M.bt,by show B1.xs.length<=6;omega,(show 3<=4 by decide),⟨ml D.bt.tab.kept,ml D.bt.rul,ml D.bt.mem⟩,D.ss.r,D.ss.o⟩
  ·exact⟨(if_neg (show¬("t":Str)= "u" by decide+kernel)).symm,jG.1,rfl,hb8,by show B.xs.length<=6;omega,by show B.ord.length<=4;rw[G.od];decide,⟨ml a2.tab.kept,ml a2.rul,ml a2.mem⟩,(G.ft _ (mem (by simp))).2.1.symm,(G.ft _ (mem (by simp))).2.1.symm⟩
 ·simp only[List.mem_cons,List.not_mem_nil,or_false]at h
  rcases h with rfl|rfl
  ·exact .inl ⟨rfl,hc⟩
  ·have hc:c∈gE:=by rw[<- G.od];exact hc
   exact .inr ⟨rfl,rfl,List.mem_singleton.mp hc⟩
 ·rw[G.kv];exact eR rfl
 ·rw[G.ru];rfl
 ·show(if("t":Str)= "u" then dY B1 [] lm lg gr mc else B).ord=gE
  rw[if_neg (by decide+kernel)];exact G.od
 ·show(if("u":Str)= "u" then dY B1 [] lm lg gr mc else B).ord=fZ
  rw[if_pos rfl];rfl
theorem md_C{CS CF CB CT:Addr}{z1 z2:Addr×Addr}{H0 H H1:Hp}{s bd ch fi fd lk s1 bd1 ch1:Addr}{cs cs1:List V}{B B1:BM}{lkey kl tl gl:Addr}{m n:Nat}{ks ths gs:List V}{kd td gd:List PyData}(G:S1 K CS CF CB CT z1 z2 H0 H s bd ch fi fd lk cs B lkey kl tl gl m n ks ths gs kd td gd)(u:aD H H1)(sh:oW CS s1 bd1 ch1 cs1 [((.inr "u":aB),V.ref B1.b)] H1)(cl:cs1.length<=10)(bt:bS CB CT H1 B1)(sp:B1.sep)(ss:sU bd1 ch1 B1)(nw:∀x∈Wm s1 ch1 B1,H x=none)(xs:B1.xs=dA 0 n)(ru:B1.rus= [])(me:B1.mes= [])(od:B1.ord= [])(kv:B1.kvs= []):Md K CS CB CT z1 z2 H1 s1 bd1 ch1 cs1 [((.inr "u":aB),V.ref B1.b)] B1 [] "u" n [] tl gl ths gs td gd:=by
 have u0:aD H0 H1:=G.old.trans u
 have w0:∀{x:Addr} {o:HO},H0 x=some o->x∉Wm s1 ch1 B1:=fun e h=>by have:=nw _ h;rw[G.old _ _ e]at this;cases this
 exact⟨sh,cl,jG.2,eR rfl,bt,sp,ss,xs,G.n6,ru,me,od,.inl rfl,by rw[kv];exact Nat.zero_le _,⟨u0 _ _ G.htl.1,G.htl.2.1,G.htl.2.2.keep (bF.of u0)⟩,⟨u0 _ _ G.hgl.1,G.hgl.2.1,G.hgl.2.2.keep (bF.of u0)⟩,⟨w0 G.htl.1,w0 G.hgl.1⟩,u0 _ _ G.t1,u0 _ _ G.t2,⟨by simp,(show 1<=4 by decide)⟩,fun kv hkv=> .inl (List.mem_singleton.mp hkv),fun tb h=>by cases h⟩
theorem bd_C{CS CF CB CT CG:Addr}{z1 z2:Addr×Addr}(n12:z1.2≠z2.2){H0 H H1 H8:Hp}{s bd ch fi0 fd0 lk0 s1 bd1 ch1:Addr}{cs cs1:List V}{B B1:BM}{lkey kl tl gl:Addr}{m n:Nat}{ks ths gs:List V}{kd td gd:List PyData}(G:S1 K CS CF CB CT z1 z2 H0 H s bd ch fi0 fd0 lk0 cs B lkey kl tl gl m n ks ths gs kd td gd)(u:aD H H1)(D:Md K CS CB CT z1 z2 H1 s1 bd1 ch1 cs1 [((.inr "u":aB),V.ref B1.b)] B1 [] "u" n [] tl gl ths gs td gd)(nw:∀x∈Wm s1 ch1 B1,H x=none)(ns:s≠s1){fi fd lk mc gr nl fa lm lg:Addr}(M:Mf P w K mg base CS CF CB CT CG z1 z2 H1 H8 s1 bd1 ch1 [((.inr "u":aB),V.ref B1.b)] B1 [] ths gs fi fd lk mc gr nl fa lm lg):∃X,nG P w K mg base CS CF CB CT CG z1 z2 X H8 s s1 kl tl gl "u" m n:=by
 have w0:∀{x:Addr} {o:HO},H x=some o->x∉Wm s1 ch1 B1:=fun e h=>by have:=nw _ h;rw[e]at this;cases this
 have nz:∀{x:Addr} {o:HO},H x=some o->(∀φ,o≠ .ext φ)->x≠z1.2:=fun e n y=>by rw[y,G.old _ _ G.t1]at e;exact n _ (Option.some.inj e).symm
 have old:∀{x:Addr} {o:HO},H x=some o->(∀φ,o≠ .ext φ)->H8 x=some o:=fun e n=>M.old _ _ (w0 e) (nz e n) (u _ _ e)
 have kt:bF H0 H8:=fun x xs e=>old (G.old _ _ e) (fun _ y=>by cases y)
 have ml:∀{x:Addr} {o:HO},H1 x=some o->mc≠x:=fun e y=>by rw[<- y,M.nf.2.2.1]at e;cases e
 have lx1:B1.xs.length=n:=by rw[D.xs,iG]
 have n6:=G.n6
 have hb8:bS CB CT H8 B:=by
  obtain⟨⟨d1,e1⟩,⟨⟨d2,e2⟩,e3,e4⟩,e5,e6,e7⟩:=G.bt
  exact⟨⟨d1,old e1 (fun _ y=>by cases y)⟩,⟨⟨d2,old e2 (fun _ y=>by cases y)⟩,old e3 (fun _ y=>by cases y),old e4 (fun _ y=>by cases y)⟩,old e5 (fun _ y=>by cases y),old e6 (fun _ y=>by cases y),old e7 (fun _ y=>by cases y)⟩
 obtain⟨dx,hs⟩:=G.sh
 have f0:=u _ _ G.hfd
 refine a3U (lkey:=lkey) (ks:=ks) (kd:=kd) (td:=td) (gd:=gd) (s0:=s) (bd0:=bd) (ch0:=ch) (fi0:=fi0) (fd0:=fd0) (lk0:=lk0) (kb0:=[((.inr "t":aB),V.ref B.b)]) (B0:=B) M n12 ⟨fun tb h=> ?_,fun tb h c hc=> ?_,fun h=>by cases h⟩ (ml D.sh.2.2) D.xs G.n6 G.m6 (G.htl.2.2.keep kt) (G.hgl.2.2.keep kt) G.htl.2.1 G.hgl.2.1 rfl ns ⟨⟨dx,old hs (fun _ y=>by cases y)⟩,old G.hbd (fun _ y=>by cases y),jG.1,eR rfl,hb8⟩ (G.hfi.imp fun _ e=>old e (fun _ y=>by cases y)) (old G.hfd (fun _ y=>by cases y)) ⟨fun y=> ?_,fun y=> ?_⟩ (by rw[G.xs,iG]) G.od G.ru ⟨ml (u _ _ G.hbd),ml (u _ _ G.bt.tab.kept),ml (u _ _ G.bt.rul),ml (u _ _ G.bt.mem)⟩ (by rw[G.kv];exact eR rfl) ⟨old G.key.1 (fun _ y=>by cases y),G.hkl.2.1,G.hkl.2.2.keep kt⟩ (old (G.old _ _ G.hkl.1) (fun _ y=>by cases y)) (old (G.old _ _ G.htl.1) (fun _ y=>by cases y)) (old (G.old _ _ G.hgl.1) (fun _ y=>by cases y)) G.bw
 ·obtain rfl:=List.mem_singleton.mp h
  exact⟨rfl,jG.2,eR rfl,M.bt,by show B1.xs.length<=6;omega,(show 3<=4 by decide),⟨ml D.bt.tab.kept,ml D.bt.rul,ml D.bt.mem⟩,D.ss.r,D.ss.o⟩
 ·obtain rfl:=List.mem_singleton.mp h
  exact .inl ⟨rfl,hc⟩
 ·rw[y,M.nf.1]at f0;cases f0
 ·rw[y,M.nf.2.1]at f0;cases f0
theorem a8o(T:aW K mg){CS CF CB CT CG CR CW CO CE CC CX CN:Addr}(Y:cU K mg CS)(R:lF K mg CR)(F:eW K mg CF)(Wb:bU K mg CB)(U:cI K mg CT)(Cc:lS K mg CG)(W:fM K mg CW)(O:lO K mg CO)(Z:gG K mg CE)(Cs:nY K mg CC)(Ru:qC K mg CX)(Tt:rL K mg CN){z1 z2:Addr×Addr}(M1:iO mg base z1.1 z1.2)(B2:jP K mg "Finder" "gathered" "Finder.gathered" gQ z2)(M2:iO mg base z2.1 z2.2)(n12:z1.2≠z2.2){f:Addr}(A:Around)(outer:List Env)(s:Shared)(H:Hp)(Q:VK)(E:XK)(hr:bT 17 (A.deeper (PyProof.Rows.envOfC "law" (aN jH) s.heap.objs.size f (.ref z1.1))))(q:∀H',mL [z1,z2] H'->Q (.bl true) H'):
 ∃t,eE (nQ P w K mg base f z1.1 A outer s H E) ((eG jH).drop 5) t/\
  ∀(H1:Hp) (a:Addr) (ns:List Int) (z:Int) (m n:Nat) (al:Bool),aO K H1 a (ns.map V.int)->m<=6->n<=6->(al=true->n=m)->H1 z1.2=some (eN z1.2 [])->H1 z2.2=some (eN z2.2 [])->
   t {nx:=fun _ H'=>Q .non H',rt:=Q} [some (.ref a),some (.int z),some (.int (m:Int)),some (.int (n:Int)),some (.bl al),none,none,none,none,none,none,none,none,none,none,none,none] H1:=by
 have G_vals:bI P w K mg base aC 2 "_law_values" ["_law_script","_law_at","_law_many"] (zZ K):=a5U T
 have GS:dJ P w K mg base aC 3 CS ["self"] (spSI CS CF):=a7R T Y F
 have G_table:aL P w K mg base aC 9 CS "table" ["self","name","many"] (a0m CS CF CB CT):=a86 T Y F Wb U Tt
 have G_give:aL P w K mg base aC 9 CS "give" ["self","table","column","values"] (yE K CS CF CB CT):=a22 T Y F Wb U Cs
 obtain⟨tE,hE,qE⟩:=a4M (P:=P) (w:=w) (z1:=z1) T Y R F Wb U Cc W O Z Cs Ru M1 B2 M2 n12 (f:=f) A outer s H Q E hr q
 refine⟨_,(aH (bR (i:=5) eY.nd rfl (.inl rfl) (bQ G_vals (hr.mono (by decide)) aM (aA (pv 0) (aA bJ (aA (pv 2) aE)))))
  (aH (bR (i:=6) eY.nd rfl (.inl rfl) (bQ G_vals (hr.mono (by decide)) aM (aA (pv 0) (aA bJ (aA (pv 3) aE)))))
  (aH (bR (i:=7) eY.nd rfl (.inl rfl) (bQ G_vals (hr.mono (by decide)) aM (aA (pv 0) (aA bJ (aA (pv 3) aE)))))
  (aH (bR (i:=8) eY.nd rfl (.inl rfl) (a0o GS (hr.mono (by decide)) Y.c aM))
  (aH (cC (bH (pv 8) Y.cl G_table (hr.mono (by decide)) aM (aA cF (aA (pv 2) aE))))
  (aH (cC (bH (pv 8) Y.cl G_give (hr.mono (by decide)) aM (aA cF (aA cF (aA (jR nB rfl T.list iA (aA (pv 5) aE)) aE)))))
  (aH (bR (i:=9) eY.nd rfl (.inl rfl) cF)
  (aH (bR (i:=10) eY.nd rfl (.inl rfl) (pv 8))
  (aH (bM (dI (cM (pv 4) (fun _=>rfl))) (aH (bR (i:=9) eY.nd rfl (.inl rfl) cF)
  (aH (bM (cE oN (bY jK (bY oU (pv 1) bJ) bJ) bJ (cH _)) (aI (bR (i:=10) eY.nd rfl (.inl rfl) (a0o GS (hr.mono (by decide)) Y.c aM))) bP)
  (aI (cC (bH (pv 10) Y.cl G_table (hr.mono (by decide)) aM (aA cF (aA (pv 3) aE))))))) bP)
  hE))))))))),?_⟩
 intro H1 a ns z m n al hS m6 n6 hal t1 t2
 refine⟨_,rfl,_,rfl,a,ns,0,m,rfl,hS,by decide,m6,fun H2 kl ks kd s2 hkl ekl lk pk bk=> ?_⟩
 refine⟨_,rfl,_,rfl,a,ns,11,n,rfl,s2.seq hS,by decide,n6,fun H3 tl ths td s3 htl etl lt pt bt=> ?_⟩
 refine⟨_,rfl,_,rfl,a,ns,23,n,rfl,(s2.trans s3).seq hS,by decide,n6,fun H4 gl gs gd s4 hgl egl lg pg bg=> ?_⟩
 have s34:=s3.trans s4
 have s14:=s2.trans s34
 intro s0 d0 hs0 hd0 ne0
 refine⟨s0,d0,rfl,aJ,fun H5 bd ch fi5 fd5 lk5 df5 fr nfl a1 a2 a3 a4 a5 a6 b0=>⟨rfl,?_⟩⟩
 have s5:aD H4 H5:=fun x o e=>b0 _ _ (aX e hs0) (by rw[aG (aX e hs0),aG (aX e hd0)];exact e)
 have f0:∀x∈ [bd,ch,fi5,fd5,lk5],H4 x=none:=fun x hx=>(iR (iR (fr x hx)).1).1
 refine⟨_,rfl,s0,d0,_,rfl,a1,dC,_,rfl,s0,bd,ch,[],[],"t",m,rfl,⟨⟨d0,fi5,a1⟩,a3,a2⟩,(show 0<900 by decide),(show 0<4 by decide),jG.1,rfl,by omega,fun H6 fi6 fd6 lk6 c6 b g r e ru me od Fr6 hB6 sep6 nw6 u6=> ?_⟩
 obtain⟨⟨dx6,f61⟩,f62,f63,f64,f65,f66,f67,f68,f69,f610⟩:=Fr6
 have f63:H6 bd=some (.dK [((.inr "t":aB),V.ref b)]):=f63
 have n56:∀{x y:Addr} {o:HO},H5 y=some o->x∈ [b,g,r,e,ru,me,od] ->y≠x:=fun ey h z'=>by rw[z',nw6 _ h]at ey;cases ey
 have s46:aD H4 H6:=fun x o ex=>u6 _ _ (aX ex hs0) (aX ex (f0 ch (by simp))) (aX ex (f0 bd (by simp))) (s5 _ _ ex)
 have ekl6:=s46 _ _ (s34 _ _ ekl)
 refine⟨_,rfl,s0,dx6,_,rfl,f61,dC,_,rfl,kl,ks,rfl,.inl (aO.of ekl6),fun cp hcp=> ?_⟩
 have s7:=aD.new (o:=.lst ks) hcp
 have e7:upd H6 cp (.lst ks) cp=some (.lst ks):=aJ
 generalize upd H6 cp (.lst ks)=H7 at s7 e7|-
 have nmk:Nl ("key":Str):=by unfold Nl;decide+kernel
 have pk6:=pk.keep (bF.of (s34.trans s46))
 refine⟨s0,bd,ch,cp,_,[((.inr "t":aB),V.ref b)],"t","key",ks,kd,⟨b,g,r,e,ru,me,od,dA 0 m,(m:Int),[],[],[],[]⟩,rfl,⟨⟨dx6,fi6,s7 _ _ f61⟩,s7 _ _ f62,s7 _ _ f63⟩,(show 1<900 by decide),jG.1,eR rfl,hB6.same s7,sep6,⟨n56 a3 (by simp),n56 a3 (by simp),n56 a2 (by simp),n56 a2 (by simp),n56 a2 (by simp)⟩,⟨rfl,fun h=>by cases h⟩,nmk,e7,(aX hB6.ord hcp).symm,pk6.keep (bF.of s7),by rw[lk];show m=(dA 0 m).length;rw[iG],by omega,(show 0<8 by decide),(show 0<8 by decide),fun H8 fi fd lk8 cc8 lkey Fr8 hlk0 hB8 hlk u8=> ?_⟩
 obtain⟨⟨dx8,f81⟩,f82,f83,f84,f85,f86,f87,f88,f89,f810⟩:=Fr8
 have hlk6:H6 lkey=none:=dW s7 hlk0
 have G:S1 K CS CF CB CT z1 z2 H4 H8 s0 bd ch fi fd lk8 ([] ++ [.ref c6] ++ [.ref cc8]) ⟨b,g,r,e,ru,me,od,dA 0 m,(m:Int),[((.inr "key":aB),V.ref lkey)],[],[],gE⟩ lkey kl tl gl m n ks ths gs kd td gd:=by
  have nw4:∀x∈ [b,g,r,e,ru,me,od],H4 x=none:=fun x hx=>dW s5 (nw6 x hx)
  refine⟨fun x o ex=>u8 _ _ (aX ex hs0) (aX ex (f0 ch (by simp))) (aX ex (nw4 _ (by simp))) (aX ex (nw4 _ (by simp))) (s7 _ _ (s46 _ _ ex)),⟨dx8,f81⟩,f82,f83,f84,f85,(show 2<=4 by decide),hB8,⟨sep6.ro,sep6.eu,sep6.em,sep6.um⟩,fun x hx=>⟨(n56 a1 hx).symm,(n56 a3 hx).symm,(n56 a2 hx).symm,nw4 x hx⟩,⟨hs0,f0 _ (by simp),f0 _ (by simp)⟩,rfl,rfl,rfl,rfl,rfl,⟨hlk,(aX f62 hlk6).symm,(aX hB6.ord hlk6).symm⟩,⟨s34 _ _ ekl,lk,pk.keep (bF.of s34)⟩,⟨s4 _ _ etl,lt,pt.keep (bF.of s4)⟩,⟨egl,lg,pg⟩,bg,m6,n6,s14 _ _ t1,s14 _ _ t2⟩
 generalize hBg:(⟨b,g,r,e,ru,me,od,dA 0 m,(m:Int),[((.inr "key":aB),V.ref lkey)],[],[],gE⟩:BM)=B at G
 generalize hcs:([] ++ [V.ref c6] ++ [V.ref cc8]:List V)=cs at G
 obtain⟨dS,sS⟩:=G.sh
 refine⟨_,rfl,_,rfl,_,rfl,?_⟩
 cases al with
 |true=>
  refine bK ?_
  have en:n=m:=hal rfl
  subst en
  exact qE H8 s0 s0 bd ch kl tl gl cs _ B [] "t" n n gE ths gs td gd _ _ _ _ (md_A G) fun H9 fi fd lk mc gr nl fa lm lg M=>bd_A n12 G M
 |false=>
  refine cD ?_
  have cl:=G.cl
  refine⟨_,rfl,_,_,rfl,rfl,⟨by decide,by decide⟩,_,_,rfl,rfl,(show(0:Int)<3 by decide),rfl,_,rfl,?_⟩
  refine dL (fun _=> ?_) (fun _=> ?_)
  ·
   intro s1 d1 hs1 hd1 ne1
   refine⟨s1,d1,rfl,aJ,fun H9 bd1 ch1 fi9 fd9 lk9 df9 fr9 nfl9 p1 p2 p3 p4 p5 p6 b9=>⟨rfl,?_⟩⟩
   have s9:aD H8 H9:=fun x o ex=>b9 _ _ (aX ex hs1) (by rw[aG (aX ex hs1),aG (aX ex hd1)];exact ex)
   have f9:∀x∈ [bd1,ch1,fi9,fd9,lk9],H8 x=none:=fun x hx=>(iR (iR (fr9 x hx)).1).1
   refine⟨_,rfl,s1,d1,_,rfl,p1,dC,_,rfl,s1,bd1,ch1,[],[],"u",n,rfl,⟨⟨d1,fi9,p1⟩,p3,p2⟩,(show 0<900 by decide),(show 0<4 by decide),jG.2,rfl,by omega,fun Ha fia fda lka ca b1 g1 r1 e1 ru1 me1 od1 Fra hBa sepa nwa ua=> ?_⟩
   obtain⟨⟨dxa,fa1⟩,fa2,fa3,_⟩:=Fra
   have na:∀{x y:Addr} {o:HO},H9 y=some o->x∈ [b1,g1,r1,e1,ru1,me1,od1] ->y≠x:=fun ey h z'=>by rw[z',nwa _ h]at ey;cases ey
   have s8a:aD H8 Ha:=fun x o ex=>ua _ _ (aX ex hs1) (aX ex (f9 ch1 (by simp))) (aX ex (f9 bd1 (by simp))) (s9 _ _ ex)
   have nw:∀x∈Wm s1 ch1 ⟨b1,g1,r1,e1,ru1,me1,od1,dA 0 n,(n:Int),[],[],[],[]⟩,H8 x=none:=fun x hx=>by
    rcases pP.mp hx with y|y|y|y|y|y
    ·rw[y];exact hs1
    ·rw[y];exact f9 _ (by simp)
    ·rw[y];exact dW s9 (nwa _ (by simp))
    ·rw[y];exact dW s9 (nwa _ (by simp))
    ·rw[y];exact dW s9 (nwa _ (by simp))
    ·rw[y];exact dW s9 (nwa _ (by simp))
   have D:=md_C (B1:=⟨b1,g1,r1,e1,ru1,me1,od1,dA 0 n,(n:Int),[],[],[],[]⟩) G s8a ⟨⟨dxa,fia,fa1⟩,fa2,fa3⟩ (show 1<=10 by decide) hBa sepa ⟨na p3 (by simp),na p3 (by simp),na p2 (by simp),na p2 (by simp),na p2 (by simp)⟩ nw rfl rfl rfl rfl rfl
   exact qE Ha s0 s1 bd1 ch1 kl tl gl _ _ _ [] "u" m n [] ths gs td gd _ _ _ _ D fun Hb fi fd lk mc gr nl fa lm lg M=>bd_C n12 G s8a D nw (fun y=>by rw[<- y,sS]at hs1;cases hs1) M
  ·
   refine⟨_,rfl,s0,dS,_,rfl,sS,dC,_,rfl,s0,bd,ch,cs,[((.inr "t":aB),V.ref B.b)],"u",n,rfl,⟨⟨dS,fi,sS⟩,G.hch,G.hbd⟩,by omega,(show 1<4 by decide),jG.2,rfl,by omega,fun Ha fia fda lka ca b1 g1 r1 e1 ru1 me1 od1 Fra hBa sepa nwa ua=> ?_⟩
   obtain⟨⟨dxa,fa1⟩,fa2,fa3,_⟩:=Fra
   have D:=md_B (B1:=⟨b1,g1,r1,e1,ru1,me1,od1,dA 0 n,(n:Int),[],[],[],[]⟩) G ua ⟨⟨dxa,fia,fa1⟩,fa2,fa3⟩ (by rw[List.length_append];show cs.length+ 1<=10;omega) hBa sepa nwa rfl rfl rfl rfl rfl
   exact qE Ha s0 s0 bd ch kl tl gl _ _ _ [("t",B)] "u" m n [] ths gs td gd _ _ _ _ D fun Hb fi fd lk mc gr nl fa lm lg M=>bd_B n12 G ua D nwa M
def a0g(K:Fg)(tabs:List (Addr×Addr)):Sp:=fun vs H Q _=>∃(a:Addr) (ns:List Int),vs= [.ref a] /\aO K H a (ns.map V.int)/\ns.length<=63/\rA tabs H/\∀H',mL tabs H'->Q (.bl true) H'
theorem a57(T:aW K mg){z1 z2:Addr×Addr}(B1:yT K mg "law" jH z1)(M1:iO mg base z1.1 z1.2)(B2:jP K mg "Finder" "gathered" "Finder.gathered" gQ z2)(M2:iO mg base z2.1 z2.2)(n12:z1.2≠z2.2){f:Addr}{fd:FuncData}(F:iZ K "law" "law" jH f fd)(hcd:fd.code= .ref z1.1):eX P w K mg base aC 18 f fd ["_law_script"] (a0g K [z1,z2]):=by
 obtain⟨CS,Y⟩:=T.t_Sheet
 obtain⟨CF,Fi⟩:=T.t_Finder
 obtain⟨CB,Wb⟩:=T.t_Board
 obtain⟨CT,U⟩:=T.t_Table
 obtain⟨CG,Cc⟩:=T.t_Cells
 obtain⟨CE,Ru⟩:=T.t_Rule
 obtain⟨CR,R⟩:=T.t_Trial
 obtain⟨CU,Cs⟩:=T.t_ColumnSet
 obtain⟨CN,TT⟩:=T.t_TableTold
 obtain⟨CWh,WW⟩:=T.t_Whole
 obtain⟨CBe,WB⟩:=T.t_Beside
 obtain⟨CSp,WO⟩:=T.t_Spot
 have G_cell:bI P w K mg base aC 1 "_law_cell_at" ["_law_script","_law_k"] (yO K):=a27 T
 refine F.okT hcd eY (fun vs H Q E h=> ?_) (fun A outer s H vs Q E hr h=> ?_)
 ·obtain⟨a,ns,rfl,_⟩:=h
  rfl
 ·obtain⟨a,ns,rfl,hS,hl,hT,q⟩:=h
  obtain⟨tE,hE,qE⟩:=a8o (P:=P) (w:=w) (z1:=z1) T Y R Fi Wb U Cc WW WO WB Cs Ru TT M1 B2 M2 n12 (f:=f) A outer s H Q E hr q
  refine⟨_,(aH (bR (i:=1) eY.nd rfl (.inl rfl) (bQ G_cell (hr.mono (by decide)) aM (aA (pv 0) (aA bJ aE))))
   (aH (bR (i:=2) eY.nd rfl (.inl rfl) (bY jK (pv 1) bJ))
   (aH (bR (i:=3) eY.nd rfl (.inl rfl) (bY jK (bY oU (pv 1) bJ) bJ))
   (aH (bR (i:=4) eY.nd rfl (.inl rfl) (nE oN (bY jK (bY oU (pv 1) bJ) bJ) bJ (cH _)))
   (aH (bM (cM (pv 4) (fun _=>rfl)) (aI (bR (i:=3) eY.nd rfl (.inl rfl) (pv 2))) bP)
   hE))))),?_⟩
  have t1:H z1.2=some (eN z1.2 []):=hT _ (by simp)
  have t2:H z2.2=some (eN z2.2 []):=hT _ (by simp)
  refine⟨_,rfl,a,ns,0,rfl,hS,fun z=> ?_⟩
  obtain⟨m,em⟩:∃m:Nat,z% 7=(m:Int):=⟨(z% 7).toNat,by omega⟩
  obtain⟨n,en⟩:∃n:Nat,z/ 7% 7=(n:Int):=⟨(z/ 7% 7).toNat,by omega⟩
  refine⟨_,rfl,_,_,rfl,rfl,(show(0:Int)<7 by decide),?_⟩
  show iT 2 (V.int (z% 7)) _ _ _
  rw[em]
  refine⟨_,rfl,_,_,rfl,rfl,⟨by decide,by decide⟩,_,_,rfl,rfl,(show(0:Int)<7 by decide),?_⟩
  show iT 3 (V.int (z/ 7% 7)) _ _ _
  rw[en]
  refine⟨_,rfl,_,_,rfl,rfl,⟨by decide,by decide⟩,_,_,rfl,rfl,(show(0:Int)<4 by decide),rfl,?_⟩
  show iT 4 (V.bl (decide (V.int (z/ 49% 4)=V.int 1))) _ _ _
  generalize decide (V.int (z/ 49% 4)=V.int 1)=al
  refine⟨_,rfl,_,rfl,?_⟩
  cases al with
  |true=>
   refine cD ⟨_,rfl,?_⟩
   exact qE H a ns z m m true hS (by omega) (by omega) (fun _=>rfl) t1 t2
  |false=>
   refine bK ?_
   exact qE H a ns z m n false hS (by omega) (by omega) (fun h=>by cases h) t1 t2
end
theorem walk{l:PySem.W.OpenLaw}{q:Program}{loose:List Str}{XP:(Str->Option Value)->Heap->Prop}{YP:World->Heap->Prop}{d:DefRec}{K:Params->Fg}(hn:l.most=some 63)(hdf:d.params.defaults= [])(hdn:d.name= "law")
 (hY:∀(w:World) (h:Heap),YP w h->(K w.params).In h)
 (recs:((PyProof.Rows.recsOf q).find? (fun e=>e.name==("law":Str))).isSome=true)
 (F:∀(w:World) (mg:Str->Option Value) (h:Heap),YP w h->(K w.params).In h->h.Ns mainGlobals mg->aW (K w.params) mg/\True/\Tbs h (K w.params) mg):
 PySem.W.WalkO q loose XP YP l.row.toRowW d [] (fun f vs=>PySem.call f vs):=
 L2.a5D (n:=63) (k:=18) (x:= "_law_script") (CX:=fun _=>aC) (sp:=fun w tabs=>a0g (K w.params) tabs) hn (by decide) hdf ⟨rfl,by decide,by decide⟩ hY
  (fun w mg fa h Yy KX G hmg=>by
   obtain⟨T,TD,TB⟩:=F w mg h Yy KX G
   obtain⟨z_law,z_Finder_gathered,B_law,B_Finder_gathered,ne_law_Finder_gathered,te_Finder_gathered⟩:=TB.bs
   obtain⟨f,fd,F4,hm,hcd⟩:=B_law.ex
   rw[hdn]at hmg
   have e:=hmg.symm.trans hm
   cases e
   have r_law:=recs
   refine⟨T.notabs,[z_law,z_Finder_gathered],fun z hz=> ?_,fd,fun s u=> ?_,fun base kb nb mk=> ?_⟩
   ·simp only[List.mem_cons,List.not_mem_nil,or_false]at hz
    rcases hz with rfl|rfl
    ·exact .inl ⟨⟨_,r_law,B_law.tab⟩⟩
    ·exact .inr ⟨B_Finder_gathered.hd,te_Finder_gathered⟩
   ·obtain⟨oc,od,kV,doc,pm,an,cdv,ct,osl,rfl,_⟩:=F4.ex
    exact .of_eq rfl
   ·exact a57 T B_law (mk _ (by simp)) B_Finder_gathered (mk _ (by simp)) ne_law_Finder_gathered F4 hcd)
  (fun _ _ _ a ns hl hT hS=>⟨a,ns,rfl,hS,hl,hT,fun _ hT'=>⟨rfl,hT'⟩⟩) fun _ _ _ _ _ z=>z
end My
namespace PySem.W.Fast
abbrev Z:=Nat
def tw535420812634110255:=Z
def tw12908635201431281283:=Z
def tw5228008404578617581:=Z
def tw17230952138639398179:=Z
def tw10473095812187266690:=Z
def tw15212672422830917416:=Z
def tw13448629206925753880:=Z
def tw710940281750888165:=Z
def tw7221994553092672082:=Z
def tw13202222869274079625:=Z
def tw5802925175351127683:=Z
def tw4066797244148196243:=Z
def tw2692594478562756830:=Z
def tw739847793342685284:=Z
def tw2261700887764567580:=Z
def tw2503306838926352952:=Z
def tw9042871048774572504:=Z
def tw10982619297522728820:=Z
def tw17275148782029739833:=Z
def tw8323950459678793126:=Z
def tw6694087428959593729:=Z
def tw5959296490817921209:=Z
def tw16558867463551836082:=Z
def tw15540104135291442620:=Z
def tw5517840965049504461:=Z
def tw13575952469463291831:=Z
def tw9345461370123568247:=Z
def tw988823198499562172:=Z
def tw13376249550823489582:=Z
def tw5529195471494845179:=Z
def tw5336356237169273396:=Z
def tw6290061058588402306:=Z
def tw15038391161856696043:=Z
def tw5122048629391073141:=Z
def tw7004668768624779637:=Z
def tw3713654783553878829:=Z
def tw13361189302257890575:=Z
def tw4705840797961094224:=Z
def tw12771032122785282411:=Z
def tw6347782581336364526:=Z
def tw17304268945036607244:=Z
def tw11111695568231686927:=Z
def tw13672927609040350002:=Z
def tw10435871204922646443:=Z
def tw15181578060238942574:=Z
def tw17768979724988529553:=Z
def tw9857343298050284878:=Z
def tw5125823798773116337:=Z
def tw4769724211582404549:=Z
def tw201699694148739804:=Z
def tw14717396527411386595:=Z
def tw11472906896427415188:=Z
def tw6223723960666753223:=Z
def tw17295803907479299671:=Z
def tw14696888343963994685:=Z
def tw11253712235635724593:=Z
def tw6001365490311136420:=Z
def tw5420937767013558045:=Z
def tw8501135160918114405:=Z
def tw5683623850353134751:=Z
def tw16514183891440841749:=Z
def tw14560914017867750947:=Z
def tw17660879606971680162:=Z
def tw14932927608067531352:=Z
def tw16700945912098901023:=Z
def tw232775624363337211:=Z
def tw5581003848441688622:=Z
def tw11154472399496407381:=Z
def tw15247937084066574460:=Z
def tw9560629314001942658:=Z
def tw4320591534263510357:=Z
def tw9049569207867551793:=Z
def tw5569792893591274416:=Z
def tw15942287131610774461:=Z
def tw7945483996394177477:=Z
def tw11159500882221063386:=Z
def tw16932075984689634251:=Z
def tw7010017374634346832:=Z
def tw2348763772909226557:=Z
def tw6450333506366040575:=Z
def tw8627417312322942845:=Z
def tw15333845319713498692:=Z
def tw167578535992278764:=Z
def tw14039744050683360799:=Z
def tw9921309565918624515:=Z
def tw3756543607511324296:=Z
def tw12537887954693397352:=Z
def tw7999751244344378762:=Z
def tw7114249611242042839:=Z
def tw5197134093431524130:=Z
def tw14039970810604083848:=Z
def tw4001846482491523480:=Z
def tw906188951875544162:=Z
def tw2670392391381614041:=Z
def tw13302104104873630166:=Z
def tw16664337878555290460:=Z
def tw14425967547010020604:=Z
def tw2128694916934152280:=Z
def tw15445177229297994532:=Z
def tw415331591755702203:=Z
def tw2843668074989717998:=Z
def tw14252676363299092820:=Z
def tw5851326113789009670:=Z
def tw18022687382018768219:=Z
def tw12295623888157059298:=Z
def tw5745924867710836293:=Z
def tw16626179957920900345:=Z
def tw4162975340458943517:=Z
def tw1177412481263341905:=Z
def tw13839796376832779004:=Z
def tw17950565641826819636:=Z
def tw16934927942838614925:=Z
def tw17637231617772691444:=Z
def tw8148177530388658100:=Z
def tw5596757180810478311:=Z
def tw3028200800379276535:=Z
def tw4482444884787736130:=Z
def tw15745528989380625933:=Z
def tw16791780872312960856:=Z
def tw13172016008193002074:=Z
def tw5142063208067764137:=Z
def tw1981309313504820038:=Z
def tw10156878272917070897:=Z
def tw11259309150959630132:=Z
def tw16348428117579511735:=Z
def tw17198935747418427372:=Z
def tw16957050026104097858:=Z
def tw641438666790584924:=Z
def tw17169272245506139935:=Z
def tw13033878067701896755:=Z
def tw11493792332656721459:=Z
def tw17990355553319795124:=Z
def tw4883723071980644591:=Z
def tw10129386645276031846:=Z
def tw9409872080781190620:=Z
def tw4227587722653887710:=Z
def tw12464117500662326978:=Z
def tw16367643854541896990:=Z
def tw10709139901884967322:=Z
def tw3347448994129472148:=Z
def tw309658765005848055:=Z
def tw9797398672949001973:=Z
def tw15615300687151981369:=Z
def tw5840879758595175165:=Z
def tw1504441790310322769:=Z
def tw11660716192964774147:=Z
def tw17527217321858230845:=Z
def tw16493338247937410915:=Z
def tw15216341971197613653:=Z
def tw1010995650330021171:=Z
def tw13749893768597220726:=Z
def tw3483706691202396782:=Z
def tw5720980641986366388:=Z
def tw14577683878738982186:=Z
def tw13370423140647832874:=Z
def tw5277266971039096213:=Z
def tw5058653869097338722:=Z
def tw4625634014638696336:=Z
def tw16213057168886536239:=Z
def tw17775723929711042181:=Z
def tw5449596320801810322:=Z
def tw7258803835706232830:=Z
def tw3021564471463795501:=Z
def tw15664412640724090636:=Z
def tw12274983464030719809:=Z
def tw15731613554785303277:=Z
def tw14537524162149384305:=Z
def tw17088399738346886403:=Z
def tw62846381931427536:=Z
def tw14032125171431366283:=Z
def tw14229844951169614688:=Z
def tw5678883797127532804:=Z
def tw5898393103606253667:=Z
def tw12321966368118934729:=Z
def tw14177541097557749211:=Z
def tw4839503042844064265:=Z
def tw15888368680519553535:=Z
def tw13472579228538892766:=Z
def tw12606682434429308218:=Z
def tw10668915030137306486:=Z
def tw516160741022590068:=Z
def tw7344403445005196562:=Z
def tw523352932307669299:=Z
def tw540283218866852040:=Z
def tw4461817760130604063:=Z
def tw9213293855160189456:=Z
def tw2693716161693954701:=Z
def tw6611928146359883954:=Z
def tw14619492293458574856:=Z
def tw8946865731113515340:=Z
def tw6231162457584681778:=Z
def tw11958947049471244260:=Z
def tw13748523223645367384:=Z
def tw8603241087149253598:=Z
def tw14862168871693064921:=Z
def tw13084518359560773829:=Z
def tw7048464724317971845:=Z
def tw7884672350598306139:=Z
def tw10180857736730097144:=Z
def tw16419609364391523441:=Z
def tw1182531506734371536:=Z
def tw8419987330673969040:=Z
def tw1851455747854206383:=Z
def tw7635055539573415342:=Z
def tw8136207370816622994:=Z
def tw3262216636626869479:=Z
def tw9906280719363612549:=Z
def tw18304197674670034737:=Z
def tw304394736981271254:=Z
def tw10974271983828913577:=Z
def tw9366028618941173354:=Z
def tw3497682800071304550:=Z
def tw4348030601547136673:=Z
def tw1669201391461988602:=Z
def tw17838785774392126114:=Z
def tw13354906730100671712:=Z
def tw10919080096447790859:=Z
def tw3289991703943225708:=Z
def tw2806506143254164070:=Z
def tw15095450959897773483:=Z
def tw4603155568151273343:=Z
def tw17333793984803702352:=Z
def tw2744922060399334060:=Z
def tw18137881032671748690:=Z
def tw2526564952388560625:=Z
def tw18161247880777897843:=Z
def tw6087409741532559241:=Z
def tw17645424864578086173:=Z
def tw2152402754644824029:=Z
def tw16732488271496614259:=Z
def tw13348338188858395062:=Z
def tw12111043885178488751:=Z
def tw16566657804902765745:=Z
def tw9021103498776202284:=Z
def tw8392350871933242580:=Z
def tw5040269738025508786:=Z
def tw12447571792021765644:=Z
def tw4343452691173437219:=Z
def tw17597120148324271700:=Z
def tw17221777419252820188:=Z
def tw588875393045954001:=Z
def tw9870568729829736422:=Z
def tw14021103344152165784:=Z
def tw9843620509030844418:=Z
def tw2163923223414846599:=Z
def tw11139950912668456455:=Z
def tw17233399126821451727:=Z
def tw13093917525051549244:=Z
def tw11524180374827234478:=Z
def tw3436589118987444520:=Z
def tw1773972492663275039:=Z
def tw6003382603001427600:=Z
def tw11203268612539804277:=Z
def tw4950666775922905815:=Z
def tw15925790869332021610:=Z
def tw15899932159810505522:=Z
def tw2225082152959526878:=Z
def tw10108382865263404197:=Z
def tw4219653633832276595:=Z
def tw218704053811493266:=Z
def tw9546880380141641346:=Z
def tw7792903053690877817:=Z
def tw391713877659726511:=Z
def tw10522747623658503748:=Z
def tw7652522731028369372:=Z
def tw8446577231383109099:=Z
def tw2250630553772300428:=Z
def tw15054795657277964542:=Z
def tw938843810283783784:=Z
def tw8557095978570910117:=Z
def tw15296029267299329578:=Z
def tw2950791467450762097:=Z
def tw3096430015061625825:=Z
def tw14826284629394169663:=Z
def tw12369190076376190771:=Z
def tw6358448711230434881:=Z
def tw13780331790522959015:=Z
def tw12701536456518048235:=Z
def tw16763335533970411390:=Z
def tw2136697342206091751:=Z
def tw11998632750183051377:=Z
def tw7895382593506271526:=Z
def tw12737639402841079367:=Z
def tw14466694229750921520:=Z
def tw3511773597571384133:=Z
def tw5231347735726748069:=Z
def tw12972472025324413041:=Z
def tw7285017414273018731:=Z
def tw10575328836358302270:=Z
def tw12133720933386267077:=Z
def tw8941025760002530726:=Z
def tw13418828952516694247:=Z
def tw10692252865832020709:=Z
def tw2868525502718059608:=Z
def tw5435689542948282336:=Z
def tw117875948428553896:=Z
def tw4150255187765381876:=Z
def tw14247512239783032220:=Z
def tw12270985310561801038:=Z
def tw1710097973733557199:=Z
def tw14256091309773844529:=Z
def tw3618508001740566598:=Z
def tw12582970463580982116:=Z
def tw1911438257970295340:=Z
def tw14034787257532269661:=Z
def tw6053887422634130412:=Z
def tw14343338647449560363:=Z
def tw8748923135141128599:=Z
def tw12423651426455763139:=Z
def tw10794501826621992141:=Z
def tw4614715000910601515:=Z
def tw15807861552112191529:=Z
def tw12489874142975497250:=Z
def tw17569064861345971036:=Z
def tw5578968757258730044:=Z
def tw10097544381066831606:=Z
def tw1566991594195789504:=Z
def tw18083137363737539644:=Z
def tw11014689676318188232:=Z
def tw6414239127972613441:=Z
def tw7633671801877878639:=Z
def tw6838111163123322643:=Z
def tw11882878154853038156:=Z
def tw2406081757332453028:=Z
def tw11480068066233537659:=Z
def tw1262546957749619570:=Z
def tw1031461933950091618:=Z
def tw7844832123046282603:=Z
def tw15920246789048215244:=Z
def tw17524197927886075761:=Z
def tw6717961169833442684:=Z
def tw10015310908595318533:=Z
def tw12517112247537104317:=Z
def tw10441833941505558477:=Z
def tw700777635506930463:=Z
def tw5608581191153953865:=Z
def tw2682216611070505857:=Z
def tw5394324502048971545:=Z
def tw15320444567276786802:=Z
def tw10577098431938137878:=Z
def tw4092140592220956739:=Z
def tw13968080935815024445:=Z
def tw16437353714320071987:=Z
def tw4290023081306352220:=Z
def tw8253541247972757591:=Z
def tw1804219458124092568:=Z
def tw3736808927091051051:=Z
def tw10844199509717906899:=Z
def tw3858322399666338690:=Z
def tw9396008115309855537:=Z
def tw11465750003790934364:=Z
def tw9073432361656571699:=Z
def tw13880236120622008503:=Z
def tw14608028353412226267:=Z
def tw429673340654681845:=Z
def tw11241561108628917281:=Z
def tw1138253726130167366:=Z
def tw16696507744739241291:=Z
def tw3554277949867415774:=Z
def tw14778282972344898858:=Z
def tw7996417177375408967:=Z
def tw18361250401845191150:=Z
def tw6040301821439442030:=Z
def tw14155275744082350294:=Z
def tw12777503337840911261:=Z
def tw1458178789146321681:=Z
def tw17968163244018639050:=Z
def tw16905199830668483217:=Z
def tw4560215623487675458:=Z
def tw12065402305031033226:=Z
def tw10987511936195756764:=Z
def tw11441645476148626799:=Z
def tw5219947745261435700:=Z
def tw4836425226614434630:=Z
def tw17256848484061303580:=Z
def tw14016625326762889489:=Z
def tw6506927137148238628:=Z
def tw17083620787992372165:=Z
def tw13189793966128922010:=Z
def tw3166988066226487375:=Z
def tw1587105468585054141:=Z
def tw15734004768115183536:=Z
def tw13120544961112338677:=Z
def tw11469575519702194126:=Z
def tw11040071980011483408:=Z
def tw9246306099943780034:=Z
def tw17033966907060940456:=Z
def tw5609706900968091021:=Z
def tw3055065450128614736:=Z
def tw7611043670023041391:=Z
def tw14222250954885168801:=Z
def tw1849525053054582620:=Z
def tw12158597960572483636:=Z
def tw1446072792173273307:=Z
def tw7553548528344441979:=Z
def tw16923854428543212836:=Z
def tw9736486674681433261:=Z
def tw15303775301991603804:=Z
def tw14479822701552662426:=Z
def tw8591029612457466450:=Z
def tw11757448823176472914:=Z
def tw15540443779982351823:=Z
def tw16082469435780852070:=Z
def tw13281132368374185544:=Z
def tw17554850503200760479:=Z
def tw5300902111908380507:=Z
def tw10932424255069273366:=Z
def tw3000583137509707511:=Z
def tw6982289893184997884:=Z
def tw10116708884122821267:=Z
def tw18279606926006391592:=Z
def tw14242201628986319332:=Z
def tw14102787565611503885:=Z
def tw10077730510769589109:=Z
def tw16236970596390183310:=Z
def tw16339297974987394303:=Z
def tw13087226627679941650:=Z
def tw6988706541876183153:=Z
def tw3144370849932891628:=Z
def tw16763246951261497006:=Z
def tw4973706241785931051:=Z
def tw15834906566405191451:=Z
def tw4761584106122275830:=Z
def tw8978657168195888987:=Z
def tw14774643832542126679:=Z
def tw10839248845509200635:=Z
def tw14651923460885181576:=Z
def tw15382197768568731514:=Z
def tw4649849693742638810:=Z
def tw13511896560395313168:=Z
def tw7156374784383392196:=Z
def tw4596218227914592010:=Z
def tw6857507399340763373:=Z
def tw13078817420075877705:=Z
def tw3702702131243633582:=Z
def tw6588267530984068764:=Z
def tw7797949371176312922:=Z
def tw9208118575003445832:=Z
def tw9743088045899262320:=Z
def tw12117652702815332290:=Z
def tw15573500128524969934:=Z
def tw15363522294199936882:=Z
def tw9961987733573762089:=Z
def tw2256820112587571526:=Z
def tw17277561294819718287:=Z
def tw15405846622520572052:=Z
def tw5380175234776000019:=Z
def tw3311545150139455685:=Z
def tw17791632253859758963:=Z
def tw13502838264165790049:=Z
def tw3462251194111653596:=Z
def tw9884777236587155439:=Z
def tw11931996280025547801:=Z
def tw10663978080657396066:=Z
def tw13776634758906373523:=Z
def tw9815190208014335644:=Z
def tw11916757362770462938:=Z
def tw4836943802179049357:=Z
def tw6523916209341062204:=Z
def tw9597551396930101499:=Z
def tw2722668710598077552:=Z
def tw6457107346555501868:=Z
def tw1786332696472923266:=Z
def tw11599058086719365157:=Z
def tw15453946875417873873:=Z
def tw9134444990147045736:=Z
def tw14692465067040318275:=Z
def tw9781459404179610254:=Z
def tw8285537824580105635:=Z
def tw18125202370153215350:=Z
def tw3075566726677511912:=Z
def tw2748101786070027796:=Z
def tw3756866449078788535:=Z
def tw179150189158822961:=Z
def tw10020130486427279633:=Z
def tw6339214348907082547:=Z
def tw13257242433445093043:=Z
def tw3032464279669373329:=Z
def tw4188040141022738988:=Z
def tw984817699718881864:=Z
def tw11549399764091674405:=Z
def tw4314676126776974167:=Z
def tw9373225949739634071:=Z
def tw13185990478278166188:=Z
def tw14124297758322233745:=Z
def tw17214282034896279291:=Z
def tw11928347836337174532:=Z
def tw12318489948758246992:=Z
def tw13072580629414494433:=Z
def tw10476460665948558017:=Z
def tw10623989150742788452:=Z
def tw6708094627220570253:=Z
def tw14145219794475841210:=Z
def tw6411792518409200284:=Z
def tw18098463059954952503:=Z
def tw926413505432476656:=Z
def tw13580384137315812008:=Z
def tw14220258804783177277:=Z
def tw2708719860180593545:=Z
def tw14777650846517156620:=Z
def tw10500026772710692024:=Z
def tw1312128947217353996:=Z
def tw16725832573389669949:=Z
def tw9906642909469085156:=Z
def tw5114643683364181884:=Z
def tw7817018059494956822:=Z
def tw17261246141736004669:=Z
def tw3774587130287701327:=Z
def tw15359316759191058765:=Z
def tw8998579351477386218:=Z
def tw2803012040223097397:=Z
def tw13315597209207893156:=Z
def tw9897865376702830852:=Z
def tw3318479613408497464:=Z
def tw5363436861658668360:=Z
def tw18190403736768842976:=Z
def tw8637461195397426230:=Z
def tw9430495487579379231:=Z
def tw11016257184336006098:=Z
def tw13262915095434689280:=Z
def tw2274259198366822138:=Z
def tw8800523334856020274:=Z
def tw9986676988252400410:=Z
def tw9150210226518651121:=Z
def tw17844433868571979959:=Z
def tw7760166753421405888:=Z
def tw6300443358550685090:=Z
def tw9044623345920973450:=Z
def tw15357620502229735437:=Z
def tw5426136429726819713:=Z
def tw2086206454666668567:=Z
def tw16707333048885442656:=Z
def tw1407497926420125912:=Z
def tw12198312580520069568:=Z
def tw6075398752986452512:=Z
def tw4586926312073832828:=Z
def tw6733431318347401808:=Z
def tw2894355766172609985:=Z
def tw16576081080354577518:=Z
def tw4614155871109675429:=Z
def tw11113006606735826791:=Z
def tw8801339277161764107:=Z
def tw4778326002403413599:=Z
def tw16123730004165545885:=Z
def tw7071137186061277721:=Z
def tw1809433576374058577:=Z
def tw11849021162429339118:=Z
def tw14980212086482762386:=Z
def tw5672377493453914515:=Z
def tw4169503400455750081:=Z
def tw11680583384845419495:=Z
def tw16465576107847086985:=Z
def tw10616049075744010156:=Z
def tw12634581128581609251:=Z
def tw5945976045331171019:=Z
def tw5732972174772796432:=Z
def tw5720194653502670259:=Z
def tw10626451916728823593:=Z
def tw17695811486583249881:=Z
def tw12846420358018679738:=Z
def tw3672744536568375690:=Z
def tw17597646742503332555:=Z
def tw10274832496277503079:=Z
def tw445586346806967797:=Z
def tw17941558688043376771:=Z
def tw5025336680593025028:=Z
def tw7369809599286065287:=Z
def tw12496941350766453331:=Z
def tw473633456942269027:=Z
def tw1794859487816288618:=Z
def tw4651377952559148987:=Z
def tw5506372380251655355:=Z
def tw17635057594032730665:=Z
def tw3320923738727025595:=Z
def tw5440330440433331595:=Z
def tw10720423350927482922:=Z
def tw11587727966158976718:=Z
def tw16882614427829291809:=Z
def tw2095508125204929206:=Z
def tw13662651432417960580:=Z
def tw1456226894645090663:=Z
def tw8773605014037541949:=Z
def tw2158002569398073123:=Z
def tw18209770937409243909:=Z
def tw15034945265000273233:=Z
def tw9274051175609754183:=Z
def tw3861801369316944992:=Z
def tw8688464516645890218:=Z
def tw3867226459733019842:=Z
def tw11862852811135664887:=Z
def tw16537313222761944107:=Z
def tw15586579906055839367:=Z
def tw15320546553433882234:=Z
def tw4976861716250405757:=Z
def tw16438214427880799468:=Z
def tw14197105732810735929:=Z
def tw10081831360166721340:=Z
def tw161989850108265429:=Z
def tw9484664228809392002:=Z
def tw15430074964455483930:=Z
def tw12033054027597854854:=Z
def tw116635228566017713:=Z
def tw3738549343754049600:=Z
def tw1405817295860947544:=Z
def tw14905551170732518814:=Z
def tw4343732264402801345:=Z
def tw13008880930574769434:=Z
def tw11945225324197915509:=Z
def tw6624805444250441928:=Z
def tw478186001318087124:=Z
def tw14566115056494730595:=Z
def tw7112794141029218045:=Z
def tw1701957682479976105:=Z
def tw13527472823096906835:=Z
def tw5737547889508723482:=Z
def tw742546894954891849:=Z
def tw16717675170655885167:=Z
def tw14538334936544725687:=Z
def tw8950645844922245431:=Z
def tw3965951184878978963:=Z
def tw15994647224173042647:=Z
def tw382247016006696667:=Z
def tw15247613678890979890:=Z
def tw13958277525078689364:=Z
def tw2750080278472394036:=Z
def tw737397453751734521:=Z
def tw18377450909257372050:=Z
def tw6556911486825138012:=Z
def tw2371853455175918463:=Z
def tw16921606992143320575:=Z
def tw7831338362046267258:=Z
def tw1232434860382766593:=Z
def tw6287857159722884615:=Z
def tw12025191020410532898:=Z
def tw15969604608430999377:=Z
def tw12216440283144934855:=Z
def tw6360295293394256704:=Z
def tw13123311557149258889:=Z
def tw1722729847074555851:=Z
def tw7592453819002442481:=Z
def tw7197247393866888589:=Z
def tw6679655569521346022:=Z
def tw17347603742258688977:=Z
def tw12284605704392675152:=Z
def tw9326162546678482721:=Z
def tw14797632925486672029:=Z
def tw13697053970162076902:=Z
def tw10373945403305011908:=Z
def tw13853228165193296475:=Z
def tw16456277957674250695:=Z
def tw1825133421706860554:=Z
def tw17029839460463806580:=Z
def tw2512609226476879890:=Z
def tw1175840064358952326:=Z
def tw5506600885833314046:=Z
def tw17681201342495375830:=Z
def tw5819894740929063973:=Z
def tw6192953225641582836:=Z
def tw6351031892995624264:=Z
def tw6946011482857954017:=Z
def tw13741718069325328737:=Z
def tw15339566427972340674:=Z
def tw4430339106437287540:=Z
def tw12885489446979158507:=Z
def tw15698940713929505077:=Z
def tw7018435777996784866:=Z
def tw15709075743368801502:=Z
def tw5831118745390946936:=Z
def tw12768413227809308949:=Z
def tw4539177699664581316:=Z
def tw6400436679424063616:=Z
def tw5725101401460778860:=Z
def tw6070005216759115220:=Z
def tw8515544844370107696:=Z
def tw5038347407063634567:=Z
def tw7516963372679542433:=Z
def tw622615006841868057:=Z
def tw424696984014410062:=Z
def tw14274427719577123454:=Z
def tw6596670117968550579:=Z
def tw17777315317511185980:=Z
def tw13193789871805266601:=Z
def tw9803172166941232915:=Z
def tw11613227037572039299:=Z
def tw8253994746918601664:=Z
def tw7174471471383361390:=Z
def tw1092639633551245712:=Z
def tw6590048635125024297:=Z
def tw18059211336184996104:=Z
def tw7681037337885624233:=Z
def tw1556045472826000168:=Z
def tw16557739653553125611:=Z
def tw11977766389817219322:=Z
def tw9523539405692202772:=Z
def tw7727762864676768321:=Z
def tw998753565464954561:=Z
def tw7147518940436237890:=Z
def tw11431954259592584636:=Z
def tw9337923161945664520:=Z
def tw5740519539576439226:=Z
def tw3907213389965085796:=Z
def tw14245388247669891105:=Z
def tw6620977955388755874:=Z
def tw7413335290288777869:=Z
def tw4621717622030446108:=Z
def tw18030800338220678104:=Z
def tw13666212578181815348:=Z
def tw6243692376332544327:=Z
def tw2014839818197268188:=Z
def tw8894869357790907916:=Z
def tw2868893841241746289:=Z
def tw12093217658448357032:=Z
def tw6729179095325956518:=Z
def tw6283327526163736932:=Z
def tw6524955640686767371:=Z
def tw12010270598344974421:=Z
def tw798014758120029084:=Z
def tw13744613399846921904:=Z
def tw10391130595123830679:=Z
def tw1255514446837780274:=Z
def tw8493035459686737867:=Z
def tw2231210989437916314:=Z
def tw4791504095555505675:=Z
def tw12163763411234288893:=Z
def tw18093005467047311202:=Z
def tw1142807494210244546:=Z
def tw5909162027155492662:=Z
def tw1730868049557572726:=Z
def tw212523755558947245:=Z
def tw8035081209420114723:=Z
def tw14926907901545185394:=Z
def tw13942279095633643394:=Z
def tw5193524945855422910:=Z
def tw11426796714123829596:=Z
def tw3976321433833034529:=Z
def tw11925772209827258519:=Z
def tw3466519145088312171:=Z
def tw13627725924846023946:=Z
def tw8562201402797116265:=Z
def tw6084654249488031607:=Z
def tw15975344398763674860:=Z
def tw3092080619287250951:=Z
def tw11315669235857952816:=Z
def tw15844480667317613965:=Z
def tw9595167474894462703:=Z
def tw4473887737123381770:=Z
def tw14186700962431146682:=Z
def tw1292309942489033663:=Z
def tw1652886505309252441:=Z
def tw9970013364044907717:=Z
def tw185530461781261785:=Z
def tw4402271870802942277:=Z
def tw10162819918135536063:=Z
def tw12579398634842037103:=Z
def tw3139432333327808286:=Z
def tw2358558589622273006:=Z
def tw8961817666108675118:=Z
def tw3176166606814149663:=Z
def tw16144067621281713373:=Z
def tw13466812322104434302:=Z
def tw7038589714687705780:=Z
def tw7944596488492864223:=Z
def tw11932863289321804077:=Z
def tw732231379262143868:=Z
def tw10729692144597079213:=Z
def tw3294769747551363716:=Z
def tw10120809387858573018:=Z
def tw17260769951158225335:=Z
def tw2106427390147738237:=Z
def tw9151864778938028845:=Z
def tw17679286481844084969:=Z
def tw290604922608432581:=Z
def tw7663768889345149018:=Z
def tw10947706079100605479:=Z
def tw14564821610809789931:=Z
def tw4834104989956736281:=Z
def tw18162974325144948918:=Z
def tw6780481009721779220:=Z
def tw5204122117925257436:=Z
def tw119940969248600361:=Z
def tw9465160254503652938:=Z
def tw17821279685844342905:=Z
def tw9734674137229769169:=Z
def tw15365234409411499142:=Z
def tw9495380368738103252:=Z
def tw14768756778847089543:=Z
def tw6976413602765962696:=Z
def tw12435751293415472425:=Z
def tw15470625416512062778:=Z
def tw5266560547652629711:=Z
def tw8732058175921048590:=Z
def tw12853526836016618257:=Z
def tw16520794917655608571:=Z
def tw6887106050396104138:=Z
def tw13133574319126433315:=Z
def tw13216806691132096654:=Z
def tw6500852569214880479:=Z
def tw7923176285516734652:=Z
def tw12673963172464466767:=Z
def tw10874795240618361164:=Z
def tw15198811065624570416:=Z
def tw827135632024270007:=Z
def tw13632403396737613849:=Z
def tw4794991716919083720:=Z
def tw3091095475073345177:=Z
def tw5248563719440967206:=Z
def tw1980057387334804355:=Z
def tw13411148331373711133:=Z
def tw2242621205373358133:=Z
def tw14425904847343723313:=Z
def tw17948228830220938819:=Z
def tw9971661352483759679:=Z
def tw13992247321653915853:=Z
def tw12963420702147082001:=Z
def tw17533912514986782063:=Z
def tw8237232577690452624:=Z
def tw5693766691697891136:=Z
def tw16676257949484313962:=Z
def tw10378026475244005355:=Z
def tw17438288738690544669:=Z
def tw16642295522897977150:=Z
def tw13086504542943359468:=Z
def tw6675221482469044001:=Z
def tw355127308394974394:=Z
def tw2438622879482347689:=Z
def tw17562543165433629493:=Z
def tw7739348315500698955:=Z
def tw2628607204697205831:=Z
def tw16253434399100770800:=Z
def tw5664764894117884692:=Z
def tw2106318293490891332:=Z
def tw6023034094593268228:=Z
def tw17662225755520594406:=Z
def tw7146952144295883366:=Z
def tw1251547031943466749:=Z
def tw1355873868373237404:=Z
def tw2923068398259159227:=Z
def tw4116930251588132817:=Z
def tw5972464937843346541:=Z
def tw11036425065349485261:=Z
def tw9348426464033756353:=Z
def tw2128882653027698871:=Z
def tw8707278548996923235:=Z
def tw13037357876755862673:=Z
def tw15303153473396636017:=Z
def tw13887582792293242575:=Z
def tw10340675830496385480:=Z
def tw4583349745018679264:=Z
def tw11085732009329599774:=Z
def tw13509446630212801330:=Z
def tw16168019194294203757:=Z
def tw12351004408150590212:=Z
def tw4132848131765461834:=Z
def tw2042715207974607277:=Z
def tw7829280664530717634:=Z
def tw15103368478132103038:=Z
def tw17142573290760871587:=Z
def tw8169174106745314323:=Z
def tw3382519927443464370:=Z
def tw7395146195625270311:=Z
def tw7832289491928365152:=Z
def tw15496462493465501833:=Z
def tw11876678945539253646:=Z
def tw4749532260279524963:=Z
def tw12058651281355394159:=Z
def tw17721854033907174238:=Z
def tw17607858391009046325:=Z
def tw5523702923092106763:=Z
def tw18292992928766122719:=Z
def tw7082753505928974742:=Z
def tw10660949174744114003:=Z
def tw4517633833220763355:=Z
def tw14110907928139721967:=Z
def tw7382686974380745315:=Z
def tw6671561119511725261:=Z
def tw5143405575260298453:=Z
def tw8169056141531566412:=Z
def tw4224105412711771079:=Z
def tw17264411973173835865:=Z
def tw18300665605072684892:=Z
def tw1978133367129981460:=Z
def tw3410679831630204573:=Z
def tw5391978504334048594:=Z
def tw15086731946475730531:=Z
def tw13865506397686938210:=Z
def tw7437244355140772064:=Z
def tw13781186908683982190:=Z
def tw2288397974579676144:=Z
def tw6116955353055351287:=Z
def tw9221095724324900131:=Z
def tw7551801568162123998:=Z
def tw7789048663395388947:=Z
def tw9472953475077461402:=Z
def tw18283626208961916490:=Z
def tw16772552761807851066:=Z
def tw10508369478804000447:=Z
def tw3930960835046222468:=Z
def tw16742343245067919483:=Z
def tw18328962090859411668:=Z
def tw2664733588218500932:=Z
def tw221214448582535542:=Z
def tw14941214211386609780:=Z
def tw3613331157315877665:=Z
def tw431791922409938138:=Z
def tw658582050693175758:=Z
def tw13794764993070393265:=Z
def tw9767202907406244228:=Z
def tw12448860669915192566:=Z
def tw17236091925168350446:=Z
def tw17128091702035379627:=Z
def tw1345317419160183676:=Z
def tw12770292535135854805:=Z
def tw7767916098204797834:=Z
def tw727147830173176167:=Z
def tw9493703358402330643:=Z
def tw14184942196901846002:=Z
def tw8087186460007305259:=Z
def tw656062770118824899:=Z
def tw11680360919941493805:=Z
def tw11119256623673649848:=Z
def tw2562944488768252573:=Z
def tw10074475657732509421:=Z
def tw12212381787555871402:=Z
def tw5963465531049042281:=Z
def tw3322052609881410644:=Z
def tw4814147737467304230:=Z
def tw12005369175498909542:=Z
def tw9399686051685295975:=Z
def tw12399694966058326916:=Z
def tw12971836102183762459:=Z
def tw14083564059025905889:=Z
def tw3548389318628396867:=Z
def tw9191436434156303810:=Z
def tw2093601449270643063:=Z
def tw2203823784985714728:=Z
def tw7312726051263730854:=Z
def tw2375315604961215357:=Z
def tw6729196835623084850:=Z
def tw12260568673058070554:=Z
def tw3492675324387898700:=Z
def tw3081139539081760434:=Z
def tw13538890901432275898:=Z
def tw4123058267428999200:=Z
def tw17492931047870634668:=Z
def tw13649971518249650621:=Z
def tw12334946165926800472:=Z
def tw11629149740225821749:=Z
def tw12423754668277098021:=Z
def tw4260479584572499146:=Z
def tw2373706194596071548:=Z
def tw2532168020410952864:=Z
def tw12594786993613476614:=Z
def tw14546548997418784165:=Z
def tw7546033429512764957:=Z
def tw14706155231265751192:=Z
def tw5728925138873714735:=Z
def tw15682392363855759755:=Z
def tw5619417952364975029:=Z
def tw18106972156353326319:=Z
def tw8770000962166625000:=Z
def tw15120936447891831399:=Z
def tw15133578276022664294:=Z
def tw15914308572698461537:=Z
def tw6268511059689542605:=Z
def tw7698455893040493526:=Z
def tw8783444196198341713:=Z
def tw5133363852461515046:=Z
def tw560048575672961295:=Z
def tw15635060793068116198:=Z
def tw7996388656378349535:=Z
def tw8850202971599133170:=Z
def tw4706332549047071019:=Z
def tw10967497109597066712:=Z
def tw3336873649524684131:=Z
def tw14905873483607633500:=Z
def tw16916298998209348849:=Z
def tw16964950666289562489:=Z
def tw2043065506706336138:=Z
def tw12510559782371841295:=Z
def tw13530556695748991278:=Z
def tw3272787490623886428:=Z
def tw13831609164908033783:=Z
def tw5110620627671196445:=Z
def tw7172634570511735618:=Z
def tw10743036994770265312:=Z
def tw9032507580341002302:=Z
def tw14347757722850771027:=Z
def tw4781607893267732189:=Z
def tw2031050079349417826:=Z
def tw18040869344993540261:=Z
def tw13993049232514740222:=Z
def tw6891051911461048572:=Z
def tw15128844655189683948:=Z
def tw15204939415916150202:=Z
def tw4474282660559594571:=Z
def tw14509037348425255243:=Z
def tw1223566863280285983:=Z
def tw1872438428114773576:=Z
def tw16020364143544909343:=Z
def tw3934377391875014565:=Z
def tw6464243180425993092:=Z
def tw6080490773184460437:=Z
def tw2636991851021346835:=Z
def tw3859296836500918214:=Z
def tw2915732033840397845:=Z
def tw10463099001202081320:=Z
def tw16095400090098158490:=Z
def tw9829671315173049667:=Z
def tw10342207876974974435:=Z
def tw7410958791145493721:=Z
def tw16720917766664553236:=Z
def tw9756334616065335573:=Z
def tw5706838328065174195:=Z
def tw16001265643930444080:=Z
def tw674495064830625296:=Z
def tw6423193421462452565:=Z
def tw7250025456507711754:=Z
def tw11590421037142112370:=Z
def tw4984531894868959368:=Z
def tw1626202479307825166:=Z
def tw7669133216241417066:=Z
def tw7836190679296140399:=Z
def tw11965997066650892579:=Z
def tw17606478192522852524:=Z
def tw7394429893915754949:=Z
def tw16602866423022958187:=Z
def tw13087824755261965817:=Z
def tw847858392603281728:=Z
def tw12109582388349849597:=Z
def tw9042318382463669945:=Z
def tw13266723437621705840:=Z
def tw4091725128463006460:=Z
def tw4461871375326432699:=Z
def tw4679971548868382754:=Z
def tw1480603323404080147:=Z
def tw9012840845850530099:=Z
def tw17304259773296241906:=Z
def tw1364666555322876094:=Z
def tw962132231793036331:=Z
def tw10947086368357863948:=Z
def tw16169289694574811004:=Z
def tw15564818039130808502:=Z
def tw8572474284596127499:=Z
def tw18123893130380694378:=Z
def tw12669142842701141597:=Z
def tw6629992663096463163:=Z
def tw6820214739433785209:=Z
def tw4824344885012485480:=Z
def tw2455420835945747596:=Z
def tw1661034614327928192:=Z
def tw16807602809053041763:=Z
def tw1773993356125403644:=Z
def tw797923310270810965:=Z
def tw6951604372170403383:=Z
def tw10872793373211509649:=Z
def tw11933052767124842997:=Z
def tw14885471108944836611:=Z
def tw11832568054928459252:=Z
def tw2663714052223811821:=Z
def tw8186580087545733453:=Z
def tw14817172729919557641:=Z
def tw4934826922599748168:=Z
def tw17429051013399374976:=Z
def tw12916130708662364828:=Z
def tw1272142427100472393:=Z
def tw11671449623211904438:=Z
def tw4614519666577969199:=Z
def tw15990851117546501305:=Z
def tw9075791472771837808:=Z
def tw5820032532164161473:=Z
def tw9917347916238171561:=Z
def tw16854051646977022679:=Z
def tw245190695037068751:=Z
def tw16954312949905037658:=Z
def tw13352804172728821719:=Z
def tw622186587003819607:=Z
def tw11865007180291938232:=Z
def tw815548356238434811:=Z
def tw2924453363659713700:=Z
def tw5732103970903086716:=Z
def tw13837044480878027133:=Z
def tw18329373679893871774:=Z
def tw9612102179102224130:=Z
def tw10880568843782423149:=Z
def tw6042117816328968550:=Z
def tw8652466394197291880:=Z
def tw10531275583588353061:=Z
def tw7238978862783432554:=Z
def tw12877852532679481648:=Z
def tw6691593651721429250:=Z
def tw3941390209511845454:=Z
def tw11942256029797716386:=Z
def tw16981964573508047450:=Z
def tw8175294115820075793:=Z
def tw11459295414989078509:=Z
def tw2380663614745861084:=Z
def tw9913968657863446214:=Z
def tw5762315117053098224:=Z
def tw3562472507937605900:=Z
def tw13645258602220062355:=Z
def tw102499509745331035:=Z
def tw14198010675419522330:=Z
def tw6148496868586181418:=Z
def tw10233564466393026428:=Z
def tw15975597423197248424:=Z
def tw11363939239940593638:=Z
def tw1942930742350600778:=Z
def tw986819877647313153:=Z
def tw16904166266435416787:=Z
def tw4690927920977281495:=Z
def tw5506916058817451447:=Z
def tw3647325735378627838:=Z
def tw1815836502871906236:=Z
def tw5428018333685799781:=Z
def tw12406936302654389925:=Z
def tw16142977671461321590:=Z
def tw7197782467722609345:=Z
def tw6197287328670189939:=Z
def tw3622706389873182711:=Z
def tw11376262700503968736:=Z
def tw1111157520215358346:=Z
def tw3190872985693271577:=Z
def tw17105103890463824413:=Z
def tw18238734591062343868:=Z
def tw6965283429574947892:=Z
def tw16370690985843212935:=Z
def tw16166964771340929437:=Z
def tw11647660150536060444:=Z
def tw12533627659705310661:=Z
def tw13734527697570654914:=Z
def tw3640173984748484133:=Z
def tw10198722755018235026:=Z
def tw4418934790810464766:=Z
def tw17386822888805989377:=Z
def tw17297081521028581035:=Z
def tw14025641081921682888:=Z
def tw14800847797587469825:=Z
def tw9803127242870151055:=Z
def tw6769134635885187053:=Z
def tw7963284025911777392:=Z
def tw12889706259454296264:=Z
def tw2356813727409699757:=Z
def tw15708278588947153261:=Z
def tw7659568347678081333:=Z
def tw2659132131176349193:=Z
def tw623569833578837083:=Z
def tw5350709865423776471:=Z
def tw2339929824063536501:=Z
def tw17208423511084229792:=Z
def tw8148954349492514277:=Z
def tw10839799128321394640:=Z
def tw7784650063496644023:=Z
def tw2610467227281638578:=Z
def tw4614994466422569693:=Z
def tw6536578478920148412:=Z
def tw2833673964432390421:=Z
def tw9856109833262407361:=Z
def tw17772115966391739686:=Z
def tw6111214118024439745:=Z
def tw12395081570811891745:=Z
def tw7540782864077321317:=Z
def tw10737707224296844224:=Z
def tw5119356183574929900:=Z
def tw3501860981078680776:=Z
end PySem.W.Fast
open PySem PySem.W PyProof.Rows
set_option maxRecDepth 100000 in
set_option maxHeartbeats 0 in
theorem PySem.Challenge.cw_lazycols_k45_rows_beside_holds : PySem.Challenge.rw_lazycols_k45_rows_beside.Holds := by
 w_on;o_law;k_head;(case hw=>w_witness2)
 k_fill
 refine My.walk (l:=PySem.Challenge.rw_lazycols_k45_rows_beside) rfl rfl rfl (fun w h Y => PySem.W.km_in_of Y) ?R ?F
 case R=>first|exact rfl|decide+kernel
 case F=>
  intro w mg h Y KX G
  refine'⟨⟨PySem.W.mg_none_of KX G ?_,PySem.W.mg_none_of KX G ?_,PySem.W.mg_none_of KX G ?_,PySem.W.mg_none_of KX G ?_,PySem.W.mg_none_of KX G ?_,PySem.W.mg_none_of KX G ?_,PySem.W.mg_none_of KX G ?_,PySem.W.mg_none_of KX G ?_,PySem.W.mg_none_of KX G ?_,PySem.W.mg_none_of KX G ?_,PySem.W.mg_none_of KX G ?_,PySem.W.mg_none_of KX G ?_,PySem.W.mg_none_of KX G ?_,PySem.W.mg_none_of KX G ?_,PySem.W.mg_none_of KX G ?_,⟨_,PySem.W.mg_of KX G ?_⟩,⟨_,PySem.W.mg_of KX G ?_⟩,L2.xG KX G ?_ ?_,⟨_,PySem.W.mg_of KX G ?_⟩,L2.xG KX G ?_ ?_,⟨_,PySem.W.mg_of KX G ?_⟩,⟨_,PySem.W.mg_of KX G ?_⟩,⟨_,PySem.W.mg_of KX G ?_⟩,L2.xG KX G ?_ ?_,L2.eC KX G ?_ ?_ ?_ ?_,L2.eC KX G ?_ ?_ ?_ ?_,L2.eC KX G ?_ ?_ ?_ ?_,L2.eC KX G ?_ ?_ ?_ ?_,L2.eC KX G ?_ ?_ ?_ ?_,L2.eC KX G ?_ ?_ ?_ ?_,L2.eC KX G ?_ ?_ ?_ ?_,L2.eC KX G ?_ ?_ ?_ ?_,L2.eC KX G ?_ ?_ ?_ ?_,L2.eC KX G ?_ ?_ ?_ ?_,L2.eC KX G ?_ ?_ ?_ ?_,L2.eC KX G ?_ ?_ ?_ ?_,L2.eC KX G ?_ ?_ ?_ ?_,L2.eC KX G ?_ ?_ ?_ ?_,L2.eC KX G ?_ ?_ ?_ ?_,L2.eC KX G ?_ ?_ ?_ ?_,L2.eC KX G ?_ ?_ ?_ ?_,L2.eC KX G ?_ ?_ ?_ ?_,L2.eC KX G ?_ ?_ ?_ ?_,L2.eC KX G ?_ ?_ ?_ ?_,L2.eC KX G ?_ ?_ ?_ ?_,L2.eC KX G ?_ ?_ ?_ ?_,L2.eC KX G ?_ ?_ ?_ ?_,L2.eC KX G ?_ ?_ ?_ ?_,L2.eC KX G ?_ ?_ ?_ ?_,?_,⟨_,⟨PySem.W.mg_of KX G ?_,⟨?_,?_,?_,?_⟩,?_,?_,?_,(L2.na ?_),L2.bD ?_ ?_ ?_ ?_ ?_,⟨?_,_,_,?_,?_,?_⟩,L2.bD ?_ ?_ ?_ ?_ ?_⟩⟩,⟨_,⟨PySem.W.mg_of KX G ?_,⟨?_,?_,?_,?_⟩,?_,?_,?_,(L2.na ?_),(L2.na ?_),L2.bD ?_ ?_ ?_ ?_ ?_,L2.bD ?_ ?_ ?_ ?_ ?_,L2.bD ?_ ?_ ?_ ?_ ?_,L2.bD ?_ ?_ ?_ ?_ ?_,?_,⟨?_,?_,?_⟩⟩⟩,⟨_,⟨PySem.W.mg_of KX G ?_,⟨?_,?_,?_,?_⟩,?_,?_,?_,(L2.na ?_),(L2.na ?_),(L2.na ?_),L2.bD ?_ ?_ ?_ ?_ ?_,L2.bD ?_ ?_ ?_ ?_ ?_,L2.bD ?_ ?_ ?_ ?_ ?_,L2.bD ?_ ?_ ?_ ?_ ?_,L2.bD ?_ ?_ ?_ ?_ ?_,L2.bD ?_ ?_ ?_ ?_ ?_,L2.bD ?_ ?_ ?_ ?_ ?_,L2.bD ?_ ?_ ?_ ?_ ?_,L2.bD ?_ ?_ ?_ ?_ ?_⟩⟩,⟨_,⟨PySem.W.mg_of KX G ?_,⟨?_,?_,?_,?_⟩,?_,?_,?_,(L2.na ?_),(L2.na ?_),(L2.na ?_),(L2.na ?_),L2.bD ?_ ?_ ?_ ?_ ?_,L2.bD ?_ ?_ ?_ ?_ ?_⟩⟩,⟨_,⟨PySem.W.mg_of KX G ?_,⟨?_,?_,?_,?_⟩,?_,?_,?_,L2.bD ?_ ?_ ?_ ?_ ?_,L2.bD ?_ ?_ ?_ ?_ ?_,L2.bD ?_ ?_ ?_ ?_ ?_,L2.bD ?_ ?_ ?_ ?_ ?_,L2.bD ?_ ?_ ?_ ?_ ?_,L2.bD ?_ ?_ ?_ ?_ ?_,L2.bD ?_ ?_ ?_ ?_ ?_,L2.bD ?_ ?_ ?_ ?_ ?_,L2.bD ?_ ?_ ?_ ?_ ?_⟩⟩,⟨_,⟨PySem.W.mg_of KX G ?_,⟨?_,?_,?_,?_⟩,?_,?_,?_,(L2.na ?_),(L2.na ?_),L2.bD ?_ ?_ ?_ ?_ ?_,L2.bD ?_ ?_ ?_ ?_ ?_,L2.bD ?_ ?_ ?_ ?_ ?_,L2.bD ?_ ?_ ?_ ?_ ?_,L2.bD ?_ ?_ ?_ ?_ ?_,L2.bD ?_ ?_ ?_ ?_ ?_,L2.bD ?_ ?_ ?_ ?_ ?_,L2.bD ?_ ?_ ?_ ?_ ?_,L2.bD ?_ ?_ ?_ ?_ ?_,L2.bD ?_ ?_ ?_ ?_ ?_⟩⟩,⟨_,⟨PySem.W.mg_of KX G ?_,⟨?_,?_,?_,?_⟩,?_,?_,?_,(L2.na ?_),(L2.na ?_),(L2.na ?_),(L2.na ?_),(L2.na ?_),L2.bD ?_ ?_ ?_ ?_ ?_,L2.bD ?_ ?_ ?_ ?_ ?_,L2.bD ?_ ?_ ?_ ?_ ?_,L2.bD ?_ ?_ ?_ ?_ ?_,L2.bD ?_ ?_ ?_ ?_ ?_,L2.bD ?_ ?_ ?_ ?_ ?_,L2.bD ?_ ?_ ?_ ?_ ?_,L2.bD ?_ ?_ ?_ ?_ ?_,L2.bD ?_ ?_ ?_ ?_ ?_,L2.bD ?_ ?_ ?_ ?_ ?_,L2.bD ?_ ?_ ?_ ?_ ?_,L2.bD ?_ ?_ ?_ ?_ ?_⟩⟩,⟨_,⟨PySem.W.mg_of KX G ?_,⟨?_,?_,?_,?_⟩,?_,?_,?_,(L2.na ?_),(L2.na ?_),(L2.na ?_),(L2.na ?_),L2.bD ?_ ?_ ?_ ?_ ?_,L2.bD ?_ ?_ ?_ ?_ ?_,L2.bD ?_ ?_ ?_ ?_ ?_,L2.bD ?_ ?_ ?_ ?_ ?_,L2.bD ?_ ?_ ?_ ?_ ?_,L2.bD ?_ ?_ ?_ ?_ ?_⟩⟩,⟨_,⟨PySem.W.mg_of KX G ?_,⟨?_,?_,?_,?_⟩,?_,?_,?_,(L2.na ?_),(L2.na ?_),(L2.na ?_),L2.bD ?_ ?_ ?_ ?_ ?_,L2.bD ?_ ?_ ?_ ?_ ?_⟩⟩,⟨_,⟨PySem.W.mg_of KX G ?_,⟨?_,?_,?_,?_⟩,?_,?_,?_,(L2.na ?_),(L2.na ?_),(L2.na ?_),(L2.na ?_),L2.bD ?_ ?_ ?_ ?_ ?_,L2.bD ?_ ?_ ?_ ?_ ?_⟩⟩,⟨_,⟨PySem.W.mg_of KX G ?_,⟨?_,?_,?_,?_⟩,?_,?_,?_,(L2.na ?_),(L2.na ?_),(L2.na ?_),L2.bD ?_ ?_ ?_ ?_ ?_,L2.bD ?_ ?_ ?_ ?_ ?_⟩⟩,⟨_,⟨PySem.W.mg_of KX G ?_,⟨?_,?_,?_,?_⟩,?_,?_,?_,(L2.na ?_),(L2.na ?_),(L2.na ?_),L2.bD ?_ ?_ ?_ ?_ ?_,L2.bD ?_ ?_ ?_ ?_ ?_,L2.bD ?_ ?_ ?_ ?_ ?_,L2.bD ?_ ?_ ?_ ?_ ?_,L2.bD ?_ ?_ ?_ ?_ ?_,L2.bD ?_ ?_ ?_ ?_ ?_⟩⟩,⟨_,⟨PySem.W.mg_of KX G ?_,⟨?_,?_,?_,?_⟩,?_,?_,?_,(L2.na ?_),(L2.na ?_),(L2.na ?_),L2.bD ?_ ?_ ?_ ?_ ?_,L2.bD ?_ ?_ ?_ ?_ ?_,L2.bD ?_ ?_ ?_ ?_ ?_,L2.bD ?_ ?_ ?_ ?_ ?_,L2.bD ?_ ?_ ?_ ?_ ?_,L2.bD ?_ ?_ ?_ ?_ ?_,L2.bD ?_ ?_ ?_ ?_ ?_,L2.bD ?_ ?_ ?_ ?_ ?_,L2.bD ?_ ?_ ?_ ?_ ?_,L2.bD ?_ ?_ ?_ ?_ ?_,L2.bD ?_ ?_ ?_ ?_ ?_,L2.bD ?_ ?_ ?_ ?_ ?_,L2.bD ?_ ?_ ?_ ?_ ?_,L2.bD ?_ ?_ ?_ ?_ ?_,L2.bD ?_ ?_ ?_ ?_ ?_,L2.bD ?_ ?_ ?_ ?_ ?_⟩⟩⟩,trivial,⟨⟨_,_,L2.a8m KX G ?_ ?_ ?_ ?_ ?_ ?_,L2.a6M KX G ?_ ?_ ?_ ?_ ?_ ?_ ?_ ?_ ?_,?_,?_⟩⟩⟩
  all_goals try k_is
  all_goals try (first|exact PySem.W.km_tabs_of Y _ (by decide)|kit_is|k_exc|kts_exm|exact rfl|kernel_rfl|decide)
  all_goals exact Value.type "type"