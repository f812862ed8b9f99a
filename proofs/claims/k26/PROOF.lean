import PyProof.Rows.All
import Wide.All
import OpenK.AllK
import Wide.FinOn
import PyProof.EqAt
import PyProof.EqKinds
import PyProof.TupleCall
import Lean
import PySem.Challenge.RW_lazycols_k26_cut_off
set_option Elab.async false
set_option linter.all false
set_option maxRecDepth 100000
set_option maxHeartbeats 4000000
set_option genSizeOfSpec false
set_option compiler.extract_closed false
namespace L2
theorem aa{α:Type _}{a:α}{l:List α}:a∈a::l:=List.mem_cons_self ..
theorem ad{α:Sort _}{a b c:α}(h:a=b\/ a=c:=by first|exact Or.inl rfl|exact Or.inr rfl):a=b\/ a=c:=h
theorem nk{α:Sort _}{p:α->Prop}(h:∀y,p y:=by intro _ y;cases y):∀y,p y:=h
abbrev Fg:=PySem.W.Frag
end L2
open PySem L2
variable{us its:List Value}{F:FuncData}{ps N:List Str}{a b ch D l C dx f fd fa CB CT bd fi lk CS CF CC CG zt:Addr}{u doc pm cdv ct oc:Value}{P prog:Program}{w:World}{h base h':Heap}{i j p:Nat}{x c m qual q:Str}{e tg body iter:Expr}{A:Around}{E Q:Value->Shared->Prop}{s' s:Shared}{pins:List (Addr×Obj)}{K:Fg}{es:List Expr}{pos' apos:Pos}{fp M:List Addr}{mg:Str->Option Value}{scope:Scope}{params:Arguments}{an od ca:Option Addr}{d:PyData}{cp:List (Nat×Str)}{clos:List (Str×Addr)}{ds:List PyData}{gr:Nat->Addr}{z1:Addr×Addr}
namespace L2
open PySem PySem.Spec PyProof.Rows
theorem eQ{n:Nat}(h:us.length=n+ 1):∃a r,us=a::r/\r.length=n:=by
 cases us with
 |nil=>cases h
 |cons a r=>exact⟨a,r,rfl,Nat.succ.inj h⟩
theorem fK(h:∀a0,bindArgs F ⟨[a0],[]⟩=pure (ps.zip [a0])):∀us:List Value,us.length=1->bindArgs F ⟨us,[]⟩=pure (ps.zip us):=by
 intro us h0
 obtain⟨a0,us0,rfl,h1⟩:=eQ h0
 obtain rfl:=List.length_eq_zero_iff.mp h1
 exact h a0
theorem dZ(h:∀a0 a1,bindArgs F ⟨[a0,a1],[]⟩=pure (ps.zip [a0,a1])):∀us:List Value,us.length=2->bindArgs F ⟨us,[]⟩=pure (ps.zip us):=by
 intro us h0
 obtain⟨a0,us0,rfl,h1⟩:=eQ h0
 obtain⟨a1,us1,rfl,h2⟩:=eQ h1
 obtain rfl:=List.length_eq_zero_iff.mp h2
 exact h a0 a1
theorem gM(h:∀a0 a1 a2,bindArgs F ⟨[a0,a1,a2],[]⟩=pure (ps.zip [a0,a1,a2])):∀us:List Value,us.length=3->bindArgs F ⟨us,[]⟩=pure (ps.zip us):=by
 intro us h0
 obtain⟨a0,us0,rfl,h1⟩:=eQ h0
 obtain⟨a1,us1,rfl,h2⟩:=eQ h1
 obtain⟨a2,us2,rfl,h3⟩:=eQ h2
 obtain rfl:=List.length_eq_zero_iff.mp h3
 exact h a0 a1 a2
theorem jG(h:∀a0 a1 a2 a3,bindArgs F ⟨[a0,a1,a2,a3],[]⟩=pure (ps.zip [a0,a1,a2,a3])):∀us:List Value,us.length=4->bindArgs F ⟨us,[]⟩=pure (ps.zip us):=by
 intro us h0
 obtain⟨a0,us0,rfl,h1⟩:=eQ h0
 obtain⟨a1,us1,rfl,h2⟩:=eQ h1
 obtain⟨a2,us2,rfl,h3⟩:=eQ h2
 obtain⟨a3,us3,rfl,h4⟩:=eQ h3
 obtain rfl:=List.length_eq_zero_iff.mp h4
 exact h a0 a1 a2 a3
theorem wL(h:∀a0 a1 a2 a3 a4,bindArgs F ⟨[a0,a1,a2,a3,a4],[]⟩=pure (ps.zip [a0,a1,a2,a3,a4])):∀us:List Value,us.length=5->bindArgs F ⟨us,[]⟩=pure (ps.zip us):=by
 intro us h0
 obtain⟨a0,us0,rfl,h1⟩:=eQ h0
 obtain⟨a1,us1,rfl,h2⟩:=eQ h1
 obtain⟨a2,us2,rfl,h3⟩:=eQ h2
 obtain⟨a3,us3,rfl,h4⟩:=eQ h3
 obtain⟨a4,us4,rfl,h5⟩:=eQ h4
 obtain rfl:=List.length_eq_zero_iff.mp h5
 exact h a0 a1 a2 a3 a4
theorem bi6(h:∀a0 a1 a2 a3 a4 a5,bindArgs F ⟨[a0,a1,a2,a3,a4,a5],[]⟩=pure (ps.zip [a0,a1,a2,a3,a4,a5])):∀us:List Value,us.length=6->bindArgs F ⟨us,[]⟩=pure (ps.zip us):=by
 intro us h0
 obtain⟨a0,us0,rfl,h1⟩:=eQ h0
 obtain⟨a1,us1,rfl,h2⟩:=eQ h1
 obtain⟨a2,us2,rfl,h3⟩:=eQ h2
 obtain⟨a3,us3,rfl,h4⟩:=eQ h3
 obtain⟨a4,us4,rfl,h5⟩:=eQ h4
 obtain⟨a5,us5,rfl,h6⟩:=eQ h5
 obtain rfl:=List.length_eq_zero_iff.mp h6
 exact h a0 a1 a2 a3 a4 a5
abbrev aB:=Sum Int Str
def oW:aB->Value->Bool
 | .inl k,v=>Value.isInt k v
 | .inr x,v=>Value.isStrOf x v
def keyH(w:World):aB->Int
 | .inl k=>hashInt k
 | .inr x=>hashStr w x
theorem jY:∀{k:aB} {v:Value},oW k v=true->(∃i t,k=Sum.inl i/\v=Value.int i t)\/ (∃x t,k=Sum.inr x/\v=Value.str x t)
 | .inl i,v,h=>by
  obtain⟨t,e⟩:=Value.isInt_shape (k:=i) (v:=v) h
  exact .inl ⟨i,t,rfl,e⟩
 | .inr x,v,h=>by
  obtain⟨t,e⟩:=Value.isStrOf_shape (x:=x) (v:=v) h
  exact .inr ⟨x,t,rfl,e⟩
theorem a5W(i:Int)(t:Tok):oW (.inl i) (.int i t)=true:=by simp[oW,Value.isInt]
theorem a8h(x:Str)(t:Tok):oW (.inr x) (.str x t)=true:=by simp[oW,Value.isStrOf]
theorem a8N(a b:Int):decide ((Sum.inl a:aB)=Sum.inl b)=(a==b):=by
 by_cases e:a=b
 ·subst e;simp
 ·have h:¬(Sum.inl a:aB)=Sum.inl b:=fun q=>e (Sum.inl.inj q)
  rw[decide_eq_false h]
  exact(beq_eq_false_iff_ne.mpr e).symm
theorem a44(a b:Str):decide ((Sum.inr a:aB)=Sum.inr b)=decide (a=b):=by
 by_cases e:a=b
 ·subst e;simp
 ·have h:¬(Sum.inr a:aB)=Sum.inr b:=fun q=>e (Sum.inr.inj q)
  rw[decide_eq_false h,decide_eq_false e]
theorem a6T(a:Int)(b:Str):decide ((Sum.inl a:aB)=Sum.inr b)=false:=decide_eq_false (fun q=>nomatch q)
theorem a8k(a:Str)(b:Int):decide ((Sum.inr a:aB)=Sum.inl b)=false:=decide_eq_false (fun q=>nomatch q)
def fE(prog:Program)(w:World):PySem.KeyKind prog w aB where
 is:=oW
 hash:=keyH w
 inj:=fun v a b ha hb=>by
  rcases jY ha with⟨i,t,rfl,rfl⟩|⟨x,t,rfl,rfl⟩
  ·rcases jY hb with⟨j,u,rfl,e⟩|⟨y,u,rfl,e⟩
   ·injection e with e1 _;rw[e1]
   ·exact nomatch e
  ·rcases jY hb with⟨j,u,rfl,e⟩|⟨y,u,rfl,e⟩
   ·exact nomatch e
   ·injection e with e1 _;rw[e1]
 byValue:=fun k v h=>by
  rcases jY h with⟨i,t,rfl,rfl⟩|⟨x,t,rfl,rfl⟩<;>rfl
 pyHash:=fun hv h=>by
  rcases jY hv with⟨i,t,rfl,rfl⟩|⟨x,t,rfl,rfl⟩
  ·exact wpAny_pyHash_int h
  ·exact wpAny_pyHash_str h
 eqBool:=fun hu hv h=>by
  rcases jY hu with⟨i,t,rfl,rfl⟩|⟨x,t,rfl,rfl⟩
  ·rcases jY hv with⟨j,u,rfl,rfl⟩|⟨y,u,rfl,rfl⟩
   ·rw[a8N]at h;exact wpAny_eqBool_int h
   ·rw[a6T]at h;exact SeqAt.EqAt.int_str i t y u _ _ _ _ h
  ·rcases jY hv with⟨j,u,rfl,rfl⟩|⟨y,u,rfl,rfl⟩
   ·rw[a8k]at h;exact SeqAt.EqAt.str_int x t j u _ _ _ _ h
   ·rw[a44]at h;exact wpAny_eqBool_str h
 «strs» :=fun k x t v h=>by
  rcases jY h with⟨i,u,rfl,e⟩|⟨y,u,rfl,e⟩
  ·exact nomatch e
  ·injection e with e1 _
   subst e1
   cases v<;>rfl
theorem a6u(prog:Program)(w:World)(i:Int)(t:Tok):(fE prog w).is (.inl i) (.int i t)=true:=a5W i t
theorem a4N(prog:Program)(w:World)(x:Str)(t:Tok):(fE prog w).is (.inr x) (.str x t)=true:=a8h x t
inductive V where
 |non|bl(b:Bool)|int(i:Int)|str(x:Str)|byt(b:Array UInt8)|flt(b:UInt64)|ref(a:Addr)|ty(n:String)
 deriving DecidableEq
variable{xs vs ys cs zs cs' csh:List V}{y:V}{ns ns':List (Option V×List Int)}{kvs mk:List (aB×V)}
def aZ:V->Value->Prop
 | .non,u=>u=Value.none
 | .bl b,u=>u=Value.bool b
 | .int i,u=>∃t,u=Value.int i t
 | .str x,u=>∃t,u=Value.str x t
 | .byt b,u=>∃t,u=Value.bytes b t
 | .flt b,u=>∃t,u=Value.float b t
 | .ref a,u=>u=Value.ref a
 | .ty n,u=>u=Value.type n
abbrev aX:List V->List Value->Prop:=Paired aZ
theorem aX.length(r:aX xs us):xs.length=us.length:=Paired.length r
theorem aX.get:∀{xs:List V} {us:List Value} {i:Nat} {x:V},aX xs us->xs[i]?=some x->∃u,us[i]?=some u/\aZ x u
 |_,_,_,_,.nil,e=>by simp at e
 |_,_,0,_,.cons r _,e=>by simp at e;subst e;exact⟨_,rfl,r⟩
 |_,_,i+ 1,x,.cons _ t,e=>by
  obtain⟨u,h1,h2⟩:=aX.get (i:=i) (x:=x) t (by simpa using e)
  exact⟨u,by simpa using h1,h2⟩
theorem aX.set{x:V}{u:Value}(r:aZ x u):∀{xs:List V} {us:List Value} (i:Nat),aX xs us->aX (xs.set i x) (us.set i u)
 |_,_,_,.nil=> .nil
 |_,_,0,.cons _ t=> .cons r t
 |_,_,i+ 1,.cons q t=> .cons q (aX.set r i t)
theorem aX.append:∀{xs ys:List V} {us ws:List Value},aX xs us->aX ys ws->aX (xs++ ys) (us++ ws)
 |_,_,_,_,.nil,s=>s
 |_,_,_,_,.cons r t,s=> .cons r (aX.append t s)
theorem aX.take:∀{xs:List V} {us:List Value} (n:Nat),aX xs us->aX (xs.take n) (us.take n)
 |_,_,0,_=> .nil
 |_,_,_+ 1,.nil=> .nil
 |_,_,n+ 1,.cons r t=> .cons r (aX.take n t)
theorem aX.drop:∀{xs:List V} {us:List Value} (n:Nat),aX xs us->aX (xs.drop n) (us.drop n)
 |_,_,0,r=>r
 |_,_,_+ 1,.nil=> .nil
 |_,_,n+ 1,.cons _ t=>aX.drop n t
def fO:Option V->Option Value->Prop
 |some v,some u=>aZ v u
 |none,none=>True
 |_,_=>False
def KV{κ:Type}:List (κ×V)->List (κ×Value)->Prop:=Paired fun(p:κ×V) (q:κ×Value)=>p.1=q.1/\aZ p.2 q.2
def kV:aB->V
 | .inl i=> .int i
 | .inr x=> .str x
inductive HO where
 |lst(xs:List V)
 |tup(xs:List V)
 |dK(kvs:List (aB×V))|dT(kvs:List (List aB×V))
 |set(S:Int->Bool)(n:Nat)
 |ins(C dx:Addr)(fs:List (Str×V))
 |own(x:Addr)
 |xd(fs:List (Str×V))
 |met(f x:Addr)
 |rng(lo hi:Int)
 |frz(o:Obj)(u:HO)
 |tbl(ps:Array Value)
 |ext(φ:Heap->Prop)
abbrev Hp:=Addr->Option HO
noncomputable def upd (H:Hp) (a:Addr) (o:HO):Hp:=fun b=>if b=a then some o else H b
variable{H H' H1 H2 H0:Hp}{o:HO}{LL:Hp->Prop}
theorem aJ:upd H a o a=some o:=by unfold upd;rw[if_pos rfl]
theorem aG(h:b≠a):upd H a o b=H b:=by unfold upd;rw[if_neg h]
theorem jQ{u:HO}(h:H a=some o)(h':H b=some u)(d:o≠u):a≠b:=by
 intro e;subst e;rw[h]at h';exact d (Option.some.inj h')
theorem bE(h:H a=some o)(h':H b=none):a≠b:=by
 intro e;subst e;rw[h]at h';cases h'
section
variable(P:Program)(w:World)
def cO(H:Hp)(h:Heap)(a:Addr):HO->Prop
 | .lst xs=>xs.length<=sizeLine/\∃(its:List Value) (n:Nat),aX xs its/\h.get? a=some {cls:=.type "list",data:=.seq its.toArray n}
 | .tup xs=>xs.length<=sizeLine/\∃its:List Value,aX xs its/\IsTup h a its.toArray
 | .dK kvs=>kvs.length<=sizeLine/\(a==sysModules)=false/\∃vs,KV kvs vs/\h.DictOf (fE P w) a vs
 | .dT kvs=>kvs.length<=sizeLine/\(a==sysModules)=false/\∃xs:List (List aB×Addr×Value),
  Paired (fun(p:List aB×V) (q:List aB×Addr×Value)=>p.1=q.1/\H q.2.1=some (.tup (p.1.map kV))/\aZ p.2 q.2.2) kvs xs/\
  ∃o es ep,h.get? a=some o/\o.ExactDict/\o.data= .dict es ep/\es.toList=xs.map (entryOfKey (tupleKind (fE P w)))/\(xs.map (·.1)).Nodup
 | .set S n=>h.SetOf (intKind P w) a S n
 | .ins C dx fs=>H dx=some (.own a)/\fs.length<=1000/\dx≠a/\h.get? a=some (W.instObj C dx)/\
  ∃mA,h.Ns1 dx mA/\(∀f,fO (fs.lookup f) (mA f))/\PySem.Within mA (fs.map (·.1))
 | .own _=>∃o,h.get? a=some o
 | .xd fs=>∃mA,h.Ns1 a mA/\∀f,fO (fs.lookup f) (mA f)
 | .rng lo hi=>∃t u v,h.get? a=some {cls:=.type "range",data:=.fields #[.int lo t,.int hi u,.int 1 v]}
 | .frz o u=>h.get? a=some o/\cO H h a u
 | .tbl ps=>h.get? a=some {cls:=.none,data:=.fields ps}
 | .met f x=>h.get? a=some (W.methodObj (.ref f) (.ref x))
 | .ext φ=>φ h/\(∃o,h.get? a=some o)/\∀h1 h2:Heap,φ h1->(∀o,h1.get? a=some o->h2.get? a=some o)->φ h2
def bX(H:Hp)(h:Heap):Prop:=∀a o,H a=some o->cO P w H h a o
end
section
theorem cO.lt(x:cO P w H h a o):a<h.objs.size:=by
 cases o with
 |lst xs=>obtain⟨_,_,_,_,e⟩:=x;exact Heap.lt_size e
 |tup xs=>obtain⟨_,_,_,p⟩:=x;exact p.lt
 |dK kvs=>obtain⟨_,_,_,_,o,_,_,e,_⟩:=x;exact Heap.lt_size e
 |dT kvs=>obtain⟨_,_,_,_,o,_,_,e,_⟩:=x;exact Heap.lt_size e
 |set S n=>obtain⟨o,_,_,_,e,_⟩:=x;exact Heap.lt_size e
 |ins C dx fs=>obtain⟨_,_,_,e,_⟩:=x;exact Heap.lt_size e
 |own y=>obtain⟨_,e⟩:=x;exact Heap.lt_size e
 |xd fs=>obtain⟨_,⟨_,_,_,e,_⟩,_⟩:=x;exact Heap.lt_size e
 |rng lo hi=>obtain⟨_,_,_,e⟩:=x;exact Heap.lt_size e
 |frz ob u=>obtain⟨e,_⟩:=x;exact Heap.lt_size e
 |tbl ps=>exact Heap.lt_size (show h.get? a=some _ from x)
 |met f y=>exact Heap.lt_size (show h.get? a=some _ from x)
 |ext φ=>obtain⟨_,⟨_,e⟩,_⟩:=x;exact Heap.lt_size e
theorem Paired.mapP{α β:Type}{F G:α->β->Prop}:∀{l₁:List α} {l₂:List β},Paired F l₁ l₂->(∀a b,F a b->G a b)->Paired G l₁ l₂
 |_,_,.nil,_=> .nil
 |_,_,.cons r t,f=> .cons (f _ _ r) (Paired.mapP t f)
theorem cO.stay(x:cO P w H h a o)(k:∀b u,(b=a\/ H b=some (.own a))->h.get? b=some u->h'.get? b=some u)
 (ho:∀b,H b=some (.own a)->H' b=some (.own a))(ht:∀b xs,H b=some (.tup xs)->H' b=some (.tup xs)):cO P w H' h' a o:=by
 induction o with
 |lst xs=>obtain⟨z,its,n,r,e⟩:=x;exact⟨z,its,n,r,k _ _ (.inl rfl) e⟩
 |tup xs=>obtain⟨z,its,r,ob,e,c⟩:=x;exact⟨z,its,r,ob,k _ _ (.inl rfl) e,c⟩
 |dK kvs=>obtain⟨z,y,vs,r,ob,es,ep,e,c⟩:=x;exact⟨z,y,vs,r,ob,es,ep,k _ _ (.inl rfl) e,c⟩
 |dT kvs=>
  obtain⟨z,y,xs,r,ob,es,ep,e,c⟩:=x
  exact⟨z,y,xs,Paired.mapP r fun p q z=>⟨z.1,ht _ _ z.2.1,z.2.2⟩,ob,es,ep,k _ _ (.inl rfl) e,c⟩
 |set S n=>obtain⟨ob,es,ep,t,e,c⟩:=x;exact⟨ob,es,ep,t,k _ _ (.inl rfl) e,c⟩
 |ins C dx fs=>
  obtain⟨d,z,ne,e,mA,⟨od,es,ep,e2,c⟩,r⟩:=x
  exact⟨ho _ d,z,ne,k _ _ (.inl rfl) e,mA,⟨od,es,ep,k _ _ (.inr d) e2,c⟩,r⟩
 |own y=>obtain⟨ob,e⟩:=x;exact⟨ob,k _ _ (.inl rfl) e⟩
 |xd fs=>obtain⟨mA,⟨od,es,ep,e,c⟩,r⟩:=x;exact⟨mA,⟨od,es,ep,k _ _ (.inl rfl) e,c⟩,r⟩
 |rng lo hi=>obtain⟨t,u,v,e⟩:=x;exact⟨t,u,v,k _ _ (.inl rfl) e⟩
 |frz ob u ih=>obtain⟨e,q⟩:=x;exact⟨k _ _ (.inl rfl) e,ih q⟩
 |tbl ps=>
  have e:h.get? a=some {cls:=.none,data:=.fields ps}:=x
  show h'.get? a=some {cls:=.none,data:=.fields ps}
  exact k a _ (.inl rfl) e
 |met f y=>
  have e:h.get? a=some (W.methodObj (.ref f) (.ref y)):=x
  show h'.get? a=some (W.methodObj (.ref f) (.ref y))
  exact k a _ (.inl rfl) e
 |ext φ=>obtain⟨p,⟨o,e⟩,st⟩:=x;exact⟨st _ _ p fun o q=>k _ _ (.inl rfl) q,⟨o,k _ _ (.inl rfl) e⟩,st⟩
theorem bX.lt(x:bX P w H h)(e:H a=some o):a<h.objs.size:=(x a o e).lt
theorem bX.fresh(x:bX P w H h)(e:h.objs.size<=a):H a=none:=by
 cases q:H a with
 |none=>rfl
 |some u=>exact absurd (Nat.lt_of_lt_of_le (x.lt q) e) (Nat.lt_irrefl _)
theorem bX.kept(x:bX P w H h)(k:∀b u,h.get? b=some u->h'.get? b=some u):bX P w H h':=fun a o e=>
 (x a o e).stay (fun b u _ q=>k b u q) (fun _ q=>q) fun _ _ q=>q
theorem bX.laid(x:bX P w H h)(k:∀b u,h.get? b=some u->h'.get? b=some u)(hp:h.objs.size<=a)(new:cO P w (upd H a o) h' a o):bX P w (upd H a o) h':=fun b u e=>by
 have hn:=x.fresh hp
 by_cases hb:b=a
 ·subst hb;rw[aJ]at e;cases e;exact new
 ·rw[aG hb]at e
  exact(x b u e).stay (fun c v _ q=>k c v q) (fun c q=>by rw[aG (bE q hn)];exact q) fun c xs q=>by rw[aG (bE q hn)];exact q
end
def Rd(H:Hp)(a:Addr)(u:HO):Prop:=H a=some u\/ ∃o,H a=some (.frz o u)
theorem Rd.ok{u:HO}(r:Rd H a u)(x:bX P w H h):cO P w H h a u:=by
 rcases r with r|⟨o,r⟩
 ·exact x a u r
 ·obtain⟨_,q⟩:=x a _ r
  exact q
def rF:Option HO->Prop
 |some (.lst _)=>True
 |some (.dK _)=>True
 |some (.dT _)=>True
 |some (.set _ _)=>True
 |some (.ins _ _ _)=>True
 |some (.ext _)=>True
 |_=>False
section
variable{x e:Addr}{o':HO}
theorem bX.write(ok:bX P w H h)(mu:rF (H x))(he:e=x\/ H e=some (.own x))(k:∀b u,b≠e->h.get? b=some u->h'.get? b=some u)(heo:∃u,h'.get? e=some u)
 (new:cO P w (upd H x o') h' x o'):bX P w (upd H x o') h':=fun b u q=>by
 have nown:∀c y,H c=some (.own y)->c≠x:=fun c y r z=>by subst z;rw[r]at mu;exact mu
 have ntup:∀c xs,H c=some (.tup xs)->c≠x:=fun c xs r z=>by subst z;rw[r]at mu;exact mu
 by_cases hb:b=x
 ·subst hb;rw[aJ]at q;cases q;exact new
 ·rw[aG hb]at q
  by_cases hbe:b=e
  ·have q':H b=some (.own x):=by
    rcases he with z|z
    ·exact absurd (hbe.trans z) hb
    ·rw[hbe];exact z
   rw[q]at q';cases q'
   obtain⟨v,hv⟩:=heo
   exact⟨v,by rw[hbe];exact hv⟩
  ·refine(ok b u q).stay (fun c v hc r=>k c v ?_ r) (fun c r=>by rw[aG (nown c b r)];exact r) fun c xs r=>by rw[aG (ntup c xs r)];exact r
   rcases hc with rfl|hc
   ·exact hbe
   ·rintro rfl
    rcases he with z|z
    ·exact nown c b hc z
    ·rw[hc]at z;cases z;exact hb rfl
end
structure Un(fs ex:List Addr)(H H':Hp)(h h':Heap):Prop where
 keep:∀b o,h.get? b=some o->H b=none->b∉fs->b∉ex->h'.get? b=some o
 slot:∀b o,h.get? b=some o->H b=none->b∈fs->b∉ex->∃sl,h'.get? b=some {o with slots:=sl}
 free:∀b o,h.get? b=some o->H b=none->b∉ex->H' b=none
 there:∀b o,h.get? b=some o->b∉ex->∃o',h'.get? b=some o'
 tups:∀b xs,H b=some (.tup xs)->H' b=some (.tup xs)
 frzs:∀b o u,H b=some (.frz o u)->H' b=some (.frz o u)
 tbls:∀b ps,H b=some (.tbl ps)->∃more,H' b=some (.tbl (ps++ more))
section
variable{fs fs' ex ex':List Addr}{h1 h2:Heap}{x e:Addr}
theorem Un.any(u:Un fs ex H H1 h h1){ob:Obj}(q:h.get? b=some ob)(n:H b=none)(hx:b∉ex):∃sl,h1.get? b=some {ob with slots:=sl}:=by
 by_cases hb:b∈fs
 ·exact u.slot b ob q n hb hx
 ·exact⟨ob.slots,u.keep b ob q n hb hx⟩
theorem Un.kept(k:∀b u,h.get? b=some u->h'.get? b=some u):Un fs ex H H h h':=
 ⟨fun b ob q _ _ _=>k b ob q,fun b ob q _ _ _=>⟨ob.slots,k b ob q⟩,fun _ _ _ n _=>n,fun b ob q _=>⟨ob,k b ob q⟩,fun _ _ q=>q,fun _ _ _ q=>q,fun _ ps q=>⟨#[],by rw[q];simp⟩⟩
theorem Un.refl:Un fs ex H H h h:=Un.kept fun _ _ q=>q
theorem Un.laid(k:∀b u,h.get? b=some u->h'.get? b=some u)(hp:h.objs.size<=a)(hn:H a=none):Un fs ex H (upd H a o) h h' where
 keep:=fun b u q _ _ _=>k b u q
 slot:=fun b u q _ _ _=>⟨u.slots,k b u q⟩
 free:=fun b u q n _=>by rw[aG (Nat.ne_of_lt (Nat.lt_of_lt_of_le (Heap.lt_size q) hp))];exact n
 there:=fun b u q _=>⟨u,k b u q⟩
 tups:=fun b xs q=>by rw[aG (bE q hn)];exact q
 frzs:=fun b u xs q=>by rw[aG (bE q hn)];exact q
 tbls:=fun b ps q=>⟨#[],by rw[aG (bE q hn),q];simp⟩
theorem Un.write(mu:rF (H x))(he:e=x\/ H e=some (.own x))(k:∀b u,b≠e->h.get? b=some u->h'.get? b=some u)(heo:∃u,h'.get? e=some u):Un fs ex H (upd H x o) h h':=by
 have hx:∀b,H b=none->b≠x:=fun b n z=>by subst z;rw[n]at mu;exact mu
 have hb:∀b,H b=none->b≠e:=fun b n z=>by
  subst z
  rcases he with r|r
  ·exact hx b n r
  ·rw[n]at r;cases r
 have hm:∀b u,H b=some u->¬rF (some u)->b≠x:=fun b u q nm z=>by subst z;rw[q]at mu;exact nm mu
 refine⟨fun b u q n _ _=>k b u (hb b n) q,fun b u q n _ _=>⟨u.slots,k b u (hb b n) q⟩,fun b u q n _=>by rw[aG (hx b n)];exact n,fun b u q _=> ?_,
  fun b xs q=>by rw[aG (hm b _ q fun z=>z)];exact q,fun b u xs q=>by rw[aG (hm b _ q fun z=>z)];exact q,fun b ps q=>⟨#[],by rw[aG (hm b _ q fun z=>z),q];simp⟩⟩
 by_cases hbe:b=e
 ·subst hbe;exact heo
 ·exact⟨u,k b u hbe q⟩
end
noncomputable def tZ (h:Heap) (H:Hp):List Addr:=(List.range h.objs.size).filter fun a=>(H a).isSome
noncomputable def kE (h:Heap) (H:Hp):Heap:=W.hideAll h (tZ h H)
theorem a8i(h:Heap)(H:Hp):(kE h H).objs.size=h.objs.size:=W.hideAll_size _ _
theorem a6I{o:Obj}(e:h.get? b=some o)(n:H b=none):(kE h H).get? b=some o:=
 W.hideAll_get _ e fun hm=>by
  have q:(H b).isSome=true:=(List.mem_filter.mp hm).2
  rw[n]at q;simp at q
theorem a4Y{o:Obj}(e:(kE h H).get? b=some o):h.get? b=some o/\H b=none:=by
 have e':h.get? b=some o:=W.of_hideAll (tZ h H) e
 refine⟨e',?_⟩
 cases q:H b with
 |none=>rfl
 |some x=>
  have hm:b∈tZ h H:=List.mem_filter.mpr ⟨List.mem_range.mpr (Heap.lt_size e'),by simp[q]⟩
  have z:(kE h H).get? b=none:=W.hideAll_none (tZ h H) hm
  rw[z]at e;cases e
noncomputable def a7H (g h:Heap) (L:Addr):List (Addr×Obj):=(List.range h.objs.size).filterMap fun a=>if a=L\/ (g.get? a).isSome=true then none else(h.get? a).map fun o=>(a,o)
noncomputable def cJ (g h:Heap) (L d:Addr):List (Addr×Obj):=(a7H g h L).filter fun p=>decide (p.1≠d)
structure Mod(K:Fg)(mg:Str->Option Value)(base:Heap):Prop where
 kin:K.In base
 glob:base.Ns mainGlobals mg
 blt:∃mb,base.Ns builtinsNs mb/\∀x:Str,x≠ "__name__" ->mb x=bootBuiltins x
 nolimit:base.NoLimit
structure Cx where
 prog:Program
 w:World
 K:Fg
 mg:Str->Option Value
 base:Heap
 A:Around
 N:List Str
 s₀:Shared
 H₀:Hp
 env:Env
 outer:List Env
 stack:List Env
 ex:List Addr
 fn:Str->Bool
 calm:Bool
 pn:List (Addr×Obj)
 xe:Value->Shared->Prop
variable{X:Cx}
def fN(l:List Env):List Addr:=l.filterMap (·.frame)
abbrev Cx.fs(X:Cx):List Addr:=fN X.outer
def vA(sc:Scope)(x:Str):Prop:=sc.names.lookup x=some .local\/ sc.names.lookup x=some .cell\/ sc.names.lookup x=some .free
def vP(sc:Scope)(x:Str):Prop:=sc.names.lookup x=some .local\/ sc.names.lookup x=some .cell
def Look(env:Env)(h:Heap)(m:Str->Option Value)(x:Str)(u:Value):Prop:=
 (env.kindOf x=some .local/\m x=some u)\/ ((env.kindOf x=some .cell\/ env.kindOf x=some .free)/\∃c,env.cells.lookup x=some c/\h.IsCell c (some u))
structure Cx.Ok(X:Cx):Prop where
 mod:Mod X.K X.mg X.base
 kind:X.env.scope.kind= .function
 glob:X.env.globals=mainGlobals
 blt:X.env.builtins=builtinsNs
 above:X.s₀.heap.objs.size<=X.env.locals
 inj:∀x y c,X.env.cells.lookup x=some c->X.env.cells.lookup y=some c->x=y
 has:∀x,(X.env.kindOf x=some .cell\/ X.env.kindOf x=some .free)->∃c,X.env.cells.lookup x=some c
 cab:∀x c,X.fn x=true->X.env.cells.lookup x=some c->X.s₀.heap.objs.size<=c
 hd:X.calm=true->X.A.handled=none
 frames:X.A.frames=some X.stack
 stk:X.stack=X.outer\/ (X.stack=X.env::X.outer/\X.env.frame=some X.env.locals)
 exf:∀b∈X.ex,b≠X.env.locals/\∀x c,X.env.cells.lookup x=some c->c≠b
 bs:∀b o,X.base.get? b=some o->X.s₀.heap.get? b=some o/\X.H₀ b=none
 bsz:X.base.objs.size<=X.s₀.heap.objs.size
 noex:∀b o,X.base.get? b=some o->b∉X.ex
 exfs:∀b∈X.ex,b∉X.fs
 funs:X.s₀.heap.FunFrames X.base X.outer
 frf:∀b∈X.fs,X.H₀ b=none
structure aD(X:Cx)(pins:List (Addr×Obj))(σ:List (Option V))(H:Hp)(s:Shared):Prop where
 ok:X.Ok
 os:s.os=X.s₀.os
 bare:AllBare s.gens
 base:Un X.fs X.ex X.H₀ H X.s₀.heap s.heap
 loc:∃m,s.heap.Ns X.env.locals m/\∀(i:Nat) (x:Str) (v:V),X.N[i]?=some x->σ[i]?=some (some v)->vA X.env.scope x->∃u,aZ v u/\Look X.env s.heap m x u
 cell:∀x c,X.env.cells.lookup x=some c->∃v,s.heap.IsCell c v
 free:H X.env.locals=none
 freeC:∀x c,X.env.cells.lookup x=some c->H c=none
 pin:∀p∈X.pn++ pins,s.heap.get? p.1=some p.2/\H p.1=none/\p.1≠X.env.locals/\p.1∉X.fs/\∀v,p.2.data≠ .cell v
 hok:bX X.prog X.w H s.heap
 len:σ.length=X.N.length
section
variable{σ:List (Option V)}
theorem Cx.Ok.nofr(ok:X.Ok){o:Obj}(e:X.base.get? b=some o):b∉X.fs:=fun hb=>by
 have:=(ok.funs.mem hb).1
 rw[e]at this;cases this
theorem aD.bs(I:aD X pins σ H s):∀b o,X.base.get? b=some o->s.heap.get? b=some o/\H b=none:=fun b o e=>
 ⟨I.base.keep b o (I.ok.bs b o e).1 (I.ok.bs b o e).2 (I.ok.nofr e) (I.ok.noex b o e),I.base.free b o (I.ok.bs b o e).1 (I.ok.bs b o e).2 (I.ok.noex b o e)⟩
theorem aD.bk(I:aD X pins σ H s):∀b o,X.base.get? b=some o->s.heap.get? b=some o:=fun b o e=>(I.bs b o e).1
theorem aD.mod(I:aD X pins σ H s):Mod X.K X.mg X.base:=I.ok.mod
theorem aD.kIn(I:aD X pins σ H s):X.K.In s.heap:=I.ok.mod.kin.keeps I.bk
theorem aD.lt(I:aD X pins σ H s):X.env.locals<s.heap.objs.size:=let ⟨_,hn,_⟩:=I.loc;hn.lt
theorem aD.sz(I:aD X pins σ H s):X.s₀.heap.objs.size<=s.heap.objs.size:=Nat.le_trans I.ok.above (Nat.le_of_lt I.lt)
theorem aD.nofs(I:aD X pins σ H s)(h:s.heap.objs.size<=a):a∉X.fs:=fun hb=>by
 obtain⟨_,o,ho,_⟩:=I.ok.funs.mem hb
 exact absurd (Nat.lt_of_lt_of_le (Heap.lt_size ho) (Nat.le_trans I.sz h)) (Nat.lt_irrefl _)
theorem aD.cne(I:aD X pins σ H s):∀x c,X.env.cells.lookup x=some c->c≠X.env.locals:=fun x c e z=>by
 obtain⟨v,o,ho,hd⟩:=I.cell x c e
 obtain⟨m,⟨o',es,ep,ho',hd',_⟩,_⟩:=I.loc
 rw[z,ho']at ho;cases ho;rw[hd']at hd;cases hd
theorem aD.funs(I:aD X pins σ H s):s.heap.FunFrames X.base X.outer:=by
 have all:∀(l:List Env),(∀b∈fN l,b∈X.fs)->X.s₀.heap.FunFrames X.base l->s.heap.FunFrames X.base l:=by
  intro l
  induction l with
  |nil=>intro _ _;trivial
  |cons env r ih=>
   intro hs hl
   obtain⟨hk,⟨L,o,hf,hn,ho,hd⟩,hr⟩:=hl
   have hL:L∈X.fs:=hs L (by unfold fN;rw[List.filterMap_cons,hf];exact List.mem_cons_self)
   obtain⟨sl,e⟩:=I.base.slot L o ho (I.ok.frf L hL) hL fun z=>I.ok.exfs L z hL
   exact⟨hk,⟨L,_,hf,hn,e,hd⟩,ih (fun b hb=>hs b (by unfold fN;rw[List.filterMap_cons,hf];exact List.mem_cons_of_mem _ hb)) hr⟩
 exact all X.outer (fun _ hb=>hb) I.ok.funs
theorem aD.stack(I:aD X pins σ H s):s.heap.FunFrames X.base X.stack:=by
 rcases I.ok.stk with e|⟨e,hf⟩
 ·rw[e];exact I.funs
 ·rw[e]
  obtain⟨m,hn,_⟩:=I.loc
  refine .cons (by rw[I.ok.kind];decide) hf hn ?_ I.funs
  exact Heap.get?_none_of_le (Nat.le_trans I.ok.bsz I.ok.above)
theorem aD.stkSub(I:aD X pins σ H s):∀b∈fN X.stack,b∈X.env.locals::X.fs:=fun b hb=>by
 rcases I.ok.stk with e|⟨e,hf⟩
 ·rw[e]at hb;exact List.mem_cons_of_mem _ hb
 ·rw[e]at hb
  unfold fN at hb
  rw[List.filterMap_cons,hf]at hb
  exact hb
theorem aD.stkFree(I:aD X pins σ H s):∀b∈fN X.stack,H b=none:=fun b hb=>by
 rcases List.mem_cons.mp (I.stkSub b hb)with e|hb
 ·rw[e];exact I.free
 ·obtain⟨_,o,ho,_⟩:=I.ok.funs.mem hb
  exact I.base.free b o ho (I.ok.frf b hb) fun z=>I.ok.exfs b z hb
theorem aD.step{g':Array GenState}{t':Nat}{d':Drawn}{ch:List Addr}(I:aD X pins σ H s)
 (hch:∀b∈ch,(b∈X.ex\/ X.s₀.heap.objs.size<=b)/\b≠X.env.locals/\(∀x c,X.env.cells.lookup x=some c->c≠b)/\∀p∈X.pn++ pins,p.1≠b)
 (keep:∀b o,b≠X.env.locals->b∉X.fs->b∉ch->s.heap.get? b=some o->H b=none->h'.get? b=some o)
 (slot:∀b o,b≠X.env.locals->b∈X.fs->b∉ch->s.heap.get? b=some o->H b=none->∃sl,h'.get? b=some {o with slots:=sl})(free:∀b o,b∉ch->s.heap.get? b=some o->H b=none->H' b=none)
 (there:∀b o,b∉ch->s.heap.get? b=some o->∃o',h'.get? b=some o')
 (tups:∀b xs,H b=some (.tup xs)->H' b=some (.tup xs))(frzs:∀b o u,H b=some (.frz o u)->H' b=some (.frz o u))(tbls:∀b ps,H b=some (.tbl ps)->∃more,H' b=some (.tbl (ps++ more)))
 (ns:∀m,s.heap.Ns X.env.locals m->h'.Ns X.env.locals m)(hok:bX X.prog X.w H' h')(hg:AllBare g'):
 aD X pins σ H' {s with heap:=h',gens:=g',drawn:=d',toks:=t'}:=by
 have neL:∀b o,X.s₀.heap.get? b=some o->b≠X.env.locals:=fun b o e=>Nat.ne_of_lt (Nat.lt_of_lt_of_le (Heap.lt_size e) I.ok.above)
 have neC:∀b o,X.s₀.heap.get? b=some o->b∉X.ex->b∉ch:=fun b o e hx hb=>by
  rcases(hch b hb).1 with z|z
  ·exact hx z
  ·exact absurd (Nat.lt_of_lt_of_le (Heap.lt_size e) z) (Nat.lt_irrefl _)
 have bF:∀x c,X.env.cells.lookup x=some c->∀v,s.heap.IsCell c v->h'.IsCell c v:=fun x c e v ⟨o,ho,hd⟩=>by
  have nch:c∉ch:=fun z=>(hch c z).2.2.1 x c e rfl
  by_cases hc:c∈X.fs
  ·obtain⟨sl,q⟩:=slot c o (I.cne x c e) hc nch ho (I.freeC x c e)
   exact⟨_,q,hd⟩
  ·exact⟨o,keep c o (I.cne x c e) hc nch ho (I.freeC x c e),hd⟩
 refine⟨I.ok,I.os,hg,⟨fun b o e n hb hx=> ?_,fun b o e n hb hx=> ?_,fun b o e n hx=> ?_,fun b o e hx=> ?_,fun b xs e=>tups b xs (I.base.tups b xs e),fun b o xs e=>frzs b o xs (I.base.frzs b o xs e),fun b ps e=> ?_⟩,?_,fun x c e=> ?_,?_,fun x c e=> ?_,fun p hp=> ?_,hok,I.len⟩
 ·exact keep b o (neL b o e) hb (neC b o e hx) (I.base.keep b o e n hb hx) (I.base.free b o e n hx)
 ·obtain⟨sl,e1⟩:=I.base.slot b o e n hb hx
  obtain⟨sl',e2⟩:=slot b _ (neL b o e) hb (neC b o e hx) e1 (I.base.free b o e n hx)
  exact⟨sl',e2⟩
 ·obtain⟨o',e1⟩:=I.base.there b o e hx
  exact free b o' (neC b o e hx) e1 (I.base.free b o e n hx)
 ·obtain⟨o',e1⟩:=I.base.there b o e hx
  exact there b o' (neC b o e hx) e1
 ·obtain⟨m1,e1⟩:=I.base.tbls b ps e
  obtain⟨m2,e2⟩:=tbls b _ e1
  exact⟨m1++ m2,by rw[e2,Array.append_assoc]⟩
 ·obtain⟨m,hn,hl⟩:=I.loc
  refine⟨m,ns m hn,fun i x v e1 e2 e3=> ?_⟩
  obtain⟨u,r,l⟩:=hl i x v e1 e2 e3
  refine⟨u,r,?_⟩
  rcases l with l|⟨k,c,e,z⟩
  ·exact .inl l
  ·exact .inr ⟨k,c,e,bF x c e _ z⟩
 ·obtain⟨v,z⟩:=I.cell x c e
  exact⟨v,bF x c e v z⟩
 ·obtain⟨m,⟨o,_,_,ho,_⟩,_⟩:=I.loc
  exact free _ o (fun z=>(hch _ z).2.1 rfl) ho I.free
 ·obtain⟨v,o,ho,hd⟩:=I.cell x c e
  exact free c o (fun z=>(hch c z).2.2.1 x c e rfl) ho (I.freeC x c e)
 ·obtain⟨e,n,ne,nf,d⟩:=I.pin p hp
  have nch:p.1∉ch:=fun z=>(hch p.1 z).2.2.2 p hp rfl
  exact⟨keep p.1 p.2 ne nf nch e n,free p.1 p.2 nch e n,ne,nf,d⟩
theorem aD.un{t':Nat}(I:aD X pins σ H s)(u:Un X.fs [] H H' s.heap h')(hok:bX X.prog X.w H' h'):aD X pins σ H' {s with heap:=h',toks:=t'}:=by
 obtain⟨m,⟨o,es,ep,ho,r⟩,_⟩:=id I.loc
 obtain⟨sl,hL⟩:=u.any ho I.free (by simp)
 exact I.step (g':=s.gens) (d':=s.drawn) (ch:=[]) (fun _ z=>nomatch z) (fun b o _ hb _ e n=>u.keep b o e n hb (by simp)) (fun b o _ hb _ e n=>u.slot b o e n hb (by simp)) (fun b o _ e n=>u.free b o e n (by simp)) (fun b o _ e=>u.there b o e (by simp)) u.tups u.frzs u.tbls (fun m' hm=>by
  obtain⟨o',es',ep',ho',r'⟩:=hm
  rw[ho]at ho';cases ho'
  exact⟨_,es',ep',hL,r'⟩) hok I.bare
theorem aD.call{g':Array GenState}{t':Nat}{d':Drawn}{ch:List Addr}(I:aD X pins σ H s)(u:Un (fN X.stack) ch H H' s.heap h')(hok:bX X.prog X.w H' h')(hg:AllBare g')
 (hch:∀b∈ch,(b∈X.ex\/ X.s₀.heap.objs.size<=b)/\b≠X.env.locals/\(∀x c,X.env.cells.lookup x=some c->c≠b)/\∀p∈X.pn++ pins,p.1≠b):
 aD X pins σ H' {s with heap:=h',gens:=g',drawn:=d',toks:=t'}:=by
 obtain⟨m,⟨o,es,ep,ho,r⟩,_⟩:=id I.loc
 obtain⟨sl,hL⟩:=u.any ho I.free fun z=>(hch _ z).2.1 rfl
 exact I.step (ch:=ch) hch (fun b o hL hb hc e n=>u.keep b o e n (fun z=>(List.mem_cons.mp (I.stkSub b z)).elim hL hb) hc) (fun b o _ _ hc e n=>u.any e n hc) (fun b o hc e n=>u.free b o e n hc) (fun b o hc e=>u.there b o e hc) u.tups u.frzs u.tbls (fun m' hm=>by
  obtain⟨o',es',ep',ho',r'⟩:=hm
  rw[ho]at ho';cases ho'
  exact⟨_,es',ep',hL,r'⟩) hok hg
theorem aD.turned{t':Nat}{it:Addr}(I:aD X pins σ H s)(k:∀b o,b≠it->s.heap.get? b=some o->h'.get? b=some o)(hn:H it=none)(hL:it≠X.env.locals)
 (h1:it∈X.ex\/ X.s₀.heap.objs.size<=it)(h2:∀x c,X.env.cells.lookup x=some c->c≠it)(h3:∀p∈X.pn++ pins,p.1≠it):aD X pins σ H {s with heap:=h',toks:=t'}:=by
 have nit:∀b u,H b=some u->b≠it:=fun b u e z=>by rw[z,hn]at e;cases e
 refine I.step (g':=s.gens) (d':=s.drawn) (ch:=[it]) (fun b hb=> ?_) (fun b o _ _ hc e _=>k b o (fun z=>hc (by simp[z])) e) (fun b o _ _ hc e _=>⟨o.slots,k b o (fun z=>hc (by simp[z])) e⟩) (fun _ _ _ _ n=>n)
  (fun b o hc e=>⟨o,k b o (fun z=>hc (by simp[z])) e⟩) (fun _ _ e=>e) (fun _ _ _ e=>e) (fun b ps e=>⟨#[],by rw[e];simp⟩) (fun m hm=> ?_) (fun b u e=> ?_) I.bare
 ·have e:b=it:=by simpa using hb
  subst e
  exact⟨h1,hL,h2,h3⟩
 ·obtain⟨o,es,ep,ho,r⟩:=hm
  exact⟨o,es,ep,k _ o (Ne.symm hL) ho,r⟩
 ·refine(I.hok b u e).stay (fun c v hc q=>k c v ?_ q) (fun _ q=>q) fun _ _ q=>q
  rcases hc with z|z
  ·rw[z];exact nit b u e
  ·exact nit c _ z
theorem aD.tok(I:aD X pins σ H s)(t:Nat):aD X pins σ H {s with toks:=t}:=I.un (h':=s.heap) (t':=t) Un.refl I.hok
theorem aD.kept{t':Nat}(I:aD X pins σ H s)(k:∀b u,s.heap.get? b=some u->h'.get? b=some u):aD X pins σ H {s with heap:=h',toks:=t'}:=I.un (Un.kept k) (I.hok.kept k)
theorem aD.laid{t':Nat}(I:aD X pins σ H s)(k:∀b u,s.heap.get? b=some u->h'.get? b=some u)(hp:s.heap.objs.size<=a)(new:cO X.prog X.w (upd H a o) h' a o):
 aD X pins σ (upd H a o) {s with heap:=h',toks:=t'}:=I.un (Un.laid k hp (I.hok.fresh hp)) (I.hok.laid k hp new)
theorem aD.write{x e:Addr}{t':Nat}(I:aD X pins σ H s)(mu:rF (H x))(he:e=x\/ H e=some (.own x))(k:∀b u,b≠e->s.heap.get? b=some u->h'.get? b=some u)(heo:∃u,h'.get? e=some u)
 (new:cO X.prog X.w (upd H x o) h' x o):aD X pins σ (upd H x o) {s with heap:=h',toks:=t'}:=I.un (Un.write mu he k heo) (I.hok.write mu he k heo new)
theorem aD.pins_of{pins':List (Addr×Obj)}(I:aD X pins σ H s)(h:∀p∈pins',s.heap.get? p.1=some p.2/\H p.1=none/\p.1≠X.env.locals/\p.1∉X.fs/\∀v,p.2.data≠ .cell v):aD X pins' σ H s:=
 ⟨I.ok,I.os,I.bare,I.base,I.loc,I.cell,I.free,I.freeC,fun p hp=>(List.mem_append.mp hp).elim (fun z=>I.pin p (List.mem_append_left _ z)) (h p),I.hok,I.len⟩
theorem a1I(hN:N.Nodup)(a:N[i]?=some x)(b:N[j]?=some x):i=j:=by
 obtain⟨h1,e1⟩:=List.getElem?_eq_some_iff.mp a
 obtain⟨h2,e2⟩:=List.getElem?_eq_some_iff.mp b
 exact(List.getElem_inj hN).mp (e1.trans e2.symm)
theorem a3n{M:Model}{v:V}{Q:Unit->Shared->Prop}(I:aD X pins σ H s)(hN:X.N.Nodup)(hi:X.N[i]?=some x)(hx:vP X.env.scope x)(r:aZ v u)
 (h:∀s',aD X pins (σ.set i (some v)) H s'->(∃a,Heap.SameBut a s.heap s'.heap/\(a=X.env.locals\/ X.env.cells.lookup x=some a))->Q () s')(hf:X.fn x=true\/ X.env.scope.names.lookup x=some .local:=by first|exact .inl rfl|exact .inr rfl|assumption):wpAny M A (storeName X.env x u) Q E s:=by
 obtain⟨m,hn,hl⟩:=id I.loc
 have hcls:(X.env.scope.kind== .class||(X.env.scope.kind== .module&&X.env.locals !=X.env.globals))=false:=by rw[I.ok.kind];rfl
 have hiσ:i<σ.length:=by rw[I.len];exact(List.getElem?_eq_some_iff.mp hi).1
 have cne:=I.cne
 have tracked:∀{a:Addr} {h':Heap},(∃o,s.heap.get? a=some o/\H a=none)->Heap.SameBut a s.heap h'->bX X.prog X.w H h':=fun{a h'} ha hs b ob e=>by
  obtain⟨_,_,hfree⟩:=ha
  refine(I.hok b ob e).stay (fun c w' hc q=>(hs.2 c ?_).trans q) (fun _ q=>q) fun _ _ q=>q
  rintro rfl
  rcases hc with rfl|hc
  ·rw[hfree]at e;cases e
  ·rw[hfree]at hc;cases hc
 rcases hx with hk|hk
 ·refine wpAny_storeName_local hk hn (fun h' hn' hs=> ?_) hcls
  obtain⟨oL,_,_,hoL,_⟩:=id hn
  refine h _ ⟨I.ok,I.os,I.bare,⟨fun b o e n hb hx=> ?_,fun b o e n hb hx=> ?_,I.base.free,fun b o e hx=> ?_,I.base.tups,I.base.frzs,I.base.tbls⟩,⟨_,hn',fun j y v' e1 e2 e3=> ?_⟩,fun y c e=> ?_,I.free,I.freeC,fun p hp=> ?_,tracked ⟨oL,hoL,I.free⟩ hs,by simpa using I.len⟩ ⟨_,hs,.inl rfl⟩
  ·exact(hs.2 b (Nat.ne_of_lt (Nat.lt_of_lt_of_le (Heap.lt_size e) I.ok.above))).trans (I.base.keep b o e n hb hx)
  ·obtain⟨sl,e1⟩:=I.base.slot b o e n hb hx
   exact⟨sl,(hs.2 b (Nat.ne_of_lt (Nat.lt_of_lt_of_le (Heap.lt_size e) I.ok.above))).trans e1⟩
  ·obtain⟨o',e1⟩:=I.base.there b o e hx
   exact⟨o',(hs.2 b (Nat.ne_of_lt (Nat.lt_of_lt_of_le (Heap.lt_size e) I.ok.above))).trans e1⟩
  ·by_cases hj:j=i
   ·subst hj
    rw[hi]at e1;cases e1
    rw[List.getElem?_set_self hiσ]at e2
    cases e2
    exact⟨u,r,.inl ⟨hk,by simp⟩⟩
   ·rw[List.getElem?_set_ne (Ne.symm hj)]at e2
    obtain⟨u',r',q⟩:=hl j y v' e1 e2 e3
    refine⟨u',r',?_⟩
    rcases q with⟨k,e⟩|⟨k,c,e,z⟩
    ·refine .inl ⟨k,?_⟩
     have:y≠x:=fun e=>hj (a1I hN e1 (e▸hi))
     simp[this,e]
    ·exact .inr ⟨k,c,e,z.sameBut hs (cne y c e)⟩
  ·obtain⟨w',z⟩:=I.cell y c e
   exact⟨w',z.sameBut hs (cne y c e)⟩
  ·obtain⟨e,n,ne,nf,d⟩:=I.pin p hp
   exact⟨(hs.2 p.1 ne).trans e,n,ne,nf,d⟩
 ·have hfn:X.fn x=true:=by
   rcases hf with z|z
   ·exact z
   ·rw[z]at hk;cases hk
  obtain⟨c,hc⟩:=I.ok.has x (.inl hk)
  obtain⟨w',z⟩:=I.cell x c hc
  refine wpAny_storeName_cell I.ok.kind hk hc z (fun h' hc' hs=> ?_)
  obtain⟨oc,hoc,hocd⟩:=id z
  refine h {s with heap:=h'} ⟨I.ok,I.os,I.bare,⟨fun b o e n hb hx=> ?_,fun b o e n hb hx=> ?_,I.base.free,fun b o e hx=> ?_,I.base.tups,I.base.frzs,I.base.tbls⟩,⟨m,hn.sameBut hs (Ne.symm (cne x c hc)),fun j y v' e1 e2 e3=> ?_⟩,fun y c' e=> ?_,I.free,I.freeC,fun p hp=> ?_,tracked ⟨oc,hoc,I.freeC x c hc⟩ hs,by simpa using I.len⟩ ⟨c,hs,.inr hc⟩
  ·exact(hs.2 b (Nat.ne_of_lt (Nat.lt_of_lt_of_le (Heap.lt_size e) (I.ok.cab x c hfn hc)))).trans (I.base.keep b o e n hb hx)
  ·obtain⟨sl,e1⟩:=I.base.slot b o e n hb hx
   exact⟨sl,(hs.2 b (Nat.ne_of_lt (Nat.lt_of_lt_of_le (Heap.lt_size e) (I.ok.cab x c hfn hc)))).trans e1⟩
  ·obtain⟨o',e1⟩:=I.base.there b o e hx
   exact⟨o',(hs.2 b (Nat.ne_of_lt (Nat.lt_of_lt_of_le (Heap.lt_size e) (I.ok.cab x c hfn hc)))).trans e1⟩
  ·by_cases hj:j=i
   ·subst hj
    rw[hi]at e1;cases e1
    rw[List.getElem?_set_self hiσ]at e2
    cases e2
    exact⟨u,r,.inr ⟨.inl hk,c,hc,hc'⟩⟩
   ·rw[List.getElem?_set_ne (Ne.symm hj)]at e2
    obtain⟨u',r',q⟩:=hl j y v' e1 e2 e3
    refine⟨u',r',?_⟩
    rcases q with q|⟨k,c',e,z'⟩
    ·exact .inl q
    ·refine .inr ⟨k,c',e,z'.sameBut hs ?_⟩
     rintro rfl
     exact hj (a1I hN e1 (I.ok.inj _ _ _ e hc▸hi))
  ·by_cases hcc:c'=c
   ·subst hcc;exact⟨_,hc'⟩
   ·obtain⟨w2,z2⟩:=I.cell y c' e
    exact⟨w2,z2.sameBut hs hcc⟩
  ·obtain⟨e,n,ne,nf,d⟩:=I.pin p hp
   refine⟨(hs.2 p.1 ?_).trans e,n,ne,nf,d⟩
   intro q
   rw[q,hoc]at e
   have q':oc=p.2:=Option.some.inj e
   exact d w' (by rw[<- q'];exact hocd)
theorem a22{M:Model}{v:V}{Q:Unit->Shared->Prop}(I:aD X pins σ H s)(hN:X.N.Nodup)(hi:X.N[i]?=some x)(hx:vP X.env.scope x)(r:aZ v u)
 (h:∀s',aD X pins (σ.set i (some v)) H s'->Q () s')(hf:X.fn x=true\/ X.env.scope.names.lookup x=some .local:=by first|exact .inl rfl|exact .inr rfl|assumption):wpAny M A (storeName X.env x u) Q E s:=
 a3n I hN hi hx r (fun s' I' _=>h s' I') hf
theorem aD.call'{ch:List Addr}(I:aD X pins σ H s)(ho:s'.os=s.os)(u:Un (fN X.stack) ch H H' s.heap s'.heap)(hok:bX X.prog X.w H' s'.heap)(hg:AllBare s'.gens)
 (hch:∀b∈ch,(b∈X.ex\/ X.s₀.heap.objs.size<=b)/\b≠X.env.locals/\(∀x c,X.env.cells.lookup x=some c->c≠b)/\∀p∈X.pn++ pins,p.1≠b):aD X pins σ H' s':=by
 obtain⟨h',g',d',t',o'⟩:=s'
 have e:o'=s.os:=ho
 subst e
 exact I.call (g':=g') (t':=t') (d':=d') u hok hg hch
end
abbrev XK:=Value->Option Addr->Hp->Prop
abbrev St:=List (Option V)
abbrev VK:=V->Hp->Prop
abbrev TE:=St->Hp->VK->Prop
abbrev TT:=St->Hp->(Bool->Hp->Prop)->Prop
abbrev TA:=St->Hp->(List V->Hp->Prop)->Prop
structure iX where
 nx:St->Hp->Prop
 rt:VK
 bk:St->Hp->Prop:=fun _ _=>False
 ct:St->Hp->Prop:=fun _ _=>False
abbrev TS:=iX->St->Hp->Prop
variable{ta tb te tl:TE}{σ:St}
def EP(X:Cx)(pins:List (Addr×Obj))(σ:St)(Q:VK)(u:Value)(s':Shared):Prop:=∃v H',aD X pins σ H' s'/\aZ v u/\Q v H'
def TP(X:Cx)(pins:List (Addr×Obj))(σ:St)(Q:Bool->Hp->Prop)(b:Bool)(s':Shared):Prop:=∃H',aD X pins σ H' s'/\Q b H'
def AP(X:Cx)(pins:List (Addr×Obj))(σ:St)(Q:List V->Hp->Prop)(us:List Value)(s':Shared):Prop:=∃vs H',aD X pins σ H' s'/\aX vs us/\Q vs H'
def SP(X:Cx)(pins:List (Addr×Obj))(D:iX)(f:Flow)(s':Shared):Prop:=
 match f with
 | .next=>∃σ' H',aD X pins σ' H' s'/\D.nx σ' H'
 | .brk=>∃σ' H',aD X pins σ' H' s'/\D.bk σ' H'
 | .cont=>∃σ' H',aD X pins σ' H' s'/\D.ct σ' H'
 | .ret u=>∃v σ' H',aD X pins σ' H' s'/\aZ v u/\D.rt v H'
def PE(X:Cx)(e:Expr)(t:TE):Prop:=
 ∀(pins:List (Addr×Obj)) (s:Shared) (σ:St) (H:Hp) (Q:VK),aD X pins σ H s->t σ H Q->wpAny (model X.prog X.w) X.A (eval e X.env) (EP X pins σ Q) X.xe s
def PT(X:Cx)(e:Expr)(t:TT):Prop:=
 ∀(pins:List (Addr×Obj)) (s:Shared) (σ:St) (H:Hp) (Q:Bool->Hp->Prop),aD X pins σ H s->t σ H Q->wpAny (model X.prog X.w) X.A (isTrue e X.env (eval e X.env)) (TP X pins σ Q) X.xe s
def PW(X:Cx)(e:Expr)(t:TT):Prop:=
 ∀(whole:Sem Value) (pins:List (Addr×Obj)) (s:Shared) (σ:St) (H:Hp) (Q:Bool->Hp->Prop),aD X pins σ H s->t σ H Q->wpAny (model X.prog X.w) X.A (isTrue e X.env whole) (TP X pins σ Q) X.xe s
theorem PW.pt{t:TT}(h:PW X e t):PT X e t:=h _
def PA(X:Cx)(es:List Expr)(t:TA):Prop:=
 ∀(pos:Pos) (pins:List (Addr×Obj)) (s:Shared) (σ:St) (H:Hp) (Q:List V->Hp->Prop),aD X pins σ H s->t σ H Q->wpAny (model X.prog X.w) X.A (spliced (backTo pos (starEach es X.env))) (AP X pins σ Q) X.xe s
def PS(X:Cx)(st:Stmt)(t:TS):Prop:=
 ∀(pins:List (Addr×Obj)) (s:Shared) (σ:St) (H:Hp) (D:iX),aD X pins σ H s->t D σ H->wpAny (model X.prog X.w) X.A (exec st X.env) (SP X pins D) X.xe s
def dU(X:Cx)(st:List Stmt)(t:TS):Prop:=
 ∀(pins:List (Addr×Obj)) (s:Shared) (σ:St) (H:Hp) (D:iX),aD X pins σ H s->t D σ H->wpAny (model X.prog X.w) X.A (execs st X.env) (SP X pins D) X.xe s
theorem aT{α:Type}{t:Sem α}{Q Q':α->Shared->Prop}{M:Model}(h:wpAny M A t Q E s)(hQ:∀a s,Q a s->Q' a s):wpAny M A t Q' E s:=wpAny_mono h hQ fun _ _ x=>x
section
theorem bin{a b:Expr}(ha:PE X a ta)(hb:PE X b tb){R:V->V->Hp->Prop}(I:aD X pins σ H s)(h:ta σ H fun x H1=>tb σ H1 fun y H2=>R x y H2)
 {α:Type}{Q:α->Shared->Prop}{f:Value->Value->Sem α}
 (hf:∀v u s2 x y H2,aD X pins σ H2 s2->aZ x v->aZ y u->R x y H2->wpAny (model X.prog X.w) X.A (f v u) Q X.xe s2):
 wpAny (model X.prog X.w) X.A (eval a X.env) (fun v s₁=>wpAny (model X.prog X.w) X.A (eval b X.env) (fun u s₂=>wpAny (model X.prog X.w) X.A (f v u) Q X.xe s₂) X.xe s₁) X.xe s:=by
 refine aT (ha pins s σ H _ I h) ?_
 rintro v s1 ⟨x,H1,I1,r1,q1⟩
 refine aT (hb pins s1 σ H1 _ I1 q1) ?_
 rintro u s2 ⟨y,H2,I2,r2,q2⟩
 exact hf v u s2 x y H2 I2 r1 r2 q2
def nK(i:Nat):TE:=fun σ H Q=>∃v,σ[i]?=some (some v)/\Q v H
def tC(v:V):TE:=fun _ H Q=>Q v H
theorem a1n{pos:Pos}(hN:X.N[i]?=some x)(hv:vA X.env.scope x)(hd:(x==("__debug__":Str))=false:=by decide)(hcd:(x==("__classdict__":Str))=false:=by decide):PE X (.Name x pos) (nK i):=by
 intro pins s σ H Q I h
 obtain⟨v,e,h⟩:=h
 obtain⟨m,hn,hl⟩:=I.loc
 obtain⟨u,r,l⟩:=hl i x v hN e hv
 have fin:EP X pins σ Q u s:=⟨v,H,I,r,h⟩
 rcases l with⟨hk,hm⟩|⟨hk,c,hc,hcell⟩
 ·exact wpAny_Name (wpAny_loadName_local I.ok.kind hk hn hm fin) hd
 ·rcases hk with hk|hk
  ·exact wpAny_Name (wpAny_loadName_cell I.ok.kind hk hc hcell fin) hd
  ·exact wpAny_Name (wpAny_loadName_free I.ok.kind hk hc hcell fin hcd) hd
theorem bD{i j pos}:PE X (.Constant (.int i) j pos) (tC (.int i)):=fun _ _ _ H _ I h=>wpAny_Constant_int ⟨.int i,H,I.tok _,⟨_,rfl⟩,h⟩
theorem qG{b j pos}:PE X (.Constant (.bool b) j pos) (tC (.bl b)):=fun _ _ _ H _ I h=>Constant_bool ⟨.bl b,H,I,rfl,h⟩
theorem fZ{j pos}:PE X (.Constant .none j pos) (tC .non):=fun _ _ _ H _ I h=>Constant_none ⟨.non,H,I,rfl,h⟩
theorem fX{x j pos}:PE X (.Constant (.str x) j pos) (tC (.str x)):=fun _ _ _ H _ I h=>Calls.Constant_str ⟨.str x,H,I.tok _,⟨_,rfl⟩,h⟩
def Gl(X:Cx)(x:Str):Prop:=X.env.kindOf x=some .globalImplicit
theorem tM{pos:Pos}(I:aD X pins σ H s)(hg:Gl X x)(hm:X.mg x=some u)(h:Q u s)
 (hd:(x==("__debug__":Str))=false:=by decide):wpAny (model X.prog X.w) X.A (eval (.Name x pos) X.env) Q E s:=
 Calls.Name_function_global I.ok.kind hg (Calls.loadGlobal_global (by rw[I.ok.glob];exact I.mod.glob.keeps I.bk) hm h) hd
theorem qC{pos:Pos}(I:aD X pins σ H s)(hg:Gl X x)(hm:X.mg x=none)(hv:bootBuiltins x=some u)(h:Q u s)
 (hn:x≠ "__name__":=by decide)(hd:(x==("__debug__":Str))=false:=by decide):wpAny (model X.prog X.w) X.A (eval (.Name x pos) X.env) Q E s:=by
 obtain⟨mb,h1,h2⟩:=I.mod.blt
 exact Calls.Name_function_global I.ok.kind hg (Calls.loadGlobal_builtin (by rw[I.ok.glob];exact I.mod.glob.keeps I.bk) hm (by rw[I.ok.blt];exact h1.keeps I.bk) ((h2 x hn).trans hv) h) hd
theorem wE{v:V}{pos:Pos}(hg:Gl X x)(hm:X.mg x=some u)(r:aZ v u)(hd:(x==("__debug__":Str))=false:=by decide):PE X (.Name x pos) (tC v):=
 fun _ _ _ H _ I h=>tM I hg hm ⟨v,H,I,r,h⟩ hd
theorem a7k{v:V}{pos:Pos}(hg:Gl X x)(hm:X.mg x=none)(hv:bootBuiltins x=some u)(r:aZ v u)(hn:x≠ "__name__":=by decide)(hd:(x==("__debug__":Str))=false:=by decide):PE X (.Name x pos) (tC v):=
 fun _ _ _ H _ I h=>qC I hg hm hv ⟨v,H,I,r,h⟩ hn hd
variable{a b:Expr}{pos:Pos}
def PC(X:Cx)(op:CmpOp)(a b:Expr)(t:TE):Prop:=
 ∀(pins:List (Addr×Obj)) (s:Shared) (σ:St) (H:Hp) (Q:VK),aD X pins σ H s->t σ H Q->
  wpAny (model X.prog X.w) X.A (eval a X.env) (fun v s₁=>wpAny (model X.prog X.w) X.A (eval b X.env) (fun u s₂=>wpAny (model X.prog X.w) X.A (compareOp op v u) (EP X pins σ Q) X.xe s₂) X.xe s₁) X.xe s
theorem a0M(b:Expr){op:CmpOp}(h:op≠ .In)(h2:op≠ .NotIn):behindInMarks op b=false:=by
 have e1:(op==CmpOp.In)=false:=by cases op<;>first|rfl|exact absurd rfl h
 have e2:(op==CmpOp.NotIn)=false:=by cases op<;>first|rfl|exact absurd rfl h2
 cases b<;>simp[behindInMarks,e1,e2]
def tB(t:TE):TT:=fun σ H Q=>t σ H fun x H1=>∃c,x= .bl c/\Q c H1
theorem vR{op:CmpOp}{t:TE}(h:PC X op a b t)(h1:behindInMarks op b=false:=by first|exact a0M _ (by decide) (by decide)|rfl):PE X (.Compare a [op] [b] pos) t:=fun pins s σ H Q I hw=>wpAny_Compare1 (h pins s σ H Q I hw) h1
theorem iN{op:CmpOp}{t:TE}(h:PC X op a b t)(h1:behindInMarks op b=false:=by first|exact a0M _ (by decide) (by decide)|rfl):PT X (.Compare a [op] [b] pos) (tB t):=by
 intro pins s σ H Q I hw
 refine wpAny_isTrue_Compare1 (aT (h pins s σ H _ I hw) fun v s1 h1=>aT h1 fun u s2 h2=>aT h2 fun c s3 ⟨x,H1,I1,r1,q1⟩=> ?_) h1
 obtain⟨d,rfl,q⟩:=q1
 cases r1
 exact wpAny_truthy_bool ⟨H1,I1,q⟩
theorem eF{t:TE}(h:PE X e t)(he:∀whole,isTrue e X.env whole=(do let v<- whole;standAt e.pos;holding [v] (truthy v)):=by intro _;rfl):PT X e (tB t):=by
 intro pins s σ H Q I hw
 refine isTrue_plain (aT (h pins s σ H _ I hw) ?_) (he _)
 rintro v s1 ⟨x,H1,I1,r1,q1⟩
 obtain⟨d,rfl,q⟩:=q1
 cases r1
 exact wpAny_truthy_bool ⟨H1,I1,q⟩
variable{tA tB':TT}{cJ:List Expr}
def tAnd(t u:TT):TT:=fun σ H Q=>t σ H fun c H1=>if c=true then u σ H1 Q else Q false H1
def tOr(t u:TT):TT:=fun σ H Q=>t σ H fun c H1=>if c=true then Q true H1 else u σ H1 Q
def tNot(t:TT):TT:=fun σ H Q=>t σ H fun c H1=>Q (!c) H1
theorem oV(ha:PT X a tA):PW X (.BoolOp .And [a] pos) tA:=by
 intro wh pins s σ H Q I h
 refine isTrue_and (aT (ha pins s σ H Q I h) fun c s1 e=> ?_)
 cases c with
 |true=>exact isTrue_and_nil e
 |false=>exact e
theorem jM(ha:PT X a tA):PW X (.BoolOp .Or [a] pos) tA:=by
 intro wh pins s σ H Q I h
 refine isTrue_or (aT (ha pins s σ H Q I h) fun c s1 e=> ?_)
 cases c with
 |false=>exact isTrue_or_nil e
 |true=>exact e
theorem oQ(ha:PT X a tA)(hb:PW X (.BoolOp .And (b::cJ) pos) tB'):PW X (.BoolOp .And (a::b::cJ) pos) (tAnd tA tB'):=by
 intro wh pins s σ H Q I h
 refine isTrue_and (aT (ha pins s σ H _ I h) ?_)
 rintro c s1 ⟨H1,I1,q1⟩
 cases c with
 |true=>exact hb wh pins s1 σ H1 Q I1 q1
 |false=>exact⟨H1,I1,q1⟩
theorem iY(ha:PT X a tA)(hb:PW X (.BoolOp .Or (b::cJ) pos) tB'):PW X (.BoolOp .Or (a::b::cJ) pos) (tOr tA tB'):=by
 intro wh pins s σ H Q I h
 refine isTrue_or (aT (ha pins s σ H _ I h) ?_)
 rintro c s1 ⟨H1,I1,q1⟩
 cases c with
 |true=>exact⟨H1,I1,q1⟩
 |false=>exact hb wh pins s1 σ H1 Q I1 q1
theorem eV(ha:PT X a tA):PT X (.UnaryOp .Not a pos) (tNot tA):=by
 intro pins s σ H Q I h
 exact isTrue_not (ha pins s σ H (fun c H1=>Q (!c) H1) I h)
def a5z(ta tb:TE):TE:=fun σ H Q=>ta σ H fun x H1=>∃c,x= .bl c/\if c=true then tb σ H1 Q else Q (.bl false) H1
def tOrV(ta tb:TE):TE:=fun σ H Q=>ta σ H fun x H1=>∃c,x= .bl c/\if c=true then Q (.bl true) H1 else tb σ H1 Q
def a6c(ta:TE):TE:=fun σ H Q=>ta σ H fun x H1=>∃c,x= .bl c/\Q (.bl (!c)) H1
theorem oJ{op}{t:TE}(h:PE X a t):PE X (.BoolOp op [a] pos) t:=fun pins s σ H Q I hw=>BoolOp_one (h pins s σ H Q I hw)
theorem pC(ha:PE X a ta)(hb:PE X (.BoolOp .And (b::cJ) pos) tb):PE X (.BoolOp .And (a::b::cJ) pos) (a5z ta tb):=by
 intro pins s σ H Q I h
 refine BoolOp_and (aT (ha pins s σ H _ I h) ?_)
 rintro v s1 ⟨x,H1,I1,r1,q1⟩
 obtain⟨c,rfl,q1⟩:=q1
 cases r1
 refine wpAny_truthy_bool ?_
 cases c with
 |true=>exact hb pins s1 σ H1 Q I1 q1
 |false=>exact⟨.bl false,H1,I1,rfl,q1⟩
theorem a7Z(ha:PE X a ta)(hb:PE X (.BoolOp .Or (b::cJ) pos) tb):PE X (.BoolOp .Or (a::b::cJ) pos) (tOrV ta tb):=by
 intro pins s σ H Q I h
 refine BoolOp_or (aT (ha pins s σ H _ I h) ?_)
 rintro v s1 ⟨x,H1,I1,r1,q1⟩
 obtain⟨c,rfl,q1⟩:=q1
 cases r1
 refine wpAny_truthy_bool ?_
 cases c with
 |false=>exact hb pins s1 σ H1 Q I1 q1
 |true=>exact⟨.bl true,H1,I1,rfl,q1⟩
theorem a72(ha:PE X a ta):PE X (.UnaryOp .Not a pos) (a6c ta):=by
 intro pins s σ H Q I h
 refine UnaryOp_ (aT (ha pins s σ H _ I h) ?_)
 rintro v s1 ⟨x,H1,I1,r1,q1⟩
 obtain⟨c,rfl,q1⟩:=q1
 cases r1
 exact not_of (wpAny_truthy_bool ⟨.bl (!c),H1,I1,rfl,q1⟩)
end
def aN(K:Fg)(H:Hp)(a:Addr)(xs:List V):Prop:=
 Rd H a (.lst xs)\/
  ∃(o:Obj) (its:Array Value) (n:Nat),K.lookup a=some o/\o.cls= .type "list" /\o.dict=none/\o.data= .seq its n/\its.size<=sizeLine/\aX xs its.toList
def bU(K:Fg)(H:Hp)(a:Addr)(xs:List V):Prop:=
 Rd H a (.tup xs)\/
  ∃(o:Obj) (its:Array Value) (n:Nat),K.lookup a=some o/\o.cls= .type "tuple" /\o.data= .seq its n/\its.size<=sizeLine/\aX xs its.toList
noncomputable def absV:Value->Option V
 | .none=>some .non
 | .bool b=>some (.bl b)
 | .int i _=>some (.int i)
 | .str x _=>some (.str x)
 | .bytes b _=>some (.byt b)
 | .float b _=>some (.flt b)
 | .ref a=>some (.ref a)
 | .type n=>some (.ty n)
 |_=>none
theorem aZ.abs{x:V}(r:aZ x u):absV u=some x:=by
 cases x with
 |non=>cases r;rfl
 |bl _=>cases r;rfl
 |int _=>obtain⟨t,rfl⟩:=r;rfl
 |str _=>obtain⟨t,rfl⟩:=r;rfl
 |byt _=>obtain⟨t,rfl⟩:=r;rfl
 |flt _=>obtain⟨t,rfl⟩:=r;rfl
 |ref _=>cases r;rfl
 |ty _=>cases r;rfl
theorem aZ.inj{x:V}(r:aZ x u)(q:aZ y u):x=y:=Option.some.inj (r.abs.symm.trans q.abs)
theorem aX.inj:∀{xs ys:List V} {us:List Value},aX xs us->aX ys us->xs=ys
 |_,_,_,.nil,.nil=>rfl
 |_,_,_,.cons r t,.cons r' t'=>by rw[r.inj r',aX.inj t t']
section
theorem aN.of(h:H a=some (.lst xs)):aN K H a xs:=.inl (.inl h)
theorem bU.of(h:H a=some (.tup xs)):bU K H a xs:=.inl (.inl h)
theorem aD.list(I:aD X pins σ H s)(h:aN X.K H a xs):∃its:List Value,aX xs its/\PlainL s.heap a its.toArray/\xs.length<=sizeLine:=by
 rcases h with h|⟨o,its,n,hk,hc,hd,hs,hz,r⟩
 ·obtain⟨z,its,n,r,e⟩:=h.ok I.hok
  exact⟨its,r,⟨_,n,e,rfl,rfl,rfl⟩,z⟩
 ·refine⟨its.toList,r,⟨o,n,I.kIn a o hk,hc,hd,by simpa using hs⟩,?_⟩
  have e:=r.length
  simp only[Array.length_toList]at e
  omega
theorem aD.tuple(I:aD X pins σ H s)(h:bU X.K H a xs):∃its:List Value,aX xs its/\IsTup s.heap a its.toArray/\xs.length<=sizeLine:=by
 rcases h with h|⟨o,its,n,hk,hc,hs,hz,r⟩
 ·obtain⟨z,its,r,p⟩:=h.ok I.hok
  exact⟨its,r,p,z⟩
 ·refine⟨its.toList,r,⟨o,I.kIn a o hk,hc,n,by simpa using hs⟩,?_⟩
  have e:=r.length
  simp only[Array.length_toList]at e
  omega
theorem aD.list_inj(I:aD X pins σ H s)(h:aN X.K H a xs)(h':aN X.K H a ys):xs=ys:=by
 obtain⟨its,r,⟨o,n,e,_,_,d⟩,_⟩:=I.list h
 obtain⟨its',r',⟨o',n',e',_,_,d'⟩,_⟩:=I.list h'
 rw[e]at e';cases e'
 rw[d]at d'
 injection d' with d1 _
 have:its=its':=by simpa using congrArg Array.toList d1
 subst this
 exact r.inj r'
end
abbrev Cx.wish(X:Cx)(E:Value->Shared->Prop):Cx:={X with xe:=E}
abbrev Cx.nox(X:Cx):Cx:=X.wish fun _ _=>False
theorem Cx.Ok.wish(ok:X.Ok)(E:Value->Shared->Prop):(X.wish E).Ok:=
 ⟨ok.mod,ok.kind,ok.glob,ok.blt,ok.above,ok.inj,ok.has,ok.cab,ok.hd,ok.frames,ok.stk,ok.exf,ok.bs,ok.bsz,ok.noex,ok.exfs,ok.funs,ok.frf⟩
theorem Cx.Ok.unwish(ok:(X.wish E).Ok):X.Ok:=
 ⟨ok.mod,ok.kind,ok.glob,ok.blt,ok.above,ok.inj,ok.has,ok.cab,ok.hd,ok.frames,ok.stk,ok.exf,ok.bs,ok.bsz,ok.noex,ok.exfs,ok.funs,ok.frf⟩
section
theorem aD.wish(I:aD X pins σ H s)(E:Value->Shared->Prop):aD (X.wish E) pins σ H s:=⟨I.ok.wish E,I.os,I.bare,I.base,I.loc,I.cell,I.free,I.freeC,I.pin,I.hok,I.len⟩
theorem aD.unwish(I:aD (X.wish E) pins σ H s):aD X pins σ H s:=⟨I.ok.unwish,I.os,I.bare,I.base,I.loc,I.cell,I.free,I.freeC,I.pin,I.hok,I.len⟩
theorem SP.unwish{D:iX}{f:Flow}(h:SP (X.wish E) pins D f s'):SP X pins D f s':=by
 cases f with
 |next=>obtain⟨σ',H',I,q⟩:=h;exact⟨σ',H',I.unwish,q⟩
 |brk=>obtain⟨σ',H',I,q⟩:=h;exact⟨σ',H',I.unwish,q⟩
 |cont=>obtain⟨σ',H',I,q⟩:=h;exact⟨σ',H',I.unwish,q⟩
 |ret u=>obtain⟨v,σ',H',I,r,q⟩:=h;exact⟨v,σ',H',I.unwish,r,q⟩
theorem dU.nox{st:List Stmt}{t:TS}(h:dU X.nox st t):dU X st t:=fun pins s σ H D I hw=>
 wpAny_mono (h pins s σ H D (I.wish _) hw) (fun _ _ q=>q.unwish) fun _ _ z=>False.elim z
end
section
variable{st:Stmt}{cJ:List Stmt}{t u:TS}{pos:Pos}
def a60:TS:=fun D σ H=>D.nx σ H
def tSeq(t u:TS):TS:=fun D σ H=>t {D with nx:=u D} σ H
theorem bO:dU X [] a60:=fun _ _ σ H _ I h=>wpAny_execs_nil ⟨σ,H,I,h⟩
theorem aK(h1:PS X st t)(h2:dU X cJ u):dU X (st::cJ) (tSeq t u):=by
 intro pins s σ H D I h
 refine wpAny_execs_cons (aT (h1 pins s σ H {D with nx:=u D} I h) fun f s1 q=> ?_)
 cases f with
 |next=>
  obtain⟨σ',H',I',q⟩:=q
  exact h2 pins s1 σ' H' D I' q
 |ret v=>exact q
 |brk=>exact q
 |cont=>exact q
theorem aL(h1:PS X st t):dU X [st] t:=by
 intro pins s σ H D I h
 refine wpAny_execs_cons (aT (h1 pins s σ H D I h) fun f s1 q=> ?_)
 cases f with
 |next=>exact wpAny_execs_nil q
 |ret v=>exact q
 |brk=>exact q
 |cont=>exact q
theorem aD.quiet(I:aD X pins σ H s):interactive X.env=false:=by simp[interactive,I.ok.kind]
def a7M(te:TE):TS:=fun D σ H=>te σ H fun _ H1=>D.nx σ H1
theorem cA(he:PE X e te)(hs:swapsWith e none pos.line X.env=pure false:=by rfl):PS X (.Expr e pos) (a7M te):=by
 intro pins s σ H D I h
 exact wpAny_Expr_any (aT (he pins s σ H _ I h) fun v s1 ⟨x,H1,I1,r1,q1⟩=>⟨σ,H1,I1,q1⟩) I.quiet hs
def tRet(te:TE):TS:=fun D σ H=>te σ H D.rt
theorem bN(he:PE X e te):PS X (.Return (some e) pos) (tRet te):=by
 intro pins s σ H D I h
 exact wpAny_Return_some (aT (he pins s σ H _ I h) fun v s1 ⟨x,H1,I1,r1,q1⟩=>⟨x,σ,H1,I1,r1,q1⟩)
def tIfS(c:TT)(t u:TS):TS:=fun D σ H=>c σ H fun b H1=>if b=true then t D σ H1 else u D σ H1
theorem bL{c:Expr}{a b:List Stmt}{tc:TT}(hc:PT X c tc)(ha:dU X a t)(hb:dU X b u):PS X (.If c a b pos) (tIfS tc t u):=by
 intro pins s σ H D I h
 refine wpAny_If (aT (hc pins s σ H _ I h) ?_)
 rintro d s1 ⟨H1,I1,q1⟩
 cases d with
 |true=>exact ha pins s1 σ H1 D I1 q1
 |false=>exact hb pins s1 σ H1 D I1 q1
end
abbrev TG:=V->St->Hp->(St->Hp->Prop)->Prop
abbrev mQ:=List V->St->Hp->(St->Hp->Prop)->Prop
variable{g:TG}
def PG(X:Cx)(target:Expr)(t:TG):Prop:=
 ∀(pins:List (Addr×Obj)) (s:Shared) (σ:St) (H:Hp) (v:V) (u:Value) (Q:St->Hp->Prop),aD X pins σ H s->aZ v u->t v σ H Q->
  wpAny (model X.prog X.w) X.A (assign target X.env u) (fun _ s'=>∃σ' H',aD X pins σ' H' s'/\Q σ' H') X.xe s
def tF(X:Cx)(ts:List Expr)(t:mQ):Prop:=
 ∀(pins:List (Addr×Obj)) (s:Shared) (σ:St) (H:Hp) (vs:List V) (us:List Value) (Q:St->Hp->Prop),aD X pins σ H s->aX vs us->t vs σ H Q->
  wpAny (model X.prog X.w) X.A (assignInOrder ((assignEach ts X.env).map (·.2)) us) (fun _ s'=>∃σ' H',aD X pins σ' H' s'/\Q σ' H') X.xe s
abbrev TSet:=V->V->V->Hp->(Hp->Prop)->Prop
def PSet(X:Cx)(t:TSet):Prop:=
 ∀(pins:List (Addr×Obj)) (s:Shared) (σ:St) (H:Hp) (o i v:V) (ov iv u:Value) (Q:Hp->Prop),aD X pins σ H s->aZ o ov->aZ i iv->aZ v u->t o i v H Q->
  wpAny (model X.prog X.w) X.A (setItem ov iv u) (fun _ s'=>∃H',aD X pins σ H' s'/\Q H') X.xe s
section
variable{pos:Pos}
noncomputable def tQ(i:Nat):TG:=fun v σ H Q=>Q (σ.set i (some v)) H
theorem fT(hN:X.N.Nodup)(hi:X.N[i]?=some x)(hx:vP X.env.scope x)(hf:X.fn x=true\/ X.env.scope.names.lookup x=some .local:=by first|exact .inl rfl|exact .inr rfl|assumption):PG X (.Name x pos) (tQ i):=by
 intro pins s σ H v u Q I r h
 exact wpAny_assign_Name (a22 I hN hi hx r (fun s' I'=>⟨_,H,I',h⟩) hf)
noncomputable def gNil:mQ:=fun vs σ H Q=>vs= [] /\Q σ H
noncomputable def a4Z (t:TG) (u:mQ):mQ:=fun vs σ H Q=>∃v r,vs=v::r/\t v σ H fun σ' H'=>u r σ' H' Q
theorem zR:tF X [] gNil:=by
 intro pins s σ H vs us Q I r h
 obtain⟨e,h⟩:=h
 subst e
 cases r
 exact assignInOrder_nil ⟨σ,H,I,h⟩
theorem nF{t:TG}{u:mQ}(h1:PG X e t)(h2:tF X es u)
 (hs:(assignEach (e::es) X.env).map (·.2)=assign e X.env::(assignEach es X.env).map (·.2):=by rfl):tF X (e::es) (a4Z t u):=by
 intro pins s σ H vs us Q I r h
 obtain⟨v,vr,e1,h⟩:=h
 subst e1
 cases r with
 |cons r rr=>
  rw[hs]
  refine assignInOrder_cons (aT (h1 pins s σ H _ _ _ I r h) ?_)
  rintro _ s1 ⟨σ1,H1,I1,q1⟩
  exact h2 pins s1 σ1 H1 _ _ Q I1 rr q1
noncomputable def gTup (K:Fg) (n:Nat) (t:mQ):TG:=fun v σ H Q=>∃a xs,v= .ref a/\bU K H a xs/\xs.length=n/\t xs σ H Q
theorem wJ{k:Nat}{t:mQ}{n:Nat}(hc:X.calm=true)(h:tF X es t)
 (hn:(assignEach es X.env).length=n:=by rfl)(hst:(assignEach es X.env).findIdx? (·.1)=none:=by rfl):PG X (.Tuple es k pos) (gTup X.K n t):=by
 intro pins s σ H v u Q I r hw
 obtain⟨a,xs,e1,hq,hl,hw⟩:=hw
 subst e1
 cases r
 obtain⟨its,rv,ht,hz⟩:=I.tuple hq
 refine assign_Tuple_tuple (I.ok.hd hc) ht (by simp[hn,<- hl,rv.length]) hst fun h' hx=> ?_
 have I1:aD X pins σ H {s with heap:=h'}:=I.kept (t':=s.toks) fun b o e=>hx b o (Nat.ne_of_lt (Heap.lt_size e)) e
 exact h pins _ σ H xs _ Q I1 (by simpa using rv) hw
noncomputable def gSub (to ti:TE) (t:TSet):TG:=fun v σ H Q=>to σ H fun o H1=>ti σ H1 fun i H2=>t o i v H2 fun H3=>Q σ H3
theorem zU{o i:Expr}{to ti:TE}{t:TSet}(ho:PE X o to)(hi:PE X i ti)(hs:PSet X t)
 (ha:∀v,assign (.Subscript o i pos) X.env v=(do
  let ov<- holding [v] (eval o X.env)
  let iv<- holding [v,ov] (eval i X.env)
  standAt pos
  holding [v,ov,iv] (setItem ov iv v)
  release [v,ov,iv] []):=by intro _;rfl):PG X (.Subscript o i pos) (gSub to ti t):=by
 intro pins s σ H v u Q I r h
 rw[ha]
 refine wpAny_bind (wpAny_holding (aT (ho pins s σ H _ I h) ?_))
 rintro ov s1 ⟨x,H1,I1,r1,q1⟩
 refine wpAny_bind (wpAny_holding (aT (hi pins s1 σ H1 _ I1 q1) ?_))
 rintro iv s2 ⟨y,H2,I2,r2,q2⟩
 refine wpAny_bind (wpAny_standAt (wpAny_bind (wpAny_holding (aT (hs pins s2 σ H2 x y v ov iv u _ I2 r1 r2 r q2) ?_))))
 rintro _ s3 ⟨H3,I3,q3⟩
 exact wpAny_release ⟨σ,H3,I3,q3⟩
def yU(te:TE)(g:TG):TS:=fun D σ H=>te σ H fun x H1=>g x σ H1 D.nx
theorem sP(he:PE X e te)(hg:PG X tg g)(hs:swapsWithSole [tg] e pos.line X.env=pure false:=by rfl)(hw:swappedStores [tg] e X.env=pure none:=by rfl)
 (h1:(assignEach [tg] X.env).map (·.2)= [assign tg X.env]:=by rfl):PS X (.Assign [tg] e pos) (yU te g):=by
 intro pins s σ H D I h
 refine wpAny_Assign_stores (aT (he pins s σ H _ I h) ?_) hs hw
 rintro v s1 ⟨x,H1,I1,r1,q1⟩
 rw[h1]
 exact aT (hg pins s1 σ H1 x v _ I1 r1 q1) fun _ s2 q=>q
theorem cH(hN:X.N.Nodup)(hi:X.N[i]?=some x)(hx:vP X.env.scope x)(he:PE X e te)(hs:swapsWith e (some (.Name x pos')) pos.line X.env=pure false:=by rfl)(hf:X.fn x=true\/ X.env.scope.names.lookup x=some .local:=by first|exact .inl rfl|exact .inr rfl|assumption):
 PS X (.Assign [.Name x pos'] e pos) (yU te (tQ i)):=by
 intro pins s σ H D I h
 refine wpAny_Assign_Name (aT (he pins s σ H _ I h) ?_) hs
 rintro v s1 ⟨y,H1,I1,r1,q1⟩
 exact a22 I1 hN hi hx r1 (fun s2 I2=>⟨_,H1,I2,q1⟩) hf
def a5I(c:TT)(tb:TS):TS:=fun D σ H=>∃W:Nat->St->Hp->Prop,(∃m,W m σ H)/\∀m σ H,W m σ H->
 c σ H fun b H1=>if b=true then∃N:St->Hp->Prop,(∀σ' H',N σ' H'->∃m',m'<m/\W m' σ' H')/\tb {D with nx:=N,ct:=N,bk:=D.nx} σ H1 else D.nx σ H1
theorem wP{c:Expr}{body:List Stmt}{tc:TT}{tb:TS}(hp:PassesOwn (model X.prog X.w) X.A X.env X.xe)(hc:PT X c tc)(hb:dU X body tb):PS X (.While c body [] pos) (a5I tc tb):=by
 intro pins s σ H D I h
 obtain⟨W,⟨m0,w0⟩,turn⟩:=h
 refine wpAny_While (codeAny_whileLoop (fun n s'=>∃σ' H',aD X pins σ' H' s'/\W n σ' H') ?_ m0 ⟨σ,H,I,w0⟩)
 rintro n s1 ⟨σ1,H1,I1,w1⟩
 refine wpAny_passesOwn hp (aT (hc pins s1 σ1 H1 _ I1 (turn n σ1 H1 w1)) ?_)
 rintro b s2 ⟨H2,I2,q2⟩
 cases b with
 |true=>
  obtain⟨N,hN,q2⟩:=q2
  rw[if_pos rfl]
  refine wpAny_passesOwn hp (aT (hb pins s2 σ1 H2 _ I2 q2) fun f s3 q3=> ?_)
  cases f with
  |next=>
   obtain⟨σ3,H3,I3,n3⟩:=q3
   obtain⟨m',hm,w3⟩:=hN σ3 H3 n3
   exact⟨m',hm,σ3,H3,I3,w3⟩
  |cont=>
   obtain⟨σ3,H3,I3,n3⟩:=q3
   obtain⟨m',hm,w3⟩:=hN σ3 H3 n3
   exact⟨m',hm,σ3,H3,I3,w3⟩
  |brk=>exact q3
  |ret v=>exact q3
 |false=>
  rw[if_neg Bool.false_ne_true]
  exact wpAny_execs_nil ⟨σ1,H2,I2,q2⟩
end
structure It where
 go:Nat->Hp->Prop
 yld:Nat->Hp->V->Hp->Prop
 stop:Nat->Hp->Prop
def jH(X:Cx)(pins:List (Addr×Obj))(H:Hp)(b:Addr):Prop:=
 H b=none/\b≠X.env.locals/\b∉X.fs/\(b∈X.ex\/ X.s₀.heap.objs.size<=b)/\(∀x c,X.env.cells.lookup x=some c->c≠b)/\∀p∈X.pn++ pins,p.1≠b
theorem aD.fpOk(I:aD X pins σ H s)(hb:s.heap.objs.size<=b)(hn:H' b=none):jH X pins H' b:=by
 refine⟨hn,Nat.ne_of_gt (Nat.lt_of_lt_of_le I.lt hb),I.nofs hb,.inr (Nat.le_trans I.sz hb),fun x c e z=> ?_,fun p hp z=> ?_⟩
 ·obtain⟨v,q⟩:=I.cell x c e
  exact absurd (Nat.lt_of_lt_of_le q.lt (by rw[z];exact hb)) (Nat.lt_irrefl _)
 ·exact absurd (Nat.lt_of_lt_of_le (Heap.lt_size (I.pin p hp).1) (by rw[z];exact hb)) (Nat.lt_irrefl _)
structure qH(P:Program)(w:World)(K:Fg)(tg:Expr)(J:It)(fp:List Addr)(it:Addr)(tn:Nat->Heap->Prop):Prop where
 mem:it∈fp
 obj:∀i h,tn i h->∀b∈fp,∃o,h.get? b=some o/\∀v,o.data≠ .cell v
 keep:∀i h h',tn i h->(∀b∈fp,∀o,h.get? b=some o->h'.get? b=some o)->tn i h'
 item:∀(X:Cx),X.prog=P->X.w=w->X.K=K->X.calm=true->∀(i:Nat) (pins:List (Addr×Obj)) (s:Shared) (σ:St) (H:Hp) (E:Value->Shared->Prop),aD X pins σ H s->(∀b∈fp,jH X pins H b)->tn i s.heap->J.go i H->
  wpAny (model P w) X.A (pyNext (.ref it)) (fun r s1=>∃u,r=some u/\
   wpAny (model P w) X.A (letOwnedTupleGo tg (.ref it) u) (fun _ s2=>∃x H',aD X pins σ H' s2/\aZ x u/\J.yld i H x H'/\tn (i+ 1) s2.heap/\∀b∈fp,H' b=none) E s1) E s
 done:∀(X:Cx),X.prog=P->X.w=w->X.K=K->X.calm=true->∀(i:Nat) (pins:List (Addr×Obj)) (s:Shared) (σ:St) (H:Hp) (E:Value->Shared->Prop),aD X pins σ H s->(∀b∈fp,jH X pins H b)->tn i s.heap->J.stop i H->
  wpAny (model P w) X.A (pyNext (.ref it)) (fun r s1=>r=none/\aD X pins σ H s1) E s
 self:∀(A:Around) (i:Nat) (s:Shared) (Q:Value->Shared->Prop) (E:Value->Shared->Prop),tn i s.heap->Q (.ref it) s->wpAny (model P w) A (pyIter (.ref it)) Q E s
abbrev TI:=St->Hp->(It->Hp->Prop)->Prop
def yQ(X:Cx)(pins:List (Addr×Obj))(σ:St)(tg:Expr)(R:It->Hp->Prop)(itv:Value)(s2:Shared):Prop:=
 ∃(it:Addr) (fp:List Addr) (tn:Nat->Heap->Prop) (J:It) (H':Hp),itv= .ref it/\aD X pins σ H' s2/\qH X.prog X.w X.K tg J fp it tn/\tn 0 s2.heap/\(∀b∈fp,jH X pins H' b)/\R J H'
def PI(X:Cx)(tg iter:Expr)(wi:TI):Prop:=
 ∀(pins:List (Addr×Obj)) (s:Shared) (σ:St) (H:Hp) (R:It->Hp->Prop),aD X pins σ H s->wi σ H R->
  wpAny (model X.prog X.w) X.A (eval iter X.env) (fun v s1=>wpAny (model X.prog X.w) X.A (pyIter v) (yQ X pins σ tg R) X.xe s1) X.xe s
theorem sZ{M:Model}{it:Addr}{o:Obj}{n:String}{vs:Array Value}{Q:Unit->Shared->Prop}(ho:s.heap.get? it=some o)(hc:o.cls= .type n)(hd:o.data= .fields vs)
 (hn:["enumerate","zip","dict_itemiterator","dict_reverseitemiterator","odict_iterator","itertools.zip_longest","itertools.pairwise"].contains n=false)(hQ:Q () s):wpAny M A (letOwnedTupleGo tg (.ref it) u) Q E s:=by
 unfold letOwnedTupleGo
 cases tg<;>first
  |exact wpAny_pure hQ
  |(cases u<;>first
   |exact wpAny_pure hQ
   | (refine wpAny_bind (wpAny_load ho ?_)
      rw[hc,hd]
      show wpAny M A (if(["enumerate","zip","dict_itemiterator","dict_reverseitemiterator","odict_iterator","itertools.zip_longest","itertools.pairwise"].contains n&&vs[0]?==some (rawInt _))=true then _ else _) Q E s
      rw[if_neg (by intro h;rw[hn,Bool.false_and]at h;cases h)]
      exact wpAny_pure hQ))
noncomputable def qF (K:Fg) (a:Addr):It:=
 ⟨fun i H=>∃xs x,aN K H a xs/\xs[i]?=some x,fun i H x H'=>H'=H/\∀xs,aN K H a xs->xs[i]?=some x,fun i H=>∃xs,aN K H a xs/\xs.length<=i⟩
noncomputable def nD (lo:Int) (n:Nat):It:=⟨fun i _=>i<n,fun i H x H'=>H'=H/\x= .int (lo+ i),fun i _=>n<=i⟩
theorem a67(a it:Addr):qH P w K tg (qF K a) [it] it (fun i h=>h.IsListIter it a i) where
 mem:=by simp
 obj:=fun i h st b hb=>by
  have e:b=it:=by simpa using hb
  subst e
  obtain⟨o,e,c,d⟩:=st
  exact⟨o,e,fun v z=>by rw[d]at z;cases z⟩
 keep:=fun i h h' st k=>st.at fun o e=>k it (by simp) o e
 item:=by
  intro X hP hw hK hc i pins s σ H E I hf st hg
  subst hP hw hK
  obtain⟨xs,x,hq,hx⟩:=hg
  obtain⟨its,rv,p,hz⟩:=I.list hq
  obtain⟨u,hu,ru⟩:=rv.get hx
  obtain⟨f0,f1,f2,f3,f4,f5⟩:=hf it (by simp)
  refine wpAny_pyNext_list_item st p.isList (x:=u) (by simpa using hu) fun h' st' sb=> ?_
  have I1:aD X pins σ H {s with heap:=h'}:=I.turned (t':=s.toks) (fun b o hb e=>(sb.2 b hb).trans e) f0 f1 f3 f4 f5
  obtain⟨o,e,c,d⟩:=id st'
  exact⟨u,rfl,sZ (s:={s with heap:=h'}) e c d (by decide) ⟨x,H,I1,ru,⟨rfl,fun ys hy=>by rw[I.list_inj hy hq];exact hx⟩,st',fun b hb=>(hf b hb).1⟩⟩
 done:=by
  intro X hP hw hK hc i pins s σ H E I hf st hg
  subst hP hw hK
  obtain⟨xs,hq,hx⟩:=hg
  obtain⟨its,rv,p,hz⟩:=I.list hq
  obtain⟨f0,f1,f2,f3,f4,f5⟩:=hf it (by simp)
  have hl:=rv.length
  exact wpAny_pyNext_list_end (I.ok.hd hc) st p.isList (by simp;omega) fun h' eb=>⟨rfl,I.turned (t':=s.toks) (fun b o hb e=>eb b o hb e) f0 f1 f3 f4 f5⟩
 self:=fun _ _ _ _ _ st h=>wpAny_pyIter_listiter st h
theorem a6s(it:Addr)(lo:Int)(n:Nat):qH P w K tg (nD lo n) [it] it (fun i h=>IsRangeIter h it (lo+ (i:Nat)* 1) ((n:Int)- (i:Nat)) 1) where
 mem:=by simp
 obj:=fun i h st b hb=>by
  have e:b=it:=by simpa using hb
  subst e
  exact⟨_,st,fun v z=>by
   have z':Data.fields _=Data.cell v:=z
   cases z'⟩
 keep:=fun i h h' st k=>k it (by simp) _ st
 item:=by
  intro X hP hw hK hc i pins s σ H E I hf st hg
  subst hP hw hK
  obtain⟨f0,f1,f2,f3,f4,f5⟩:=hf it (by simp)
  have W:=Walks.range (prog:=X.prog) (w:=X.w) (I.ok.hd hc) it lo 1 n
  refine W.item i s _ _ hg st fun v h' tk hv st' kk=> ?_
  obtain⟨t,rfl⟩:=hv
  have I1:aD X pins σ H {s with heap:=h',toks:=tk}:=I.turned (fun b o hb e=>kk b o (by simpa using hb) e) f0 f1 f3 f4 f5
  refine⟨_,rfl,sZ (s:={s with heap:=h',toks:=tk}) (n:= "range_iterator") st' rfl rfl (by decide) ⟨.int (lo+ i),H,I1,⟨t,?_⟩,⟨rfl,rfl⟩,st',fun b hb=>(hf b hb).1⟩⟩
  rw[Int.mul_one]
 done:=by
  intro X hP hw hK hc i pins s σ H E I hf st hg
  subst hP hw hK
  obtain⟨f0,f1,f2,f3,f4,f5⟩:=hf it (by simp)
  exact wpAny_pyNext_range_end (I.ok.hd hc) st (by have:n<=i:=hg;omega) fun h' eb=>⟨rfl,I.turned (t':=s.toks) (fun b o hb e=>eb b o hb e) f0 f1 f3 f4 f5⟩
 self:=fun _ _ _ _ _ st h=>wpAny_pyIter_rangeiter st h
section
def a1x(K:Fg)(tl:TE):TI:=fun σ H R=>tl σ H fun x H1=>∃a,x= .ref a/\(∃xs,aN K H1 a xs)/\R (qF K a) H1
theorem kA{l:Expr}(hl:PE X l tl):PI X tg l (a1x X.K tl):=by
 intro pins s σ H R I h
 refine aT (hl pins s σ H _ I h) ?_
 rintro v s1 ⟨x,H1,I1,r1,q1⟩
 obtain⟨a,e,⟨xs,hq⟩,q⟩:=q1
 subst e
 cases r1
 obtain⟨its,rv,p,hz⟩:=I1.list hq
 refine wpAny_pyIter_list p.isList ?_
 refine⟨s1.heap.objs.size,[s1.heap.objs.size],_,_,H1,rfl,I1.kept (t':=s1.toks) fun b o e=>Heap.get?_push_of_some _ e,a67 a _,⟨_,Heap.get?_push_size _ rfl,rfl,rfl⟩,fun b hb=> ?_,q⟩
 have e:b=s1.heap.objs.size:=by simpa using hb
 subst e
 exact I1.fpOk (Nat.le_refl _) (I1.hok.fresh (Nat.le_refl _))
theorem a7n{R:It->Hp->Prop}{lo hi:Int}{t u v:Tok}{tk:Nat}(I:aD X pins σ H s)(h1: -(2^ 62)<=lo)(h2:lo<2^ 62)(h3: -(2^ 62)<=hi)(h4:hi<2^ 62)
 (q:R (nD lo (hi- lo).toNat) H):wpAny (model X.prog X.w) X.A (pyIter (.ref s.heap.objs.size)) (yQ X pins σ tg R) E {s with heap:=s.heap.push {cls:=.type "range",data:=.fields #[.int lo t,.int hi u,.int 1 v]},toks:=tk}:=by
 refine wpAny_pyIter_range (IsRange.new ..) (small_one h1 h2 h3 h4) ?_
 have I1:aD X pins σ H {s with heap:=s.heap.push {cls:=.type "range",data:=.fields #[.int lo t,.int hi u,.int 1 v]},toks:=tk}:=I.kept fun b o e=>Heap.get?_push_of_some _ e
 refine⟨(s.heap.push {cls:=.type "range",data:=.fields #[.int lo t,.int hi u,.int 1 v]}).objs.size,[(s.heap.push {cls:=.type "range",data:=.fields #[.int lo t,.int hi u,.int 1 v]}).objs.size],_,_,H,rfl,
  I1.kept (t':=tk) fun b o e=>Heap.get?_push_of_some _ e,a6s _ lo (hi- lo).toNat,?_,fun b hb=> ?_,q⟩
 ·have e1:lo+ ((0:Nat):Int)* 1=lo:=by simp
  have e2:(((hi- lo).toNat:Nat):Int)- ((0:Nat):Int)=Builtin.Range.rangeSize lo hi 1:=by rw[rangeSize_one];split<;>omega
  show IsRangeIter _ _ (lo+ ((0:Nat):Int)* 1) ((((hi- lo).toNat:Nat):Int)- ((0:Nat):Int)) 1
  rw[e1,e2]
  exact Heap.get?_push_size _ rfl
 ·have e:b=(s.heap.push {cls:=.type "range",data:=.fields #[.int lo t,.int hi u,.int 1 v]}).objs.size:=by simpa using hb
  subst e
  exact I1.fpOk (Nat.le_refl _) (I1.hok.fresh (Nat.le_refl _))
def a4L(ta:TA):TI:=fun σ H R=>ta σ H fun vs H1=>∃j:Int,vs= [.int j] /\ -(2^ 62)<=j/\j<2^ 62/\R (nD 0 j.toNat) H1
theorem pK{a:Expr}{ta:TA}{p pos:Pos}(hg:Gl X "range")(hm:X.mg "range"=none)(ha:PA X [a] ta)(hs:starEach [a] X.env= [(false,eval a X.env)]:=by rfl):PI X tg (.Call (.Name "range" p) [a] [] pos) (a4L ta):=by
 intro pins s σ H R I h
 refine Call_ (qC I hg hm boot_range (PyProof.Rows.callWith_type1 (aT (ha pos pins s σ H _ I h) ?_) hs rfl))
 rintro us s1 ⟨vs,H1,I1,r1,q1⟩
 obtain⟨j,e,q1,q2,q⟩:=q1
 subst e
 cases r1 with
 |cons r rr=>
  cases rr
  obtain⟨t,rfl⟩:=r
  exact call_range_1 (a7n I1 (by omega) (by omega) q1 q2 (by simpa using q))
def tFor(wi:TI)(g:TG)(tb:TS):TS:=fun D σ H=>wi σ H fun J H1=>∃W:Nat->Nat->St->Hp->Prop,(∃m,W 0 m σ H1)/\∀i m σ H,W i m σ H->
 (J.stop i H/\D.nx σ H)\/ (J.go i H/\∃N:St->Hp->Prop,(∀σ' H',N σ' H'->∃m',m'<m/\W (i+ 1) m' σ' H')/\∀x H',J.yld i H x H'->g x σ H' fun σ2 H2=>tb {D with nx:=N,ct:=N,bk:=D.nx} σ2 H2)
noncomputable def qZ (fp:List Addr) (h:Heap):List (Addr×Obj):=fp.filterMap fun b=>(h.get? b).map fun o=>(b,o)
theorem tK{o:Obj}(hb:b∈fp)(e:h.get? b=some o):(b,o)∈qZ fp h:=List.mem_filterMap.mpr ⟨b,hb,by rw[e];rfl⟩
theorem a6X{p:Addr×Obj}(hp:p∈qZ fp h):p.1∈fp/\h.get? p.1=some p.2:=by
 obtain⟨b,hb,e⟩:=List.mem_filterMap.mp hp
 cases q:h.get? b with
 |none=>rw[q]at e;cases e
 |some o=>
  rw[q]at e
  have e':(b,o)=p:=Option.some.inj e
  subst e'
  exact⟨hb,q⟩
theorem aD.pinned(I:aD X pins σ H s)(hf:∀b∈fp,jH X pins H b)(ho:∀b∈fp,∃o,s.heap.get? b=some o/\∀v,o.data≠ .cell v):aD X (pins++ qZ fp s.heap) σ H s:=
 I.pins_of fun p hp=>(List.mem_append.mp hp).elim (fun z=>I.pin p (List.mem_append_right _ z)) fun z=>by
  obtain⟨hb,e⟩:=a6X z
  obtain⟨f0,f1,f2,_⟩:=hf p.1 hb
  obtain⟨o,e',d⟩:=ho p.1 hb
  rw[e]at e';cases e'
  exact⟨e,f0,f1,f2,d⟩
theorem aD.unpinned{pl:List (Addr×Obj)}(I:aD X (pins++ pl) σ H s):aD X pins σ H s:=I.pins_of fun p hp=>I.pin p (List.mem_append_right _ (List.mem_append_left _ hp))
theorem kH{body:List Stmt}{wi:TI}{tb:TS}{pos:Pos}(hp:PassesOwn (model X.prog X.w) X.A X.env X.xe)(hc:X.calm=true)(hi:PI X tg iter wi)(hg:PG X tg g)(hb:dU X body tb)
 (hs:∀x,foldedSetIterable iter X.env x=pure x:=by intro _;rfl):PS X (.For tg iter body [] pos) (tFor wi g tb):=by
 intro pins s σ H D I h
 refine wpAny_For (aT (hi pins s σ H _ I h) fun v s1 h1=>aT h1 fun itv s2 h2=> ?_) hs
 obtain⟨it,fp,tn,J,H2,e,I2,T,st2,f2,W,⟨m0,w0⟩,turn⟩:=h2
 subst e
 have stat:∀{H':Hp},(∀b∈fp,H' b=none)->∀b∈fp,jH X pins H' b:=fun hn b hb=>⟨hn b hb,(f2 b hb).2⟩
 refine codeAny_forLoop_any (fun n s'=>∃i σ' H',aD X pins σ' H' s'/\tn i s'.heap/\(∀b∈fp,H' b=none)/\W i n σ' H') ?_ m0 ⟨0,σ,H2,I2,st2,fun b hb=>(f2 b hb).1,w0⟩
 rintro n s3 ⟨i,σ3,H3,I3,st3,fr3,w3⟩
 rcases turn i n σ3 H3 w3 with⟨stop,qn⟩|⟨go,N,hN,step⟩
 ·refine wpAny_passesOwn hp (aT (T.done X rfl rfl rfl hc i pins s3 σ3 H3 X.xe I3 (stat fr3) st3 stop) fun r s4 ⟨hr,I4⟩=> ?_)
  subst hr
  exact wpAny_execs_nil ⟨σ3,H3,I4,qn⟩
 ·refine wpAny_passesOwn hp (aT (T.item X rfl rfl rfl hc i pins s3 σ3 H3 X.xe I3 (stat fr3) st3 go) fun r s4 ⟨u,hr,h4⟩=> ?_)
  subst hr
  refine wpAny_passesOwn hp (aT h4 ?_)
  rintro _ s5 ⟨x,H5,I5,r5,y5,st5,fr5⟩
  have I5':=I5.pinned (stat fr5) (T.obj _ _ st5)
  refine wpAny_passesOwn hp (aT (hg _ s5 σ3 H5 x u _ I5' r5 (step x H5 y5)) ?_)
  rintro _ s6 ⟨σ6,H6,I6,q6⟩
  refine wpAny_passesOwn hp (aT (hb _ s6 σ6 H6 _ I6 q6) fun f s7 q7=> ?_)
  have again:∀{σ7:St} {H7:Hp},aD X (pins++ qZ fp s5.heap) σ7 H7 s7->N σ7 H7->∃m,m<n/\∃i σ' H',aD X pins σ' H' s7/\tn i s7.heap/\(∀b∈fp,H' b=none)/\W i m σ' H':=fun{σ7 H7} I7 n7=>by
   obtain⟨m',hm,w7⟩:=hN σ7 H7 n7
   refine⟨m',hm,i+ 1,σ7,H7,I7.unpinned,T.keep _ _ _ st5 fun b hb o e=>(I7.pin (b,o) (List.mem_append_right _ (List.mem_append_right _ (tK hb e)))).1,fun b hb=> ?_,w7⟩
   obtain⟨o,e,d⟩:=T.obj _ _ st5 b hb
   exact(I7.pin (b,o) (List.mem_append_right _ (List.mem_append_right _ (tK hb e)))).2.1
  cases f with
  |next=>obtain⟨σ7,H7,I7,n7⟩:=q7;exact again I7 n7
  |cont=>obtain⟨σ7,H7,I7,n7⟩:=q7;exact again I7 n7
  |brk=>obtain⟨σ7,H7,I7,q7⟩:=q7;exact⟨σ7,H7,I7.unpinned,q7⟩
  |ret v=>obtain⟨x7,σ7,H7,I7,r7,q7⟩:=q7;exact⟨x7,σ7,H7,I7.unpinned,r7,q7⟩
end
theorem oY{tb:TS}{D:iX}(Pv:Nat->St->Hp->Prop)(h0:Pv 0 σ H)(hl:∀i σ H,i<=xs.length->Pv i σ H->aN K H a xs)
 (hs:∀i x σ H,xs[i]?=some x->Pv i σ H->g x σ H fun σ2 H2=>tb {D with nx:=Pv (i+ 1),ct:=Pv (i+ 1),bk:=D.nx} σ2 H2)(hd:∀σ H,Pv xs.length σ H->D.nx σ H):
 ∃W:Nat->Nat->St->Hp->Prop,(∃m,W 0 m σ H)/\∀i m σ H,W i m σ H->
  ((qF K a).stop i H/\D.nx σ H)\/ ((qF K a).go i H/\∃N:St->Hp->Prop,(∀σ' H',N σ' H'->∃m',m'<m/\W (i+ 1) m' σ' H')/\∀x H',(qF K a).yld i H x H'->g x σ H' fun σ2 H2=>tb {D with nx:=N,ct:=N,bk:=D.nx} σ2 H2):=by
 refine⟨fun i m σ H=>m=xs.length- i/\i<=xs.length/\Pv i σ H,⟨xs.length,by simp,Nat.zero_le _,h0⟩,?_⟩
 rintro i m σ H ⟨rfl,hi,p⟩
 have q:=hl i σ H hi p
 by_cases hlt:i<xs.length
 ·refine .inr ⟨⟨xs,xs[i],q,by simp[hlt]⟩,Pv (i+ 1),fun σ' H' p'=>⟨xs.length- (i+ 1),by omega,rfl,hlt,p'⟩,fun x H' y=> ?_⟩
  obtain⟨e,y⟩:=y
  subst e
  exact hs i x σ _ (y xs q) p
 ·have e:i=xs.length:=by omega
  subst e
  exact .inl ⟨⟨xs,q,Nat.le_refl _⟩,hd σ H p⟩
theorem yP{lo:Int}{n:Nat}{tb:TS}{D:iX}(Pv:Nat->St->Hp->Prop)(h0:Pv 0 σ H)
 (hs:∀i σ H,i<n->Pv i σ H->g (.int (lo+ i)) σ H fun σ2 H2=>tb {D with nx:=Pv (i+ 1),ct:=Pv (i+ 1),bk:=D.nx} σ2 H2)(hd:∀σ H,Pv n σ H->D.nx σ H):
 ∃W:Nat->Nat->St->Hp->Prop,(∃m,W 0 m σ H)/\∀i m σ H,W i m σ H->
  ((nD lo n).stop i H/\D.nx σ H)\/ ((nD lo n).go i H/\∃N:St->Hp->Prop,(∀σ' H',N σ' H'->∃m',m'<m/\W (i+ 1) m' σ' H')/\∀x H',(nD lo n).yld i H x H'->g x σ H' fun σ2 H2=>tb {D with nx:=N,ct:=N,bk:=D.nx} σ2 H2):=by
 refine⟨fun i m σ H=>m=n- i/\i<=n/\Pv i σ H,⟨n,by simp,Nat.zero_le _,h0⟩,?_⟩
 rintro i m σ H ⟨rfl,hi,p⟩
 by_cases hlt:i<n
 ·refine .inr ⟨hlt,Pv (i+ 1),fun σ' H' p'=>⟨n- (i+ 1),by omega,rfl,hlt,p'⟩,fun x H' y=> ?_⟩
  obtain⟨e,y⟩:=y
  subst e y
  exact hs i σ _ hlt p
 ·have e:i=n:=by omega
  subst e
  exact .inl ⟨Nat.le_refl _,hd σ H p⟩
abbrev R2:=V->V->Hp->VK->Prop
variable{r:R2}
def dN(X:Cx)(f:Value->Value->Sem Value)(r:R2):Prop:=
 ∀(pins:List (Addr×Obj)) (s:Shared) (σ:St) (H:Hp) (x y:V) (v u:Value) (Q:VK),aD X pins σ H s->aZ x v->aZ y u->r x y H Q->
  wpAny (model X.prog X.w) X.A (f v u) (EP X pins σ Q) X.xe s
def xQ(X:Cx)(f:Value->Sem Value)(r:V->Hp->VK->Prop):Prop:=
 ∀(pins:List (Addr×Obj)) (s:Shared) (σ:St) (H:Hp) (x:V) (v:Value) (Q:VK),aD X pins σ H s->aZ x v->r x H Q->
  wpAny (model X.prog X.w) X.A (f v) (EP X pins σ Q) X.xe s
def iK(X:Cx)(f:Value)(r:List V->Hp->VK->Prop):Prop:=
 ∀(pins:List (Addr×Obj)) (s:Shared) (σ:St) (H:Hp) (xs:List V) (us:List Value) (Q:VK),aD X pins σ H s->aX xs us->r xs H Q->
  wpAny (model X.prog X.w) X.A (call f us) (EP X pins σ Q) X.xe s
def TruR(X:Cx)(r:V->Hp->(Bool->Hp->Prop)->Prop):Prop:=
 ∀(pins:List (Addr×Obj)) (s:Shared) (σ:St) (H:Hp) (x:V) (v:Value) (Q:Bool->Hp->Prop),aD X pins σ H s->aZ x v->r x H Q->
  wpAny (model X.prog X.w) X.A (truthy v) (TP X pins σ Q) X.xe s
def lV(r:R2)(ta tb:TE):TE:=fun σ H Q=>ta σ H fun x H1=>tb σ H1 fun y H2=>r x y H2 Q
def tUn(r:V->Hp->VK->Prop)(ta:TE):TE:=fun σ H Q=>ta σ H fun x H1=>r x H1 Q
noncomputable def rI (C:Int->Int->Prop) (g:Int->Int->V):R2:=fun x y H Q=>∃i j,x= .int i/\y= .int j/\C i j/\Q (g i j) H
noncomputable def mL (g:Int->Int->V):R2:=fun x y H Q=>∃i j,x= .int i/\y= .int j/\Q (g i j) H
def rU(g:Int->V):V->Hp->VK->Prop:=fun x H Q=>∃i,x= .int i/\Q (g i) H
section
variable{a b c:Expr}{tc:TE}{pos:Pos}
theorem zO(ha:PE X a ta)(hb:PE X b tb){R:V->V->Hp->Prop}(I:aD X pins σ H s)
 (h:ta σ H fun x H1=>tb σ H1 fun y H2=>R x y H2){f:Value->Value->Sem Value}
 (hf:∀v u s2 x y H2,aD X pins σ H2 s2->aZ x v->aZ y u->R x y H2->wpAny (model X.prog X.w) X.A (f v u) Q X.xe s2):
 wpAny (model X.prog X.w) X.A (eval a X.env) (fun v s₁=>wpAny (model X.prog X.w) X.A (eval b X.env) (fun u s₂=>wpAny (model X.prog X.w) X.A (f v u) Q X.xe s₂) X.xe s₁) X.xe s:=by
 refine aT (ha pins s σ H _ I h) ?_
 rintro v s1 ⟨x,H1,I1,r1,q1⟩
 refine aT (hb pins s1 σ H1 _ I1 q1) ?_
 rintro u s2 ⟨y,H2,I2,r2,q2⟩
 exact hf v u s2 x y H2 I2 r1 r2 q2
theorem cG{op:Operator}(ho:dN X (binaryOp op) r)(ha:PE X a ta)(hb:PE X b tb):PE X (.BinOp a op b pos) (lV r ta tb):=by
 intro pins s σ H Q I h
 exact wpAny_BinOp (zO ha hb I h fun v u s2 x y H2 I2 rx ry q=>ho pins s2 σ H2 x y v u Q I2 rx ry q)
theorem xZ{op:UnaryOp}{r:V->Hp->VK->Prop}(ho:xQ X (unaryOp op) r)(ha:PE X a ta):PE X (.UnaryOp op a pos) (tUn r ta):=by
 intro pins s σ H Q I h
 exact UnaryOp_ (aT (ha pins s σ H _ I h) fun v s1 ⟨x,H1,I1,r1,q1⟩=>ho pins s1 σ H1 x v Q I1 r1 q1)
theorem vK{f:Value->Value->Sem Value}{C:Int->Int->Prop}{g:Int->Int->Int}
 (rule:∀(i j:Int) (t u:Tok) (s:Shared) (Q:Value->Shared->Prop) (E:Value->Shared->Prop),C i j->Q (.int (g i j) s.toks) {s with toks:=s.toks+ 1} ->wpAny (model X.prog X.w) X.A (f (.int i t) (.int j u)) Q E s):
 dN X f (rI C fun i j=> .int (g i j)):=by
 intro pins s σ H x y v u Q I rx ry h
 obtain⟨i,j,rfl,rfl,hc,q⟩:=h
 obtain⟨t,rfl⟩:=rx
 obtain⟨t',rfl⟩:=ry
 exact rule i j t t' s _ _ hc ⟨.int (g i j),H,I.tok _,⟨_,rfl⟩,q⟩
theorem opI0{f:Value->Value->Sem Value}{g:Int->Int->Int}
 (rule:∀(i j:Int) (t u:Tok) (s:Shared) (Q:Value->Shared->Prop) (E:Value->Shared->Prop),Q (.int (g i j) s.toks) {s with toks:=s.toks+ 1} ->wpAny (model X.prog X.w) X.A (f (.int i t) (.int j u)) Q E s):
 dN X f (mL fun i j=> .int (g i j)):=by
 intro pins s σ H x y v u Q I rx ry h
 obtain⟨i,j,rfl,rfl,q⟩:=h
 obtain⟨t,rfl⟩:=rx
 obtain⟨t',rfl⟩:=ry
 exact rule i j t t' s _ _ ⟨.int (g i j),H,I.tok _,⟨_,rfl⟩,q⟩
theorem uQ{f:Value->Value->Sem Value}{g:Int->Int->Bool}
 (rule:∀(i j:Int) (t u:Tok) (s:Shared) (Q:Value->Shared->Prop) (E:Value->Shared->Prop),Q (.bool (g i j)) s->wpAny (model X.prog X.w) X.A (f (.int i t) (.int j u)) Q E s):
 dN X f (mL fun i j=> .bl (g i j)):=by
 intro pins s σ H x y v u Q I rx ry h
 obtain⟨i,j,rfl,rfl,q⟩:=h
 obtain⟨t,rfl⟩:=rx
 obtain⟨t',rfl⟩:=ry
 exact rule i j t t' s _ _ ⟨.bl (g i j),H,I,rfl,q⟩
def CDiv(i j:Int):Prop:=0<j/\j<1073741824
def CPow(i j:Int):Prop:=0<=j/\j<=1000000/\i.natAbs<2^ 64
def xP(i j:Int):Prop:=(-(2^ 64)<i/\i<2^ 64)\/ (-(2^ 64)<j/\j<2^ 64)
theorem xP.ok{i j:Int}(h:xP i j):IntMulOk i j:=by
 rcases h with⟨h1,h2⟩|⟨h1,h2⟩
 ·exact .of_left (intBits_le_64 h1 h2)
 ·exact .of_right (intBits_le_64 h1 h2)
theorem gZ:dN X (binaryOp .Add) (mL fun i j=> .int (i+ j)):=opI0 fun _ _ _ _ _ _ _ q=>add_int q
theorem nE:dN X (binaryOp .Mult) (rI xP fun i j=> .int (i* j)):=vK fun _ _ _ _ _ _ _ hc q=>mul_int q hc.ok
theorem a5U:dN X (binaryOp .FloorDiv) (rI CDiv fun i j=> .int (i/ j)):=vK fun i j _ _ _ _ _ hc q=>by
 have h1:(0:Int)<j:=hc.1
 have h2:j<1073741824:=hc.2
 exact floordiv_int (by omega) (by rw[Int.fdiv_eq_ediv_of_nonneg i (by omega)];exact q) (.inl (PyProof.noPylong_small (by omega)))
theorem gG:dN X (binaryOp .Mod) (rI (fun _ j=>0<j) fun i j=> .int (i% j)):=vK fun i j _ _ _ _ _ hc q=>by
 have h1:(0:Int)<j:=hc
 exact mod_int' (by omega) (by rw[Int.fmod_eq_emod_of_nonneg i (by omega)];exact q)
theorem a7o:dN X (binaryOp .Pow) (rI CPow fun i j=> .int (i^ j.toNat)):=vK fun _ _ _ _ _ _ _ hc q=>pow_int_small hc.1 hc.2.1 hc.2.2 q
theorem unI{f:Value->Sem Value}{g:Int->Int}
 (rule:∀(i:Int) (t:Tok) (s:Shared) (Q:Value->Shared->Prop) (E:Value->Shared->Prop),Q (.int (g i) s.toks) {s with toks:=s.toks+ 1} ->wpAny (model X.prog X.w) X.A (f (.int i t)) Q E s):
 xQ X f (rU fun i=> .int (g i)):=by
 intro pins s σ H x v Q I rx h
 obtain⟨i,rfl,q⟩:=h
 obtain⟨t,rfl⟩:=rx
 exact rule i t s _ _ ⟨.int (g i),H,I.tok _,⟨_,rfl⟩,q⟩
theorem zI:xQ X (unaryOp .USub) (rU fun i=> .int (-i)):=unI fun _ _ _ _ _ q=>neg_int q
end
noncomputable def scal:V->V->Bool
 | .non,.non=>true| .non,.int _=>true| .int _,.non=>true| .non,.bl _=>true| .bl _,.non=>true| .non,.str _=>true| .str _,.non=>true
 | .int _,.int _=>true| .bl _,.bl _=>true| .str _,.str _=>true| .byt _,.byt _=>true
 | .int _,.str _=>true| .str _,.int _=>true| .bl _,.str _=>true| .str _,.bl _=>true
 |_,_=>false
noncomputable def rEq:R2:=fun x y H Q=>scal x y=true/\Q (.bl (decide (x=y))) H
noncomputable def rNe:R2:=fun x y H Q=>scal x y=true/\Q (.bl (!decide (x=y))) H
theorem a02{i j:Int}:decide (V.int i=V.int j)=(i==j):=by
 rw[Bool.eq_iff_iff]
 simp
theorem a1z{i j:Bool}:decide (V.bl i=V.bl j)=(i==j):=by
 rw[Bool.eq_iff_iff]
 simp
theorem a0C{i j:Str}:decide (V.str i=V.str j)=(i==j):=by
 rw[Bool.eq_iff_iff]
 simp
theorem a0w{i j:Array UInt8}:decide (V.byt i=V.byt j)=(i.toList==j.toList):=by
 rw[Bool.eq_iff_iff]
 cases i
 cases j
 simp
section
variable{a b c:Expr}{tc:TE}{pos:Pos}
theorem cT{Q:VK}{k k':Bool}(I:aD X pins σ H s)(q:Q (.bl k) H)(e:k=k'):EP X pins σ Q (.bool k') s:=by
 subst e
 exact⟨.bl k,H,I,rfl,q⟩
theorem mO:dN X (compareOp .Eq) rEq:=by
 intro pins s σ H x y v u Q I rx ry h
 obtain⟨hs,q⟩:=h
 cases x with
 |non=>
  cases rx
  cases y with
  |non=>cases ry;exact PySem.EqNone.eq_none_none (cT I q (by simp))
  |bl j=>cases ry;exact PySem.EqNone.eq_none_bool (cT I q (by simp))
  |int j=>obtain⟨t',rfl⟩:=ry;exact PySem.EqNone.eq_none_int (cT I q (by simp))
  |str j=>obtain⟨t',rfl⟩:=ry;exact PySem.EqNone.eq_none_str (cT I q (by simp))
  |_=>exact absurd (show false=true from hs) Bool.false_ne_true
 |bl i=>
  cases rx
  cases y with
  |non=>cases ry;exact PySem.EqNone.eq_bool_none (cT I q (by simp))
  |bl j=>cases ry;exact eq_bool (cT I q a1z)
  |str j=>obtain⟨t',rfl⟩:=ry;exact PySem.EqMixed.eq_bool_str (cT I q (by simp))
  |_=>exact absurd (show false=true from hs) Bool.false_ne_true
 |int i=>
  obtain⟨t,rfl⟩:=rx
  cases y with
  |non=>cases ry;exact PySem.EqNone.eq_int_none (cT I q (by simp))
  |int j=>obtain⟨t',rfl⟩:=ry;exact eq_int (cT I q a02)
  |str j=>obtain⟨t',rfl⟩:=ry;exact PySem.EqMixed.eq_int_str (cT I q (by simp))
  |_=>exact absurd (show false=true from hs) Bool.false_ne_true
 |str i=>
  obtain⟨t,rfl⟩:=rx
  cases y with
  |non=>cases ry;exact PySem.EqNone.eq_str_none (cT I q (by simp))
  |bl j=>cases ry;exact PySem.EqMixed.eq_str_bool (cT I q (by simp))
  |int j=>obtain⟨t',rfl⟩:=ry;exact PySem.EqMixed.eq_str_int (cT I q (by simp))
  |str j=>obtain⟨t',rfl⟩:=ry;exact eq_str (cT I q a0C)
  |_=>exact absurd (show false=true from hs) Bool.false_ne_true
 |byt i=>
  obtain⟨t,rfl⟩:=rx
  cases y with
  |byt j=>obtain⟨t',rfl⟩:=ry;exact W.eq_bytes (cT I q a0w)
  |_=>exact absurd (show false=true from hs) Bool.false_ne_true
 |_=>cases y<;>exact absurd (show false=true from hs) Bool.false_ne_true
theorem a20:dN X (compareOp .NotEq) rNe:=by
 intro pins s σ H x y v u Q I rx ry h
 obtain⟨hs,q⟩:=h
 cases x with
 |non=>
  cases rx
  cases y with
  |non=>cases ry;exact PySem.EqNone.ne_none_none (cT I q (by simp))
  |bl j=>cases ry;exact PySem.EqNone.ne_none_bool (cT I q (by simp))
  |int j=>obtain⟨t',rfl⟩:=ry;exact PySem.EqNone.ne_none_int (cT I q (by simp))
  |str j=>obtain⟨t',rfl⟩:=ry;exact PySem.EqNone.ne_none_str (cT I q (by simp))
  |_=>exact absurd (show false=true from hs) Bool.false_ne_true
 |bl i=>
  cases rx
  cases y with
  |non=>cases ry;exact PySem.EqNone.ne_bool_none (cT I q (by simp))
  |bl j=>cases ry;exact ne_bool (cT I q (congrArg not a1z))
  |str j=>obtain⟨t',rfl⟩:=ry;exact PySem.EqMixed.ne_bool_str (cT I q (by simp))
  |_=>exact absurd (show false=true from hs) Bool.false_ne_true
 |int i=>
  obtain⟨t,rfl⟩:=rx
  cases y with
  |non=>cases ry;exact PySem.EqNone.ne_int_none (cT I q (by simp))
  |int j=>obtain⟨t',rfl⟩:=ry;exact ne_int (cT I q (congrArg not a02))
  |str j=>obtain⟨t',rfl⟩:=ry;exact PySem.EqMixed.ne_int_str (cT I q (by simp))
  |_=>exact absurd (show false=true from hs) Bool.false_ne_true
 |str i=>
  obtain⟨t,rfl⟩:=rx
  cases y with
  |non=>cases ry;exact PySem.EqNone.ne_str_none (cT I q (by simp))
  |bl j=>cases ry;exact PySem.EqMixed.ne_str_bool (cT I q (by simp))
  |int j=>obtain⟨t',rfl⟩:=ry;exact PySem.EqMixed.ne_str_int (cT I q (by simp))
  |str j=>obtain⟨t',rfl⟩:=ry;exact ne_str (cT I q (congrArg not a0C))
  |_=>exact absurd (show false=true from hs) Bool.false_ne_true
 |byt i=>
  obtain⟨t,rfl⟩:=rx
  cases y with
  |byt j=>obtain⟨t',rfl⟩:=ry;exact W.ne_bytes (cT I q (congrArg not a0w))
  |_=>exact absurd (show false=true from hs) Bool.false_ne_true
 |_=>cases y<;>exact absurd (show false=true from hs) Bool.false_ne_true
theorem a0m:dN X (compareOp .Lt) (mL fun i j=> .bl (decide (i<j))):=uQ fun _ _ _ _ _ _ _ q=>lt_int q
theorem qU:dN X (compareOp .LtE) (mL fun i j=> .bl (decide (i<=j))):=uQ fun _ _ _ _ _ _ _ q=>le_int q
theorem a0B:dN X (compareOp .Gt) (mL fun i j=> .bl (decide (j<i))):=uQ fun _ _ _ _ _ _ _ q=>gt_int q
theorem xM:dN X (compareOp .GtE) (mL fun i j=> .bl (decide (j<=i))):=uQ fun _ _ _ _ _ _ _ q=>ge_int q
theorem a8R:dN X (compareOp .In) (fun x y H Q=>∃i j,x= .str i/\y= .str j/\Q (.bl (!(Builtin.Str.occurrences j i 0 j.length 1).isEmpty)) H):=by
 intro pins s σ H x y v u Q I rx ry h
 obtain⟨i,j,rfl,rfl,q⟩:=h
 obtain⟨t,rfl⟩:=rx
 obtain⟨t',rfl⟩:=ry
 exact in_str (cT I q rfl)
theorem oF:dN X (compareOp .Is) (fun x y H Q=>y= .non/\Q (.bl (decide (x= .non))) H):=by
 intro pins s σ H x y v u Q I rx ry h
 obtain⟨rfl,q⟩:=h
 cases ry
 refine is_none_gen (cT I q ?_)
 cases x<;>first
  |(cases rx;rfl)
  |(obtain⟨t,rfl⟩:=rx;rfl)
theorem a5J:dN X (compareOp .IsNot) (fun x y H Q=>y= .non/\Q (.bl (!decide (x= .non))) H):=by
 intro pins s σ H x y v u Q I rx ry h
 obtain⟨rfl,q⟩:=h
 cases ry
 refine isnot_none_gen (cT I q ?_)
 cases x<;>first
  |(cases rx;rfl)
  |(obtain⟨t,rfl⟩:=rx;rfl)
theorem cX(b:Expr){op:CmpOp}(h:op≠ .In:=by decide)(h2:op≠ .NotIn:=by decide):behindInMarks op b=false:=by
 have e1:(op==CmpOp.In)=false:=by cases op<;>first|rfl|exact absurd rfl h
 have e2:(op==CmpOp.NotIn)=false:=by cases op<;>first|rfl|exact absurd rfl h2
 cases b<;>simp[behindInMarks,e1,e2]
theorem tO{op:CmpOp}(ho:dN X (compareOp op) r)(ha:PE X a ta)(hb:PE X b tb)(hm:behindInMarks op b=false):PE X (.Compare a [op] [b] pos) (lV r ta tb):=by
 intro pins s σ H Q I h
 exact wpAny_Compare1 (zO ha hb I h fun v u s2 x y H2 I2 rx ry q=>ho pins s2 σ H2 x y v u Q I2 rx ry q) hm
def a2r(t:TE):TT:=fun σ H Q=>t σ H fun x H'=>∃k,x= .bl k/\Q k H'
theorem cN{op:CmpOp}(ho:dN X (compareOp op) r)(ha:PE X a ta)(hb:PE X b tb)(hm:behindInMarks op b=false):PT X (.Compare a [op] [b] pos) (a2r (lV r ta tb)):=by
 intro pins s σ H Q I h
 refine wpAny_isTrue_Compare1 (aT (ha pins s σ H _ I h) fun v s1 ⟨x,H1,I1,r1,q1⟩=>aT (hb pins s1 σ H1 _ I1 q1) fun u s2 ⟨y,H2,I2,r2,q2⟩=>
  aT (ho pins s2 σ H2 x y v u _ I2 r1 r2 q2) fun c s3 ⟨z,H3,I3,r3,k,e,q3⟩=> ?_) hm
 subst e
 cases r3
 exact wpAny_truthy_bool ⟨H3,I3,q3⟩
def a6i(r r':R2)(ta tb tc:TE):TE:=fun σ H Q=>ta σ H fun x H1=>tb σ H1 fun y H2=>r x y H2 fun z H3=>∃k,z= .bl k/\
 (if k=true then tc σ H3 fun w' H4=>r' y w' H4 Q else Q (.bl false) H3)
theorem zY{op op':CmpOp}{r':R2}(ho:dN X (compareOp op) r)(ho':dN X (compareOp op') r')(ha:PE X a ta)(hb:PE X b tb)(hc:PE X c tc)
 (hm:lastMarks [op,op'] [b,c]=false:=by with_unfolding_all rfl):PT X (.Compare a [op,op'] [b,c] pos) (a2r (a6i r r' ta tb tc)):=by
 intro pins s σ H Q I h
 refine isTrue_chain (aT (ha pins s σ H _ I h) fun v s1 ⟨x,H1,I1,r1,q1⟩=>test_link (aT (hb pins s1 σ H1 _ I1 q1) fun u s2 ⟨y,H2,I2,r2,q2⟩=>
  aT (ho pins s2 σ H2 x y v u _ I2 r1 r2 q2) fun d s3 ⟨z,H3,I3,r3,k,e,q3⟩=> ?_)) hm
 subst e
 cases r3
 refine wpAny_truthy_bool ?_
 cases k with
 |false=>
  obtain⟨k',e',q'⟩:=q3
  cases e'
  exact ite_ff ⟨H3,I3,q'⟩
 |true=>
  refine ite_tt (test_last (aT (hc pins s3 σ H3 _ I3 q3) fun w' s4 ⟨z',H4,I4,r4,q4⟩=>aT (ho' pins s4 σ H4 y z' u w' _ I4 r2 r4 q4) fun d' s5 ⟨z2,H5,I5,r5,k2,e2,q5⟩=> ?_))
  subst e2
  cases r5
  exact wpAny_truthy_bool ⟨H5,I5,q5⟩
def TruV(K:Fg)(x:V)(H:Hp)(k:Bool):Prop:=
 match x with
 | .non=>k=false
 | .bl b=>k=b
 | .int i=>k=(i !=0)
 | .str y=>y.length<=sizeLine/\k=((y.length:Int) !=0)
 | .byt y=>y.size<=sizeLine/\k=((y.size:Int) !=0)
 | .ref p=>(∃xs,aN K H p xs/\k= !xs.isEmpty)\/ (∃xs,bU K H p xs/\k= !xs.isEmpty)\/ ∃kvs,H p=some (.dK kvs)/\k= !kvs.isEmpty
 |_=>False
theorem a4v{κ:Type}{kvs:List (κ×V)}{vs:List (κ×Value)}(r:KV kvs vs):(!vs.isEmpty)= !kvs.isEmpty:=by
 cases r<;>rfl
theorem a2c(r:aX xs its):(!its.toArray.isEmpty)= !xs.isEmpty:=by
 cases r<;>simp
theorem pF:(sizeLine:Nat)<2^ 63:=by rw[sizeLine_eq];decide
theorem a3P:TruR X (fun x H Q=>∃k,TruV X.K x H k/\Q k H):=by
 intro pins s σ H x v Q I rx h
 obtain⟨k,e,q⟩:=h
 have hl:=pF
 have hs:sizeLine=16777216:=sizeLine_eq
 cases x with
 |non=>
  cases rx
  have e':k=false:=e
  subst e'
  exact truthy_none ⟨H,I,q⟩
 |bl b=>
  cases rx
  have e':k=b:=e
  subst e'
  exact wpAny_truthy_bool ⟨H,I,q⟩
 |int i=>
  obtain⟨t,rfl⟩:=rx
  have e':k=(i !=0):=e
  subst e'
  exact PySem.P.truthy_int ⟨H,I,q⟩
 |str y=>
  obtain⟨t,rfl⟩:=rx
  obtain⟨hy,e'⟩:y.length<=sizeLine/\k=((y.length:Int) !=0):=e
  subst e'
  exact PySem.P.truthy_str (by omega) ⟨H,I.tok _,q⟩
 |byt y=>
  obtain⟨t,rfl⟩:=rx
  obtain⟨hy,e'⟩:y.size<=sizeLine/\k=((y.size:Int) !=0):=e
  subst e'
  exact W.truthy_bytes (by omega) ⟨H,I.tok _,q⟩
 |ref p=>
  cases rx
  have e':(∃xs,aN X.K H p xs/\k= !xs.isEmpty)\/ (∃xs,bU X.K H p xs/\k= !xs.isEmpty)\/ ∃kvs,H p=some (.dK kvs)/\k= !kvs.isEmpty:=e
  rcases e' with⟨xs,hx,e'⟩|⟨xs,hx,e'⟩|⟨kvs,hx,e'⟩
  ·subst e'
   obtain⟨its,r,pl,hz⟩:=I.list hx
   have hlen:=r.length
   exact wpAny_truthy_list pl.isList (by simp only[List.size_toArray];omega) ⟨H,I.tok _,by rw[a2c r];exact q⟩
  ·subst e'
   obtain⟨its,r,pl,hz⟩:=I.tuple hx
   have hlen:=r.length
   exact truthy_tuple pl (by simp only[List.size_toArray];omega) ⟨H,I.tok _,by rw[a2c r];exact q⟩
  ·subst e'
   obtain⟨hz,hS,vs,r,m⟩:kvs.length<=sizeLine/\(p==sysModules)=false/\∃vs,KV kvs vs/\s.heap.DictOf (fE X.prog X.w) p vs:=I.hok p _ hx
   have hlen:kvs.length=vs.length:=Paired.length r
   exact wpAny_truthy_dict hS m (by omega) ⟨H,I.tok _,by rw[a4v r];exact q⟩
 |_=>exact(show False from e).elim
theorem a0G(ha:PE X a ta)(he:∀whole,isTrue a X.env whole=(do let v<- whole;standAt a.pos;holding [v] (truthy v))):
 PT X a (fun σ H Q=>ta σ H fun x H'=>∃k,TruV X.K x H' k/\Q k H'):=by
 intro pins s σ H Q I h
 exact isTrue_plain (aT (ha pins s σ H _ I h) fun v s1 ⟨x,H1,I1,r1,q1⟩=>a3P pins s1 σ H1 x v Q I1 r1 q1) (he _)
theorem pN{x:V}(r:aX [x] us):∃u,us= [u] /\aZ x u:=by
 cases r with
 |cons r1 r2=>cases r2;exact⟨_,rfl,r1⟩
theorem a36:iK X (.builtin "abs") (fun xs H Q=>∃i,xs= [.int i] /\Q (.int (if i<0 then-i else i)) H):=by
 intro pins s σ H xs us Q I r h
 obtain⟨i,rfl,q⟩:=h
 obtain⟨u,rfl,t,rfl⟩:=pN r
 exact call_abs_int fun u tk=>⟨.int (if i<0 then-i else i),H,I.tok _,⟨_,rfl⟩,q⟩
def LenV(K:Fg)(x:V)(H:Hp)(n:Nat):Prop:=
 match x with
 | .str y=>y.length<=sizeLine/\n=y.length
 | .byt y=>y.size<=sizeLine/\n=y.size
 | .ref p=>(∃xs,aN K H p xs/\n=xs.length)\/ ∃xs,bU K H p xs/\n=xs.length
 |_=>False
theorem jJ:iK X (.builtin "len") (fun xs H Q=>∃x n,xs= [x] /\LenV X.K x H n/\Q (.int n) H):=by
 intro pins s σ H xs us Q I r h
 obtain⟨x,n,rfl,e,q⟩:=h
 obtain⟨u,rfl,rx⟩:=pN r
 have hl:=pF
 have hs:sizeLine=16777216:=sizeLine_eq
 cases x with
 |str y=>
  obtain⟨t,rfl⟩:=rx
  obtain⟨hy,e'⟩:y.length<=sizeLine/\n=y.length:=e
  subst e'
  exact len_str (by omega) ⟨.int _,H,I.tok _,⟨_,rfl⟩,q⟩
 |byt y=>
  obtain⟨t,rfl⟩:=rx
  obtain⟨hy,e'⟩:y.size<=sizeLine/\n=y.size:=e
  subst e'
  exact W.len_bytes (by omega) ⟨.int _,H,I.tok _,⟨_,rfl⟩,q⟩
 |ref p=>
  cases rx
  have e':(∃xs,aN X.K H p xs/\n=xs.length)\/ ∃xs,bU X.K H p xs/\n=xs.length:=e
  rcases e' with⟨xs,hx,e'⟩|⟨xs,hx,e'⟩
  ·subst e'
   obtain⟨its,r',pl,hz⟩:=I.list hx
   have hlen:=r'.length
   exact Calls.call_len_list pl.isList (by simp only[List.size_toArray];omega) ⟨.int xs.length,H,I.tok _,⟨_,by simp only[List.size_toArray];rw[hlen]⟩,q⟩
  ·subst e'
   obtain⟨its,r',pl,hz⟩:=I.tuple hx
   have hlen:=r'.length
   exact len_tuple pl (by simp only[List.size_toArray];omega) ⟨.int xs.length,H,I.tok _,⟨_,by simp only[List.size_toArray];rw[hlen]⟩,q⟩
 |_=>exact(show False from e).elim
end
structure mP(h:Heap)(x dx C:Addr)(mA:Str->Option Value):Prop where
 obj:h.get? x=some (W.instObj C dx)
 ns:h.Ns1 dx mA
 ne:dx≠x
theorem a6W{mA:Str->Option Value}(n:h.Ns1 dx mA):∃od,h.get? dx=some od/\∀name,W.lookIn name od=some (mA name):=by
 obtain⟨o,es,ep,ho,hd,hk,_,hm⟩:=n
 refine⟨o,ho,fun name=> ?_⟩
 have e:=hm name
 unfold nsFind findBy at e
 rw[<- Array.find?_toList]at e
 unfold W.lookIn
 rw[hd]
 dsimp only
 split
 ·rename_i y q
  rw[q]at e
  exact congrArg some e
 ·rename_i q
  rw[q]at e
  have a:es.toList.any (·.refKey)=false:=by
   rw[List.any_eq_false]
   intro y hy
   obtain⟨z,t,hkey⟩:=hk y (Array.mem_toList_iff.mp hy)
   simp[DictEntry.refKey,hkey]
  have a':¬es.toList.any (·.refKey)=true:=by rw[a];exact Bool.false_ne_true
  rw[if_neg a']
  exact congrArg some e
theorem mP.look{x:Addr}{mA:Str->Option Value}(I:mP h x dx C mA):∃od,W.InstAt h x (W.instObj C dx) C (some od)/\∀name,W.lookIn name od=some (mA name):=
 let ⟨od,ho,hl⟩:=a6W I.ns
 ⟨od,⟨I.obj,rfl,rfl,ho⟩,hl⟩
section
variable{x:Addr}{mA:Str->Option Value}{name:Str}{v:Value}
theorem a33{expr:Bool}(X:K.In s.heap)(I:mP s.heap x dx C mA)(hg:W.plainGet K C name=true)(hh:W.hasDictIn K C=true)
 (ha:W.findIn K (.ref C) name=some none)(hv:mA name=some v)(hv':W.handedIn v=true)(h:Q v {s with toks:=s.toks+ 1}):
 wpAny (model prog w) A (getAttr (.ref x) name expr) Q E s:=by
 obtain⟨od,J,hl⟩:=I.look
 exact W.get_value X J (W.plainGet_of hg).1 (W.findObj_own hh ha rfl (by rw[hl,hv])) hv' h
theorem a55{pl:Sem Bool}{Q:Value×List Value->Shared->Prop}(X:K.In s.heap)(I:mP s.heap x dx C mA)(hg:W.plainGet K C name=true)
 (hf:W.findIn K (.ref C) name=some (some (.ref f)))(ht:W.isFn K (.ref f)=true)(hv:mA name=none)(h:Q (.ref f,[.ref x]) s):
 wpAny (model prog w) A (getMethod (.ref x) name pl) Q E s:=by
 obtain⟨od,J,hl⟩:=I.look
 exact W.method_fn X J (W.plainGet_of hg).1 (W.plainGet_of hg).2 hf (beq_iff_eq.mp ht) (by show(W.lookIn name od).map (·.isSome)=some false;rw[hl,hv];rfl) h
theorem a3Y{ns:List Str}{Q:Unit->Shared->Prop}(X:K.In s.heap)(I:mP s.heap x dx C mA)
 (hs:W.findIn K (.ref C) "__setattr__"=some (some (.builtin "object.__setattr__")))(hp:W.plainOver K C=true)(ht:W.takerIn K C name=some none)(hh:W.hasDictIn K C=true)
 (hw:PySem.Within mA ns)(hsz:ns.length<=sizeLine)
 (h:∀h',mP h' x dx C (fun y=>if y=name then some v else mA y)->Heap.SameBut dx s.heap h'->Q () {s with heap:=h',toks:=s.toks+ 2}):
 wpAny (model prog w) A (setAttr (.ref x) name v) Q E s:=by
 obtain⟨od,J,hl⟩:=I.look
 refine W.set_plain X J hs (W.osa_open (s:={s with toks:=s.toks+ 1}) (r:=none) X J hp ht fun b=> ?_)
 obtain⟨cd,hc,hd'⟩:=W.any_some hh
 have hx:s.heap.get? x=some ⟨.ref C,some dx,.plain,#[]⟩:=I.obj
 refine wpAny_bind (wpAny_pure (wpAny_bind (wpAny_bind (wpAny_loadPart hx (wpAny_bind (W.Looks.here (s:={s with toks:=s.toks+ 1}) (W.looks_clsIn X hc) ?_))))))
 rw[hd']
 refine wpAny_pure (a:=some dx) (wpAny_bind (wpAny_pure (wpAny_bind ?_)))
 refine wpAny_nsSet1 (s:={s with toks:=s.toks+ 1}) I.ns fun h' hn2 hs2=> ?_
 obtain⟨oD,esD,epD,hoD,hdD,hcD⟩:=hn2.count (PySem.Within.cons name v hw)
 refine wpAny_bind (wpAny_lookBehind hoD (by rw[hdD];exact pastItsLine_dict (Nat.le_trans hcD (by rw[List.length_cons];omega))) ?_)
 exact wpAny_pure (h _ ⟨(hs2.2 _ (Ne.symm I.ne)).trans I.obj,hn2,I.ne⟩ hs2)
theorem a8x{R:Result->Shared->Prop}{vs:List Value}{kw:List (Str×Value)}(X:K.In s.heap)(hm:W.makesIn K C=true)
 (hi:W.findIn K (.ref C) "__init__"=some (some (.ref f)))(hf:W.typeIn K (.ref f)=some (.type "function"))
 (h:codeAny (model prog w) (A.under (.builtin "type.__call__" ⟨.ref C::vs,kw⟩)) (.call (.ref f) ⟨.ref (s.heap.objs.size+ 1)::vs,kw⟩) (W.InitBack (s.heap.objs.size+ 1) R)
  {s with heap:=(s.heap.push W.emptyDict).push (W.instObj C s.heap.objs.size)}):
 codeAny (model prog w) A (.call (.ref C) ⟨vs,kw⟩) R s:=by
 obtain⟨hh,g,d,t,os⟩:=s
 exact W.make_core (W.makes_of X hm) (W.looks_findIn X hi) (fun self=>W.bind_fn X self hf) (.inl rfl) h
end
noncomputable def aM (f:Str) (v:V):List (Str×V)->List (Str×V)
 | []=> [(f,v)]
 |(g,x)::r=>if g=f then(g,v)::r else(g,x)::aM f v r
theorem a1q(f g:Str)(v:V):∀fs:List (Str×V),(aM f v fs).lookup g=if g=f then some v else fs.lookup g
 | []=>by
  show List.lookup g [(f,v)]=_
  by_cases h:g=f
  ·have hb:(g==f)=true:=beq_iff_eq.mpr h
   simp only[List.lookup,hb,if_pos h]
  ·have hb:(g==f)=false:=beq_eq_false_iff_ne.mpr h
   simp only[List.lookup,hb,if_neg h]
 |(k,x)::r=>by
  have ih:=a1q f g v r
  rw[show aM f v ((k,x)::r)=(if k=f then(k,v)::r else(k,x)::aM f v r) from rfl]
  by_cases hk:k=f
  ·rw[if_pos hk]
   by_cases h:g=k
   ·have hb:(g==k)=true:=beq_iff_eq.mpr h
    simp only[List.lookup,hb,if_pos (h.trans hk)]
   ·have hb:(g==k)=false:=beq_eq_false_iff_ne.mpr h
    simp only[List.lookup,hb,if_neg (fun e:g=f=>h (e.trans hk.symm))]
  ·rw[if_neg hk]
   by_cases h:g=k
   ·have hb:(g==k)=true:=beq_iff_eq.mpr h
    simp only[List.lookup,hb,if_neg (fun e:g=f=>hk (h.symm.trans e))]
   ·have hb:(g==k)=false:=beq_eq_false_iff_ne.mpr h
    simp only[List.lookup,hb]
    exact ih
theorem zH(f:Str)(v:V):∀fs:List (Str×V),f∈(aM f v fs).map (·.1)/\∀g,g∈fs.map (·.1)->g∈(aM f v fs).map (·.1)
 | []=>⟨by simp[aM],fun g h=>by simp at h⟩
 |(k,x)::r=>by
  obtain⟨i1,i2⟩:=zH f v r
  rw[show aM f v ((k,x)::r)=(if k=f then(k,v)::r else(k,x)::aM f v r) from rfl]
  by_cases hk:k=f
  ·rw[if_pos hk]
   subst hk
   exact⟨by simp,fun g h=>by simpa using h⟩
  ·rw[if_neg hk]
   refine⟨?_,fun g h=> ?_⟩
   ·rw[List.map_cons]
    exact List.mem_cons_of_mem _ i1
   ·rw[List.map_cons]at h|-
    rcases List.mem_cons.mp h with e|e
    ·exact List.mem_cons.mpr (.inl e)
    ·exact List.mem_cons_of_mem _ (i2 g e)
theorem a2Z(f:Str)(v:V):∀fs:List (Str×V),(aM f v fs).length<=fs.length+ 1
 | []=>by simp[aM]
 |(k,x)::r=>by
  have ih:=a2Z f v r
  rw[show aM f v ((k,x)::r)=(if k=f then(k,v)::r else(k,x)::aM f v r) from rfl]
  by_cases hk:k=f
  ·rw[if_pos hk,List.length_cons,List.length_cons];omega
  ·rw[if_neg hk,List.length_cons,List.length_cons];omega
theorem fO.some_of{v:V}{o:Option Value}(r:fO (some v) o):∃u,o=some u/\aZ v u:=by
 cases o with
 |none=>exact(show False from r).elim
 |some u=>exact⟨u,rfl,r⟩
theorem fO.none_of{o:Option Value}(r:fO none o):o=none:=by
 cases o with
 |none=>rfl
 |some u=>exact(show False from r).elim
theorem a5b{v:V}(r:aZ v u):W.handedIn u=true:=by
 cases v with
 |non=>cases (show u=Value.none from r);rfl
 |bl b=>cases (show u=Value.bool b from r);rfl
 |int i=>obtain⟨t,e⟩:=(show∃t,u=Value.int i t from r);cases e;rfl
 |str x=>obtain⟨t,e⟩:=(show∃t,u=Value.str x t from r);cases e;rfl
 |byt b=>obtain⟨t,e⟩:=(show∃t,u=Value.bytes b t from r);cases e;rfl
 |flt b=>obtain⟨t,e⟩:=(show∃t,u=Value.float b t from r);cases e;rfl
 |ref a=>cases (show u=Value.ref a from r);rfl
 |ty n=>cases (show u=Value.type n from r);rfl
section
variable{fs fs':List (Str×V)}
theorem qK(hok:bX P w H h)(e:H a=some (.ins C dx fs)):∃mA,mP h a dx C mA/\(∀f,fO (fs.lookup f) (mA f))/\PySem.Within mA (fs.map (·.1))/\fs.length<=1000/\H dx=some (.own a):=by
 obtain⟨d,z,ne,ob,mA,n,r,q⟩:=(show cO P w H h a (.ins C dx fs) from hok a _ e)
 exact⟨mA,⟨ob,n,ne⟩,r,q,z,d⟩
end
structure cF(K:Fg)(C:Addr):Prop where
 pg:W.plainGet K C Str.empty=true
 hd:W.hasDictIn K C=true
 po:W.plainOver K C=true
 sa:W.findIn K (.ref C) "__setattr__"=some (some (.builtin "object.__setattr__"))
theorem cF.get(c:cF K C)(f:Str):W.plainGet K C f=true:=c.pg
def cB(K:Fg)(C:Addr)(f:Str):Prop:=W.findIn K (.ref C) f=some none
theorem cB.taker{f:Str}(n:cB K C f):W.takerIn K C f=some none:=by
 unfold W.takerIn
 rw[show W.findIn K (.ref C) f=some none from n]
 rfl
structure Con(K:Fg)(C:Addr)(f:Str)(v:V)(u:Value):Prop where
 at_:W.findIn K (.ref C) f=some (some u)
 rel:aZ v u
 get:W.specialIn K u "__get__"=some none
 cp:W.copiedNames.contains f=false
structure rD(K:Fg)(C:Addr)(m:Str)(f:Addr):Prop where
 at_:W.findIn K (.ref C) m=some (some (.ref f))
 fn:W.isFn K (.ref f)=true
 kp:W.keepIn K (.ref f)=true
section
variable{fs:List (Str×V)}{f:Str}{v:V}
theorem a2f{b:Bool}(I:aD X pins σ H s)(e:H a=some (.ins C dx fs))(c:cF X.K C)(n:cB X.K C f)(l:fs.lookup f=some v)
 (h:∀u s',aD X pins σ H s'->aZ v u->Q u s'):wpAny (model X.prog X.w) A (getAttr (.ref a) f b) Q E s:=by
 obtain⟨mA,O,r,_,_,_⟩:=qK I.hok e
 obtain⟨u,hu,ru⟩:=fO.some_of (v:=v) (o:=mA f) (by rw[<- l];exact r f)
 exact a33 I.kIn O (c.get f) c.hd n hu (a5b ru) (h u _ (I.tok _) ru)
theorem rW{g:Addr}{pl:Sem Bool}{Q:Value×List Value->Shared->Prop}(I:aD X pins σ H s)(e:H a=some (.ins C dx fs))(c:cF X.K C)(k:rD X.K C m g)(l:fs.lookup m=none)
 (h:Q (.ref g,[.ref a]) s):wpAny (model X.prog X.w) A (getMethod (.ref a) m pl) Q E s:=by
 obtain⟨mA,O,r,_,_,_⟩:=qK I.hok e
 have hn:mA m=none:=fO.none_of (by rw[<- l];exact r m)
 exact a55 I.kIn O (c.get m) k.at_ k.fn hn h
theorem a7y{Q:Unit->Shared->Prop}(I:aD X pins σ H s)(e:H a=some (.ins C dx fs))(c:cF X.K C)(n:cB X.K C f)(hl:fs.length<1000)(ry:aZ y u)
 (h:∀s',aD X pins σ (upd H a (.ins C dx (aM f y fs))) s'->Q () s'):wpAny (model X.prog X.w) A (setAttr (.ref a) f u) Q E s:=by
 obtain⟨mA,O,r,wi,_,ho⟩:=qK I.hok e
 have hz:(fs.map (·.1)).length<=sizeLine:=by rw[List.length_map,sizeLine_eq];omega
 refine a3Y I.kIn O c.sa c.po n.taker c.hd wi hz fun h' O' sb=>h _ ?_
 have hd:∃o,h'.get? dx=some o:=let ⟨o,_,_,e',_⟩:=O'.ns;⟨o,e'⟩
 refine I.write (x:=a) (e:=dx) (by rw[e];exact True.intro) (.inr ho) (fun b q hb z=>(sb.2 b hb).trans z) hd ?_
 refine⟨by rw[aG O.ne];exact ho,?_,O.ne,O'.obj,_,O'.ns,fun g=> ?_,fun g hg=> ?_⟩
 ·have:=a2Z f y fs;omega
 ·show fO ((aM f y fs).lookup g) (if g=f then some u else mA g)
  rw[a1q]
  by_cases q:g=f
  ·rw[if_pos q,if_pos q];exact ry
  ·rw[if_neg q,if_neg q];exact r g
 ·by_cases q:g=f
  ·rw[q];exact(zH f y fs).1
  ·refine(zH f y fs).2 g (wi g fun z=>hg ?_)
   show(if g=f then some u else mA g)=none
   rw[if_neg q];exact z
theorem aD.made(I:aD X pins σ H s):aD X pins σ (upd (upd H s.heap.objs.size (.own (s.heap.objs.size+ 1))) (s.heap.objs.size+ 1) (.ins C s.heap.objs.size []))
 {s with heap:=(s.heap.push W.emptyDict).push (W.instObj C s.heap.objs.size)}:=by
 have e1:(s.heap.push W.emptyDict).get? s.heap.objs.size=some W.emptyDict:=Heap.get?_push_size s.heap rfl
 have e2:((s.heap.push W.emptyDict).push (W.instObj C s.heap.objs.size)).get? (s.heap.objs.size+ 1)=some (W.instObj C s.heap.objs.size):=by
  have:=Heap.get?_push_size (s.heap.push W.emptyDict) (o:=W.instObj C s.heap.objs.size) rfl
  rwa [Heap.size_push]at this
 have e3:(s.heap.push W.emptyDict).Ns s.heap.objs.size (fun _=>none):=⟨W.emptyDict,#[],_,e1,rfl,(fun e he=>absurd he (by simp)),fun _=>rfl⟩
 have I1:=I.laid (a:=s.heap.objs.size) (o:=.own (s.heap.objs.size+ 1)) (h':=s.heap.push W.emptyDict) (t':=s.toks) (fun b u q=>Heap.get?_push_of_some _ q) (Nat.le_refl _) ⟨_,e1⟩
 refine I1.laid (a:=s.heap.objs.size+ 1) (o:=.ins C s.heap.objs.size []) (t':=s.toks) (fun b u q=>Heap.get?_push_of_some _ q) (Nat.le_of_eq (Heap.size_push _ _)) ?_
 have ne:s.heap.objs.size≠s.heap.objs.size+ 1:=Nat.ne_of_lt (Nat.lt_succ_self _)
 refine⟨by rw[aG ne,aJ],Nat.zero_le _,ne,e2,fun _=>none,(Heap.Ns1.of_empty e3).at fun o q=>Heap.get?_push_of_some _ q,fun _=>True.intro,fun y hy=>absurd rfl hy⟩
theorem a7T{env:Env}{f:Str}{pos:Pos}(hb:attributeBase e f env (eval e env)=eval e env)
 (h:wpAny (model prog w) A (eval e env) (fun o s₁=>wpAny (model prog w) A (getAttr o f true) Q E s₁) E s):wpAny (model prog w) A (eval (.Attribute e f pos) env) Q E s:=
 Attribute_any_ h (by rw[arm_eval_Attribute,hb])
end
def tFld(K:Fg)(ta:TE)(f:Str):TE:=fun σ H Q=>ta σ H fun x H1=>∃a C dx fs v,x= .ref a/\H1 a=some (.ins C dx fs)/\cF K C/\cB K C f/\fs.lookup f=some v/\Q v H1
def sFld(K:Fg)(ta tv:TE)(f:Str):TS:=fun D σ H=>tv σ H fun y H1=>ta σ H1 fun x H2=>∃a C dx fs,x= .ref a/\H2 a=some (.ins C dx fs)/\cF K C/\cB K C f/\fs.length<1000/\
 D.nx σ (upd H2 a (.ins C dx (aM f y fs)))
section
variable{o value:Expr}{f:Str}{pos tpos:Pos}{tv:TE}
theorem aW(he:PE X e ta)(hb:attributeBase e f X.env (eval e X.env)=eval e X.env):PE X (.Attribute e f pos) (tFld X.K ta f):=by
 intro pins s σ H Q I h
 refine a7T hb (aT (he pins s σ H _ I h) ?_)
 rintro u s1 ⟨x,H1,I1,rx,a,C,dx,fs,v,ex,ea,c,n,l,q⟩
 subst ex
 obtain rfl:u=Value.ref a:=rx
 exact a2f I1 ea c n l fun u' s2 I2 ru=>⟨v,H1,I2,ru,q⟩
theorem cR(ha:PE X o ta)(hv:PE X value tv)(hs:swapsWith value (some (.Attribute o f pos')) pos.line X.env=pure false):PS X (.Assign [.Attribute o f pos'] value pos) (sFld X.K ta tv f):=by
 intro pins s σ H D I h
 refine plainObj_wpAny_Assign_Attribute (aT (hv pins s σ H _ I h) fun u s1 ⟨y,H1,I1,ry,q⟩=>aT (ha pins s1 σ H1 _ I1 q) fun ov s2 ⟨x,H2,I2,rx,a,C,dx,fs,ex,ea,c,n,l,q2⟩=> ?_) hs
 subst ex
 obtain rfl:ov=Value.ref a:=rx
 exact a7y I2 ea c n l ry fun s3 I3=>⟨σ,_,I3,q2⟩
theorem methcall_of{pl:Sem Bool}{args:List Expr}(he:PE X e te)(I:aD X pins σ H s)
 (h:te σ H fun x H1=>∃a C dx fs g,x= .ref a/\H1 a=some (.ins C dx fs)/\cF X.K C/\rD X.K C m g/\fs.lookup m=none/\
  ∀s1,aD X pins σ H1 s1->wpAny (model X.prog X.w) X.A (callWith pos (.ref g) [.ref a] (backTo pos (starEach args X.env)) (backToKw pos (keywordEach [] X.env))) Q X.xe s1)
 (ht:eval (.Call (.Attribute e m apos) args [] pos) X.env=(do
  let ov<- eval e X.env
  standAt apos.atName
  let (f,first)<- holding [ov] (getMethod ov m pl)
  callWith pos f first (backTo pos (starEach args X.env)) (backToKw pos (keywordEach [] X.env)))):
 wpAny (model X.prog X.w) X.A (eval (.Call (.Attribute e m apos) args [] pos) X.env) Q X.xe s:=by
 refine W.methodCall_KW (pl:=pl) (aT (he pins s σ H _ I h) ?_) ht
 rintro u s1 ⟨x,H1,I1,rx,a,C,dx,fs,g,ex,ea,c,k,l,q⟩
 subst ex
 obtain rfl:u=Value.ref a:=rx
 exact rW I1 ea c k l (q s1 I1)
end
section
variable{c:Value}{b:Bool}
inductive fU(K:Fg)(H:Hp):V->Value->Prop where
 |non:fU K H .non (.type "NoneType")
 |bl (x:Bool):fU K H (.bl x) (.type "bool")
 |int (i:Int):fU K H (.int i) (.type "int")
 |str (x:Str):fU K H (.str x) (.type "str")
 |flt (x:UInt64):fU K H (.flt x) (.type "float")
 |lst {a:Addr} {xs:List V} (e:H a=some (.lst xs)):fU K H (.ref a) (.type "list")
 |frz {a:Addr} {o:Obj} {xs:List V} (e:H a=some (.frz o (.lst xs))):fU K H (.ref a) (.type "list")
 |tup {a:Addr} {xs:List V} (e:H a=some (.tup xs)):fU K H (.ref a) (.type "tuple")
 |dK {a:Addr} {kvs:List (aB×V)} (e:H a=some (.dK kvs)):fU K H (.ref a) (.type "dict")
 |dT {a:Addr} {kvs:List (List aB×V)} (e:H a=some (.dT kvs)):fU K H (.ref a) (.type "dict")
 |ins {a C dx:Addr} {fs:List (Str×V)} (e:H a=some (.ins C dx fs)) (cl:cF K C) (ha:W.findIn K (.ref C) "__class__"=some (some (.builtin "object.__class__")))
  (hn:W.specialIn K (.builtin "object.__class__") "__get__"=some (some (.builtin "getset_descriptor.__get__"))) (htk:W.takesIn K (.builtin "object.__class__")=some true)
  (hm:W.mroIn K C (.type "object")=some true):fU K H (.ref a) (.ref C)
theorem a4Q{x:V}{t:Value}(I:aD X pins σ H s)(rx:aZ x u)(ty:fU X.K H x t)(e:W.kitOne X.K t c=some b)(h:∀tk,Q (.bool b) {s with toks:=tk}):
 wpAny (model X.prog X.w) A (call (.builtin "isinstance") [u,c]) Q E s:=by
 cases ty with
 |non=>cases (show u=Value.none from rx);exact W.kia_one W.kitx_none I.kIn True.intro e (fun z=>nomatch z) h
 |bl y=>cases (show u=Value.bool y from rx);exact W.kia_one W.kitx_bool I.kIn True.intro e (fun z=>nomatch z) h
 |int i=>obtain⟨t,q⟩:=(show∃t,u=Value.int i t from rx);cases q;exact W.kia_one W.kitx_int I.kIn True.intro e (fun z=>nomatch z) h
 |str y=>obtain⟨t,q⟩:=(show∃t,u=Value.str y t from rx);cases q;exact W.kia_one W.kitx_str I.kIn True.intro e (fun z=>nomatch z) h
 |flt y=>obtain⟨t,q⟩:=(show∃t,u=Value.float y t from rx);cases q;exact W.kia_one W.kitx_float I.kIn True.intro e (fun z=>nomatch z) h
 | @lst a xs ea=>
  cases (show u=Value.ref a from rx)
  obtain⟨_,_,n,_,h1⟩:=(show cO X.prog X.w H s.heap a (.lst xs) from I.hok a _ ea)
  exact W.kia_one W.kitx_list I.kIn ⟨_,h1,rfl⟩ e (fun z=>nomatch z) h
 | @frz a ob xs ea=>
  cases (show u=Value.ref a from rx)
  obtain⟨_,_,_,n,_,h1⟩:=(show cO X.prog X.w H s.heap a (.frz ob (.lst xs)) from I.hok a _ ea)
  exact W.kia_one W.kitx_list I.kIn ⟨_,h1,rfl⟩ e (fun z=>nomatch z) h
 | @tup a xs ea=>
  cases (show u=Value.ref a from rx)
  obtain⟨_,_,_,p⟩:=(show cO X.prog X.w H s.heap a (.tup xs) from I.hok a _ ea)
  obtain⟨o,h1,h2,_⟩:=p
  exact W.kia_one W.kitx_tuple I.kIn ⟨o,h1,h2⟩ e (fun z=>nomatch z) h
 | @dK a kvs ea=>
  cases (show u=Value.ref a from rx)
  obtain⟨_,_,vs,_,p⟩:=(show cO X.prog X.w H s.heap a (.dK kvs) from I.hok a _ ea)
  obtain⟨o,es,ep,h1,h2,_⟩:=p
  exact W.kia_one W.kitx_dict I.kIn ⟨o,h1,h2.1⟩ e (fun z=>nomatch z) h
 | @dT a kvs ea=>
  cases (show u=Value.ref a from rx)
  obtain⟨_,_,xs,_,o,es,ep,h1,h2,_⟩:=(show cO X.prog X.w H s.heap a (.dT kvs) from I.hok a _ ea)
  exact W.kia_one W.kitx_dict I.kIn ⟨o,h1,h2.1⟩ e (fun z=>nomatch z) h
 | @ins a C dx fs ea cl ha hn htk hm=>
  cases (show u=Value.ref a from rx)
  obtain⟨mA,O,_⟩:=qK I.hok ea
  obtain⟨od,J,_⟩:=O.look
  exact W.kia_one (W.kitx_own (cl.get _) cl.hd ha hn htk hm) I.kIn J e (fun z=>nomatch z) h
end
structure bT(k:Nat)(A:Around):Prop where
 hd:A.handled=none
 dp:A.depth+ 3* k+ 5<recursionLimit
 un:A.units+ 16* k+ 200<cLine
theorem bT.mono{k:Nat}(r:bT k A)(h:j<=k):bT j A:=⟨r.hd,by have:=r.dp;omega,by have:=r.un;omega⟩
theorem bT.mn{k:Nat}(r:bT k A)(h:j<=k:=by decide):bT j A:=r.mono h
theorem bT.deeper{k:Nat}(r:bT (k+ 1) A)(env:Env):bT k (A.deeper env):=
 ⟨r.hd,by have:=r.dp;show A.depth+ 1+ 3* k+ 5<_;omega,by have:=r.un;show A.units+ 3+ 16* k+ 200<_;omega⟩
theorem a4C{kw:List (Str×Value)}:(A.under (.builtin "type.__call__" ⟨.ref C::us,kw⟩)).depth=A.depth+ 1:=by
 first|rfl|simp[Around.under,Code.weight,Code.isCreation,Code.isGuard,Code.isCaller,Code.frames,Code.isFrame,guardIds]
theorem a6H{kw:List (Str×Value)}:(A.under (.builtin "type.__call__" ⟨.ref C::us,kw⟩)).units=A.units+ 1:=by
 first|rfl|simp[Around.under,Code.cUnits,Code.frames,Code.isFrame]
theorem bT.make{k:Nat}(r:bT (k+ 1) A)(C:Addr)(us:List Value)(kw:List (Str×Value)):bT k (A.under (.builtin "type.__call__" ⟨.ref C::us,kw⟩)):=
 ⟨r.hd,by have:=r.dp;rw[a4C];omega,by have:=r.un;rw[a6H];omega⟩
theorem bT.depth{k:Nat}(r:bT k A):A.depth<recursionLimit:=by have:=r.dp;omega
theorem bT.units{k:Nat}(r:bT k A):A.units+ 64<cLine:=by have:=r.un;omega
def mT:TA:=fun _ H Q=>Q [] H
def rT(ta:TE)(tr:TA):TA:=fun σ H Q=>ta σ H fun x H1=>tr σ H1 fun xs H2=>Q (x::xs) H2
section
variable{t:TA}{pos:Pos}
theorem aI:PA X [] mT:=fun _ _ _ _ H Q I h=>Calls.spliced_nil ⟨[],H,I,.nil,h⟩
theorem aA(ha:PE X e te)(hr:PA X es t)(hs:starEach (e::es) X.env=(false,eval e X.env)::starEach es X.env:=by rfl):PA X (e::es) (rT te t):=by
 intro pos pins s σ H Q I h
 rw[hs]
 show wpAny _ _ (spliced ((false,eval e X.env)::backTo pos (starEach es X.env))) _ _ s
 refine Calls.spliced_cons (aT (ha pins s σ H _ I h) ?_)
 rintro u s1 ⟨x,H1,I1,r1,q1⟩
 exact aT (hr pos pins s1 σ H1 _ I1 q1) fun us s2 ⟨xs,H2,I2,r2,q2⟩=>⟨x::xs,H2,I2,.cons r1 r2,q2⟩
def tTup(t:TA):TE:=fun σ H Q=>t σ H fun xs H1=>xs.length<=sizeLine/\∀p,H1 p=none->Q (.ref p) (upd H1 p (.tup xs))
def tLst(t:TA):TE:=fun σ H Q=>t σ H fun xs H1=>xs.length<=sizeLine/\∀p,H1 p=none->Q (.ref p) (upd H1 p (.lst xs))
theorem fV{x1}(h:PA X es t):PE X (.Tuple es x1 pos) (tTup t):=by
 intro pins s σ H Q I hq
 refine wpAny_Tuple_spliced (aT (h pos pins s σ H _ I hq) fun us s1 ⟨xs,H1,I1,r,z,q⟩=>⟨by rw[<- r.length];exact z,?_⟩)
 have hf:H1 s1.heap.objs.size=none:=I1.hok.fresh (Nat.le_refl _)
 refine⟨.ref s1.heap.objs.size,upd H1 s1.heap.objs.size (.tup xs),I1.laid (t':=s1.toks) (fun b u e=>Heap.get?_push_of_some _ e) (Nat.le_refl _) ?_,rfl,q _ hf⟩
 exact⟨z,us,r,⟨_,Heap.get?_push_size _ rfl,rfl,_,rfl⟩⟩
theorem gW(h:PA X es t):PE X (.List es pos) (tLst t):=by
 intro pins s σ H Q I hq
 refine wpAny_List_spliced (aT (h pos pins s σ H _ I hq) fun us s1 ⟨xs,H1,I1,r,z,q⟩=>⟨by rw[<- r.length];exact z,?_⟩)
 have hf:H1 s1.heap.objs.size=none:=I1.hok.fresh (Nat.le_refl _)
 refine⟨.ref s1.heap.objs.size,upd H1 s1.heap.objs.size (.lst xs),I1.laid (t':=s1.toks) (fun b u e=>Heap.get?_push_of_some _ e) (Nat.le_refl _) ?_,rfl,q _ hf⟩
 exact⟨z,us,0,r,Heap.get?_push_size _ rfl⟩
end
abbrev Sp:=List V->Hp->VK->XK->Prop
abbrev eN:=List Env->Hp->Shared->XK->Value->Shared->Prop
structure kM(P:Program)(w:World)(K:Fg)(mg:Str->Option Value)(base:Heap)(A:Around)(outer:List Env)(s:Shared)(H:Hp):Prop where
 frames:A.frames=some outer
 mod:Mod K mg base
 bs:∀b o,base.get? b=some o->s.heap.get? b=some o/\H b=none
 bsz:base.objs.size<=s.heap.objs.size
 funs:s.heap.FunFrames base outer
 frf:∀b∈fN outer,H b=none
 hok:bX P w H s.heap
 bare:AllBare s.gens
variable{CX:eN}{sp spl:Sp}{RG:Addr->Sp->Prop}
def CE(outer:List Env)(P:Program)(w:World)(H:Hp)(s:Shared)(Q:VK)(u:Value)(s':Shared):Prop:=
 ∃v H',s'.os=s.os/\AllBare s'.gens/\Un (fN outer) [] H H' s.heap s'.heap/\bX P w H' s'.heap/\aZ v u/\Q v H'
def CR(CX:eN)(outer:List Env)(P:Program)(w:World)(H:Hp)(s:Shared)(Q:VK)(E:XK)(r:Result)(s':Shared):Prop:=
 match r with
 | .ok (.ret u)=>CE outer P w H s Q u s'
 | .ok _=>False
 | .error e=>CX outer H s E e s'
structure eY(P:Program)(w:World)(K:Fg)(mg:Str->Option Value)(base:Heap)(CX:eN)(k:Nat)(f:Addr)(fd:FuncData)(ps:List Str)(sp:Sp):Prop where
 len:∀vs H Q E,sp vs H Q E->vs.length=ps.length
 run:∀(A:Around) (outer:List Env) (s:Shared) (H:Hp) (args:Args) (us:List Value) (vs:List V) (Q:VK) (E:XK),bT k A->kM P w K mg base A outer s H->BindsTo s fd args (ps.zip us)->aX vs us->sp vs H Q E->
  codeAny (model P w) A (.call (.ref f) args) (CR CX outer P w H s Q E) s
theorem eY.mono{k:Nat}{fd:FuncData}(F:eY P w K mg base CX j f fd ps sp)(h:j<=k):
 eY P w K mg base CX k f fd ps sp:=⟨F.len,fun A outer s H args us vs Q E hr=>F.run A outer s H args us vs Q E (hr.mono h)⟩
theorem kM.make{outer:List Env}(e:kM P w K mg base A outer s H)(C:Addr)(us:List Value)(kw:List (Str×Value)):
 kM P w K mg base (A.under (.builtin "type.__call__" ⟨.ref C::us,kw⟩)) outer s H:=⟨by first|exact e.frames|(simpa [Around.under,Code.envs,Code.isFrame,pushEnvs] using e.frames),e.mod,e.bs,e.bsz,e.funs,e.frf,e.hok,e.bare⟩
section
theorem aD.env0(I:aD X pins σ H s):kM X.prog X.w X.K X.mg X.base X.A X.stack s H:=
 ⟨I.ok.frames,I.ok.mod,I.bs,Nat.le_trans I.ok.bsz I.sz,I.stack,I.stkFree,I.hok,I.bare⟩
theorem aD.after{Q:VK}(I:aD X pins σ H s)(h:CE X.stack X.prog X.w H s Q u s'):EP X pins σ Q u s':=by
 obtain⟨v,H',os,bare,un,hok,r,q⟩:=h
 obtain⟨hh,g,d,t,os'⟩:=s'
 obtain rfl:os'=s.os:=os
 exact⟨v,H',I.call (h':=hh) (g':=g) (d':=d) (t':=t) (ch:=[]) un hok bare (fun b z=>absurd z (by simp)),r,q⟩
end
def rC(sp:Sp)(dvs:List V)(E:XK)(t:TA):TE:=fun σ H Q=>t σ H fun vs H1=>sp (vs++ dvs) H1 Q E
def vO(C:Addr)(m:Str)(sp:Sp)(dvs:List V)(E:XK)(ta:TE)(t:TA):TE:=fun σ H Q=>ta σ H fun x H1=>∃a dx fs,x= .ref a/\H1 a=some (.ins C dx fs)/\fs.lookup m=none/\
 t σ H1 fun vs H2=>sp (x::(vs++ dvs)) H2 Q E
def tG(C:Addr)(sp:Sp)(dvs:List V)(E:XK)(t:TA):TE:=fun σ H Q=>t σ H fun vs H1=>∀x dx,H1 x=none->H1 dx=none->dx≠x->
 sp (.ref x::(vs++ dvs)) (upd (upd H1 dx (.own x)) x (.ins C dx [])) (fun v H2=>v= .non/\Q (.ref x) H2) E
def hZ(K:Fg)(fd:FuncData)(ps:List Str)(ds:List Value):Prop:=
 ∀(s:Shared) (us:List Value),K.In s.heap->(us++ ds).length=ps.length->BindsTo s fd ⟨us,[]⟩ (ps.zip (us++ ds))
theorem hZ.all{fd:FuncData}(h:∀us:List Value,us.length=ps.length->bindArgs fd ⟨us,[]⟩=pure (ps.zip us)):hZ K fd ps []:=fun s us _ hl=>by
 rw[List.append_nil]at hl|-
 exact .of_eq (h us hl)
def gL(CX:eN)(X:Cx)(E:XK):Prop:=∀(pins:List (Addr×Obj)) (σ:St) (H:Hp) (s:Shared) (e:Value) (s':Shared),aD X pins σ H s->CX X.stack H s E e s'->X.xe e s'
section
variable{k:Nat}{fd:FuncData}{dvs:List V}{ds:List Value}{E:XK}{p pos:Pos}{o:Expr}{t:TA}
theorem qV{Q:VK}(F:eY X.prog X.w X.K X.mg X.base CX k f fd ps sp)(hr:bT k X.A)(hb:hZ X.K fd ps ds)(hd:aX dvs ds)(hx:gL CX X E)
 (I:aD X pins σ H s)(r:aX vs us)(h:sp (vs++ dvs) H Q E):wpAny (model X.prog X.w) X.A (call (.ref f) us) (EP X pins σ Q) X.xe s:=by
 have r2:aX (vs++ dvs) (us++ ds):=r.append hd
 have hl:(us++ ds).length=ps.length:=by rw[<- r2.length];exact F.len _ _ _ _ h
 refine wpAny_call (codeAny_mono (F.run X.A X.stack s H ⟨us,[]⟩ (us++ ds) (vs++ dvs) Q E hr I.env0 (hb s us I.kIn hl) r2 h) fun r s' hq=> ?_)
 cases r with
 |error e=>exact hx pins σ H s e s' I hq
 |ok fl=>
  cases fl with
  |ret u=>exact I.after hq
  |next=>exact False.elim hq
  |brk=>exact False.elim hq
  |cont=>exact False.elim hq
theorem a53(F:eY X.prog X.w X.K X.mg X.base CX k f fd ps sp)(hr:bT k X.A)(hg:Gl X x)(hm:X.mg x=some (.ref f))(hk:W.keepIn X.K (.ref f)=true)(hb:hZ X.K fd ps ds)(hd:aX dvs ds)(hx:gL CX X E)
 (ha:PA X (e::es) t)(hdb:(x==("__debug__":Str))=false:=by decide)(he:starEach (e::es) X.env=(false,eval e X.env)::starEach es X.env:=by rfl)(hpl:(backTo pos (starEach es X.env)).any (·.1)=false:=by rfl):
 PE X (.Call (.Name x p) (e::es) [] pos) (rC sp dvs E t):=by
 intro pins s σ H Q I h
 refine wpAny_Call_Name_kw (tM I hg hm ?_ hdb)
 refine W.callWith_K (h₀:=X.base) I.ok.mod.kin hk (aT (ha pos pins s σ H _ I h) fun us s1 ⟨vs,H1,I1,r,q⟩=>⟨I1.kIn,?_⟩) he hpl
 exact qV F hr hb hd hx I1 r q
theorem a7B{pl:Sem Bool}(he:PE X o ta)(c:cF X.K C)(hm:rD X.K C m f)(F:eY X.prog X.w X.K X.mg X.base CX k f fd ps sp)(hr:bT k X.A)(hb:hZ X.K fd ps ds)(hd:aX dvs ds)(hx:gL CX X E)(ha:PA X (e::es) t)
 (hst:starEach (e::es) X.env=(false,eval e X.env)::starEach es X.env:=by rfl)(hpl:(backTo pos (starEach es X.env)).any (·.1)=false:=by rfl)
 (ht:eval (.Call (.Attribute o m apos) (e::es) [] pos) X.env=(do
  let ov<- eval o X.env
  standAt apos.atName
  let (f,first)<- holding [ov] (getMethod ov m pl)
  callWith pos f first (backTo pos (starEach (e::es) X.env)) (backToKw pos (keywordEach [] X.env))):=by rfl):
 PE X (.Call (.Attribute o m apos) (e::es) [] pos) (vO C m sp dvs E ta t):=by
 intro pins s σ H Q I h
 refine W.methodCall_KW (pl:=pl) (aT (he pins s σ H _ I h) ?_) ht
 rintro u s1 ⟨x,H1,I1,rx,a,dx,fs,ex,ea,l,q⟩
 subst ex
 obtain rfl:u=Value.ref a:=rx
 refine rW I1 ea c hm l ?_
 refine W.callWith_K (first:=[.ref a]) (h₀:=X.base) I.ok.mod.kin hm.kp (aT (ha pos pins s1 σ H1 _ I1 q) fun us s2 ⟨vs,H2,I2,r,q2⟩=>⟨I2.kIn,?_⟩) hst hpl
 exact qV (us:=.ref a::us) (vs:=.ref a::vs) F hr hb hd hx I2 (.cons rfl r) q2
theorem a6v{pl:Sem Bool}(he:PE X o ta)(c:cF X.K C)(hm:rD X.K C m f)(F:eY X.prog X.w X.K X.mg X.base CX k f fd ps sp)(hr:bT k X.A)(hb:hZ X.K fd ps ds)(hd:aX dvs ds)(hx:gL CX X E)
 (ht:eval (.Call (.Attribute o m apos) [] [] pos) X.env=(do
  let ov<- eval o X.env
  standAt apos.atName
  let (f,first)<- holding [ov] (getMethod ov m pl)
  callWith pos f first (backTo pos (starEach [] X.env)) (backToKw pos (keywordEach [] X.env))):=by rfl):
 PE X (.Call (.Attribute o m apos) [] [] pos) (vO C m sp dvs E ta mT):=by
 intro pins s σ H Q I h
 refine W.methodCall_KW (pl:=pl) (aT (he pins s σ H _ I h) ?_) ht
 rintro u s1 ⟨x,H1,I1,rx,a,dx,fs,ex,ea,l,q⟩
 subst ex
 obtain rfl:u=Value.ref a:=rx
 refine rW I1 ea c hm l ?_
 exact W.callWith_K0 (first:=[.ref a]) I1.kIn hm.kp (qV (us:=[.ref a]) (vs:=[.ref a]) F hr hb hd hx I1 (.cons rfl .nil) q)
structure Mk(K:Fg)(C f:Addr):Prop where
 makes:W.makesIn K C=true
 init:W.findIn K (.ref C) "__init__"=some (some (.ref f))
 fn:W.isFn K (.ref f)=true
 kp:W.keepIn K (.ref C)=true
theorem a0Q{Q:VK}(M:Mk X.K C f)(F:eY X.prog X.w X.K X.mg X.base CX k f fd ps sp)(hr:bT (k+ 1) X.A)(hb:hZ X.K fd ps ds)(hd:aX dvs ds)
 (hx:gL CX X E)(I:aD X pins σ H s)(r:aX vs us)
 (h:∀x dx,H x=none->H dx=none->dx≠x->sp (.ref x::(vs++ dvs)) (upd (upd H dx (.own x)) x (.ins C dx [])) (fun v H2=>v= .non/\Q (.ref x) H2) E):
 wpAny (model X.prog X.w) X.A (call (.ref C) us) (EP X pins σ Q) X.xe s:=by
 have hq:=h (s.heap.objs.size+ 1) s.heap.objs.size (I.hok.fresh (Nat.le_succ _)) (I.hok.fresh (Nat.le_refl _)) (Nat.ne_of_lt (Nat.lt_succ_self _))
 have I2:=aD.made (C:=C) I
 have r2:aX (V.ref (s.heap.objs.size+ 1)::(vs++ dvs)) (Value.ref (s.heap.objs.size+ 1)::(us++ ds)):=.cons rfl (r.append hd)
 have hl:(Value.ref (s.heap.objs.size+ 1)::us++ ds).length=ps.length:=by
  have e:=r2.length
  rw[F.len _ _ _ _ hq]at e
  exact e.symm
 refine wpAny_call (a8x (f:=f) I.kIn M.makes M.init (beq_iff_eq.mp M.fn) (codeAny_mono (F.run _ X.stack _ _ ⟨Value.ref (s.heap.objs.size+ 1)::us,[]⟩ (Value.ref (s.heap.objs.size+ 1)::(us++ ds)) _ _ E (hr.make C us [])
  (I2.env0.make C us []) (hb _ (Value.ref (s.heap.objs.size+ 1)::us) I2.kIn hl) r2 hq) fun r s' hq'=> ?_))
 cases r with
 |error e=>exact hx pins σ _ _ e s' I2 hq'
 |ok fl=>
  cases fl with
  |ret u=>
   obtain⟨v,H',I3,rv,ev,q3⟩:=I2.after hq'
   subst ev
   exact⟨rv,⟨V.ref (s.heap.objs.size+ 1),H',I3,rfl,q3⟩⟩
  |next=>exact False.elim hq'
  |brk=>exact False.elim hq'
  |cont=>exact False.elim hq'
theorem a32(M:Mk X.K C f)(F:eY X.prog X.w X.K X.mg X.base CX k f fd ps sp)(hr:bT (k+ 1) X.A)(hg:Gl X x)(hm:X.mg x=some (.ref C))(hb:hZ X.K fd ps ds)(hd:aX dvs ds)(hx:gL CX X E)
 (ha:PA X (e::es) t)(hdb:(x==("__debug__":Str))=false:=by decide)(he:starEach (e::es) X.env=(false,eval e X.env)::starEach es X.env:=by rfl)(hpl:(backTo pos (starEach es X.env)).any (·.1)=false:=by rfl):
 PE X (.Call (.Name x p) (e::es) [] pos) (tG C sp dvs E t):=by
 intro pins s σ H Q I h
 refine wpAny_Call_Name_kw (tM I hg hm ?_ hdb)
 refine W.callWith_K (h₀:=X.base) I.ok.mod.kin M.kp (aT (ha pos pins s σ H _ I h) fun us s1 ⟨vs,H1,I1,r,q⟩=>⟨I1.kIn,?_⟩) he hpl
 exact a0Q M F hr hb hd hx I1 r q
theorem a5n(M:Mk X.K C f)(F:eY X.prog X.w X.K X.mg X.base CX k f fd ps sp)(hr:bT (k+ 1) X.A)(hg:Gl X x)(hm:X.mg x=some (.ref C))(hb:hZ X.K fd ps ds)(hd:aX dvs ds)(hx:gL CX X E)
 (hdb:(x==("__debug__":Str))=false:=by decide):PE X (.Call (.Name x p) [] [] pos) (tG C sp dvs E mT):=by
 intro pins s σ H Q I h
 refine wpAny_Call_Name_kw (tM I hg hm ?_ hdb)
 exact W.callWith_K0 I.kIn M.kp (a0Q (us:=[]) M F hr hb hd hx I .nil h)
end
section
variable{k:Nat}{fd:FuncData}{ks:List Str}{E:XK}{p pos kpos:Pos}{o:Expr}{kws:List Keyword}{t tk:TA}{nm:Option Str}
structure KBinds(K:Fg)(fd:FuncData)(ps ks:List Str)(g:List Value->List Value->List Value)(gV:List V->List V->List V):Prop where
 to:∀(s:Shared) (us ws:List Value),K.In s.heap->(g us ws).length=ps.length->BindsTo s fd ⟨us,ks.zip ws⟩ (ps.zip (g us ws))
 rel:∀{vs:List V} {us:List Value} {zs:List V} {ws:List Value},aX vs us->aX zs ws->aX (gV vs zs) (g us ws)
variable{g:List Value->List Value->List Value}{gV:List V->List V->List V}
end
structure bA(N P:List Str)(sc:Scope):Prop where
 kind:sc.kind= .function:=by rfl
 co:sc.isCoroutine=false:=by rfl
 gen:sc.isGenerator=false:=by rfl
 nd:N.Nodup:=by decide+kernel
 pre:N.take P.length=P:=by rfl
 par:∀x∈P,sc.names.lookup x=some .local\/ sc.names.lookup x=some .cell:=by decide+kernel
 nofree:∀y∈sc.names,y.2≠ .free:=by decide+kernel
theorem a2l{kindOf:Str->Option NameKind}{x:Str}:∀{binds:List (Str×Value)} {m:Str->Option Value},(∀v,(x,v)∉binds)->bindL kindOf binds m x=m x
 | [],_,_=>rfl
 |(n,v)::r,m,h=>by
  unfold bindL
  rw[a2l fun w hw=>h w (List.mem_cons_of_mem _ hw)]
  split
  ·have:x≠n:=by rintro rfl;exact h v List.mem_cons_self
   simp[this]
  ·rfl
theorem a2N{kindOf:Str->Option NameKind}{x:Str}:∀{binds:List (Str×Value)} {m:Str->Option Value},(∀v,(x,v)∉binds)->bindC kindOf binds m x=m x
 | [],_,_=>rfl
 |(n,v)::r,m,h=>by
  unfold bindC
  rw[a2N fun w hw=>h w (List.mem_cons_of_mem _ hw)]
  split
  ·rfl
  ·have:x≠n:=by rintro rfl;exact h v List.mem_cons_self
   simp[this]
theorem a0x{kindOf:Str->Option NameKind}{x:Str}{v:Value}:∀{P:List Str} {vs:List Value} {i:Nat} {m:Str->Option Value},P.Nodup->P[i]?=some x->vs[i]?=some v->kindOf x=some .local->
 bindL kindOf (P.zip vs) m x=some v
 | [],_,_,_,_,h,_,_=>by simp at h
 |_::_,[],_,_,_,_,h,_=>by simp at h
 |p::P,w::vs,0,m,nd,h1,h2,hk=>by
  simp at h1 h2;subst h1;subst h2
  show bindL kindOf ((p,w)::P.zip vs) m p=_
  unfold bindL
  rw[a2l fun v hv=>(List.nodup_cons.mp nd).1 (List.of_mem_zip hv).1,if_pos hk]
  simp
 |p::P,w::vs,i+ 1,m,nd,h1,h2,hk=>by
  show bindL kindOf ((p,w)::P.zip vs) m x=_
  unfold bindL
  exact a0x (i:=i) (List.nodup_cons.mp nd).2 (by simpa using h1) (by simpa using h2) hk
theorem a3x{kindOf:Str->Option NameKind}{x:Str}{v:Value}:∀{P:List Str} {vs:List Value} {i:Nat} {m:Str->Option Value},P.Nodup->P[i]?=some x->vs[i]?=some v->kindOf x≠some .local->
 bindC kindOf (P.zip vs) m x=some v
 | [],_,_,_,_,h,_,_=>by simp at h
 |_::_,[],_,_,_,_,h,_=>by simp at h
 |p::P,w::vs,0,m,nd,h1,h2,hk=>by
  simp at h1 h2;subst h1;subst h2
  show bindC kindOf ((p,w)::P.zip vs) m p=_
  unfold bindC
  rw[a2N fun v hv=>(List.nodup_cons.mp nd).1 (List.of_mem_zip hv).1,if_neg hk]
  simp
 |p::P,w::vs,i+ 1,m,nd,h1,h2,hk=>by
  show bindC kindOf ((p,w)::P.zip vs) m x=_
  unfold bindC
  exact a3x (i:=i) (List.nodup_cons.mp nd).2 (by simpa using h1) (by simpa using h2) hk
noncomputable def start (N:List Str) (vs:List V):St:=vs.map some++ List.replicate (N.length- vs.length) none
def dM(CX:eN)(P:Program)(w:World)(K:Fg)(mg:Str->Option Value)(base:Heap)(N:List Str)(qual:Str)(scope:Scope)(f:Addr)(cd:Value)(A:Around)(outer:List Env)(s:Shared)(H:Hp)(E:XK):Cx where
 prog:=P
 w:=w
 K:=K
 mg:=mg
 base:=base
 A:=A.deeper (envOfC qual scope s.heap.objs.size f cd)
 N:=N
 s₀:=s
 H₀:=H
 env:=envOfC qual scope s.heap.objs.size f cd
 outer:=outer
 stack:=envOfC qual scope s.heap.objs.size f cd::outer
 ex:=[]
 calm:=true
 fn:=fun _=>true
 pn:=[]
 xe:=fun e s'=>wpAny (model P w) (A.deeper (envOfC qual scope s.heap.objs.size f cd)) (leaving (envOfC qual scope s.heap.objs.size f cd) e) (fun _ s''=>CX outer H s E e s'') (fun e' s''=>CX outer H s E e' s'') s'
theorem a2z{sc:Scope}{n:Nat}(h:sc.names.lookup x=some .cell):∃c,(cellsFrom n sc.names []).lookup x=some c:=by
 have q:=W.cellsFrom_some sc.names n [] (.inl h)
 exact Option.isSome_iff_exists.mp q
theorem a2O{cd:Value}{outer:List Env}{s1:Shared}{E:XK}
 (S:bA N ps scope)(hd:A.handled=none)(e0:kM P w K mg base A outer s H)(hl:vs.length=ps.length)(r:aX vs us)
 (x:InCallC s s.heap.objs.size (bindL (envOfC qual scope s.heap.objs.size f cd).kindOf (ps.zip us) fun _=>none) (cellsFrom (s.heap.objs.size+ 1) scope.names []) (bindC (envOfC qual scope s.heap.objs.size f cd).kindOf (ps.zip us) fun _=>none) s1):
 aD (dM CX P w K mg base N qual scope f cd A outer s H E) [] (start N vs) H s1:=by
 have hpl:ps.length<=N.length:=by have:=congrArg List.length S.pre;rw[List.length_take]at this;omega
 obtain⟨h1,tk,rfl,hk⟩:=x.done
 have noA:∀b:Addr,b∉(dM CX P w K mg base N qual scope f cd A outer s H E).ex:=fun b z=>absurd (show b∈([]:List Addr) from z) (by simp)
 refine⟨⟨e0.mod,S.kind,rfl,rfl,Nat.le_refl _,fun y z c h1 h2=> ?_,fun y hy=> ?_,fun y c _ h=> ?_,fun _=>hd,Around.frames_deeper e0.frames,.inr ⟨rfl,rfl⟩,fun b z=>absurd z (noA b),e0.bs,e0.bsz,fun b _ _=>noA b,fun b z=>absurd z (noA b),e0.funs,e0.frf⟩,
  rfl,e0.bare,Un.kept hk,⟨_,x.toInCall.ns,fun i y v h1 h2 h3=> ?_⟩,fun y c h=>⟨_,x.cell y c h⟩,e0.hok.fresh (Nat.le_refl _),fun y c h=> ?_,fun p hp=>absurd (show p∈([]:List (Addr×Obj)) from hp) (by simp),e0.hok.kept hk,?_⟩
 ·exact name_of_addr x.apart (PySem.mem_of_lookup h1) (PySem.mem_of_lookup h2)
 ·have hy:scope.names.lookup y=some .cell\/ scope.names.lookup y=some .free:=hy
  rcases hy with hy|hy
  ·exact a2z hy
  ·exact absurd rfl (S.nofree _ (PySem.mem_of_lookup hy))
 ·exact Nat.le_of_lt (x.above y c (PySem.mem_of_lookup h))
 ·have hi:i<vs.length:=by
   unfold start at h2
   by_cases hi:i<vs.length
   ·exact hi
   ·rw[List.getElem?_append_right (by simpa using hi)]at h2
    rw[List.getElem?_replicate]at h2
    split at h2<;>cases h2
  have ha:vs[i]?=some v:=by
   unfold start at h2
   rw[List.getElem?_append_left (by simpa using hi),List.getElem?_map]at h2
   cases e:vs[i]? with
   |none=>rw[e]at h2;cases h2
   |some a=>rw[e]at h2;cases h2;rfl
  obtain⟨u,hu,rv⟩:=r.get ha
  have hp:ps[i]?=some y:=by
   rw[<- S.pre,List.getElem?_take_of_lt (by omega)];exact h1
  have ndP:ps.Nodup:=by rw[<- S.pre];exact S.nd.sublist (List.take_sublist _ _)
  refine⟨u,rv,?_⟩
  rcases S.par y (List.mem_of_getElem? hp)with k|k
  ·exact .inl ⟨k,a0x ndP hp hu k⟩
  ·obtain⟨c,e⟩:=a2z (n:=s.heap.objs.size+ 1) k
   refine .inr ⟨.inl k,c,e,?_⟩
   have q:=x.cell y c e
   rw[a3x ndP hp hu (by show scope.names.lookup y≠_;rw[k];decide)]at q
   exact q
 ·exact e0.hok.fresh (Nat.le_of_lt (x.above y c (PySem.mem_of_lookup h)))
 ·unfold start
  show _=N.length
  rw[List.length_append,List.length_map,List.length_replicate]
  omega
theorem a0p{k:Nat}{name:Str}{body:List Stmt}{dV kV:Value}
 {osl:Array (Option Value)}(lk:K.lookup f=some ⟨oc,od,.func (W.fnOf name qual params body scope dV kV doc pm an cdv ct),osl⟩)(hcd:W.codeIn K cdv qual=true)(S:bA N ps scope)
 (len:∀vs H Q E,sp vs H Q E->vs.length=ps.length)
 (hbody:∀(A:Around) (outer:List Env) (s:Shared) (H:Hp) (vs:List V) (Q:VK) (E:XK),bT k (A.deeper (envOfC qual scope s.heap.objs.size f cdv))->sp vs H Q E->
  ∃t,dU (dM CX P w K mg base N qual scope f cdv A outer s H E) body t/\t {nx:=fun _ H'=>Q .non H',rt:=Q} (start N vs) H):
 eY P w K mg base CX (k+ 1) f (W.fnOf name qual params body scope dV kV doc pm an cdv ct) ps sp:=by
 refine⟨len,fun A outer s H args us vs Q E hr e0 hb r hsp=> ?_⟩
 have hl:=len _ _ _ _ hsp
 have KX:K.In s.heap:=e0.mod.kin.keeps fun b o e=>(e0.bs b o e).1
 have lim:s.heap.NoLimit:=e0.mod.nolimit.keeps fun b o e=>(e0.bs b o e).1
 have hkind:∀y∈ps.zip us,scope.names.lookup y.1=some .local\/ (scope.names.lookup y.1=some .cell/\((cellsFrom (s.heap.objs.size+ 1) scope.names []).lookup y.1).isSome=true):=fun⟨n,v⟩ hy=>by
  rcases S.par n (List.of_mem_zip hy).1 with q|q
  ·exact .inl q
  ·exact .inr ⟨q,W.cellsFrom_some _ _ _ (.inl q)⟩
 refine codeAny_call_function hr.depth (KX _ _ lk) rfl S.co S.gen rfl (W.codeRec_of KX hcd) (hb _ _ _ _ ?_)
 refine wpAny_newFunctionEnv_cells S.kind hkind fun env he s1 x=> ?_
 subst he
 refine⟨lim.keeps x.toInCall.keep,codeAny_func ?_⟩
 obtain⟨t,ht,hq⟩:=hbody A outer s H vs Q E (hr.deeper _) hsp
 have I:aD (dM CX P w K mg base N qual scope f cdv A outer s H E) [] (start N vs) H s1:=a2O S hr.hd e0 hl r x
 refine wpAny_mono (ht [] s1 (start N vs) H _ I hq) (fun fl s' hs=> ?_) fun e s' hs=>hs
 have fin:∀{σ':St} {H':Hp} {v:V} {u:Value},aD (dM CX P w K mg base N qual scope f cdv A outer s H E) [] σ' H' s'->aZ v u->Q v H'->CE outer P w H s Q u s':=
  fun{σ' H' v u} J rv q=>⟨v,H',J.os,J.bare,J.base,J.hok,rv,q⟩
 cases fl with
 |ret u=>
  obtain⟨v,σ',H',J,rv,q⟩:=hs
  exact fin J rv q
 |next=>
  obtain⟨σ',H',J,q⟩:=hs
  exact fin (v:=V.non) (u:=Value.none) J rfl q
 |brk=>
  obtain⟨_,_,_,q⟩:=hs
  exact False.elim q
 |cont=>
  obtain⟨_,_,_,q⟩:=hs
  exact False.elim q
section
variable{p pos:Pos}{t:TA}{id T:String}{r:List V->Hp->VK->Prop}
def tCB(r:List V->Hp->VK->Prop)(t:TA):TE:=fun σ H Q=>t σ H fun vs H1=>r vs H1 Q
theorem dQ(hc:iK X (.builtin id) r)(hg:Gl X x)(hm:X.mg x=none)(hv:bootBuiltins x=some (.builtin id))(ha:PA X (e::es) t)(hn:x≠ "__name__":=by decide)(hdb:(x==("__debug__":Str))=false:=by decide)
 (he:starEach (e::es) X.env=(false,eval e X.env)::starEach es X.env:=by rfl)(hpl:(backTo pos (starEach es X.env)).any (·.1)=false:=by rfl):PE X (.Call (.Name x p) (e::es) [] pos) (tCB r t):=by
 intro pins s σ H Q I h
 refine wpAny_Call_Name_kw (qC I hg hm hv ?_ hn hdb)
 exact PyProof.Rows.callWith_builtin1 (aT (ha pos pins s σ H _ I h) fun us s1 ⟨vs,H1,I1,r1,q1⟩=>hc pins s1 σ H1 vs us Q I1 r1 q1) he hpl
theorem mV(hc:iK X (.type T) r)(hg:Gl X x)(hm:X.mg x=none)(hv:bootBuiltins x=some (.type T))(ha:PA X (e::es) t)(hn:x≠ "__name__":=by decide)(hdb:(x==("__debug__":Str))=false:=by decide)
 (he:starEach (e::es) X.env=(false,eval e X.env)::starEach es X.env:=by rfl)(hpl:(backTo pos (starEach es X.env)).any (·.1)=false:=by rfl):PE X (.Call (.Name x p) (e::es) [] pos) (tCB r t):=by
 intro pins s σ H Q I h
 refine wpAny_Call_Name_kw (qC I hg hm hv ?_ hn hdb)
 exact PyProof.Rows.callWith_type1 (aT (ha pos pins s σ H _ I h) fun us s1 ⟨vs,H1,I1,r1,q1⟩=>hc pins s1 σ H1 vs us Q I1 r1 q1) he hpl
end
end L2
variable{xs vs ys cs zs cs' csh:List V}{H H' H1 H2 H0:Hp}{o:HO}{X:Cx}{ta tb te tl:TE}{σ:St}{y:V}{g:TG}{r:R2}{ns ns':List (Option V×List Int)}{CX:eN}{sp spl:Sp}{kvs mk:List (aB×V)}{LL:Hp->Prop}{RG:Addr->Sp->Prop}
namespace HT
open PySem PyProof.Rows
section
noncomputable def sIx(n d:Nat):Option Int->Nat
 |none=>d
 |some v=>if v<0 then(v+ (n:Int)).toNat else min v.toNat n
end
end HT
namespace L2
open PySem PySem.Spec PyProof.Rows
abbrev TO:=St->Hp->(Option Int->Hp->Prop)->Prop
section
variable{lo hi:Option Expr}{tl th:TO}{pos p2:Pos}
def qP(X:Cx)(r:V->Option Int->Option Int->Hp->VK->Prop):Prop:=
 ∀(pins:List (Addr×Obj)) (s:Shared) (σ:St) (H:Hp) (x:V) (v vl vu:Value) (lo hi:Option Int) (sl:Addr) (Q:VK),aD X pins σ H s->aZ x v->s.heap.IsSliceOf sl vl vu .none->IsPart vl lo->IsPart vu hi->r x lo hi H Q->
  ∃T id,typeLookup (.type T) "__getitem__"=pure (some (.builtin id))/\s.TypeIs v T/\wpAny (model X.prog X.w) X.A (getItem v (.ref sl)) (EP X pins σ Q) X.xe s
theorem qP.or{r r':V->Option Int->Option Int->Hp->VK->Prop}(h:qP X r)(h':qP X r'):qP X (fun x lo hi H Q=>r x lo hi H Q\/ r' x lo hi H Q):=by
 intro pins s σ H x v vl vu lo hi sl Q I rx hs pl pu q
 rcases q with q|q
 ·exact h pins s σ H x v vl vu lo hi sl Q I rx hs pl pu q
 ·exact h' pins s σ H x v vl vu lo hi sl Q I rx hs pl pu q
noncomputable def sM (xs:List V) (lo hi:Option Int):List V:=(xs.drop (HT.sIx xs.length 0 lo)).take (HT.sIx xs.length xs.length hi- HT.sIx xs.length 0 lo)
theorem a77(xs:List V)(lo hi:Option Int):(sM xs lo hi).length<=xs.length:=by
 unfold sM
 rw[List.length_take,List.length_drop]
 omega
end
def gP(n:Nat)(i:Int):Option Nat:=if 0<=i then(if i<n then some i.toNat else none) else if-(n:Int)<=i then some (i+ n).toNat else none
def cI{α:Type}(xs:List α)(i:Int):Option α:=(gP xs.length i).bind fun j=>xs[j]?
theorem a2C{n:Nat}{i:Int}(h:gP n i=some j):seqIndex? i n=some j/\j<n/\ -(n:Int)<=i/\i<n:=by
 unfold gP at h
 by_cases h0:0<=i
 ·rw[if_pos h0]at h
  by_cases h1:i<n
  ·rw[if_pos h1]at h
   have e:i.toNat=j:=Option.some.inj h
   exact⟨by rw[seqIndex_of h0 h1,e],by omega,by omega,h1⟩
  ·rw[if_neg h1]at h;cases h
 ·rw[if_neg h0]at h
  by_cases h1: -(n:Int)<=i
  ·rw[if_pos h1]at h
   have e:(i+ n).toNat=j:=Option.some.inj h
   exact⟨by rw[seqIndex_neg (by omega) h1,e],by omega,h1,by omega⟩
  ·rw[if_neg h1]at h;cases h
theorem wT{α:Type}{xs:List α}{i:Int}{v:α}(h:cI xs i=some v):∃j,seqIndex? i xs.length=some j/\xs[j]?=some v/\j<xs.length/\ -(xs.length:Int)<=i/\i<xs.length:=by
 unfold cI at h
 cases e:gP xs.length i with
 |none=>rw[e]at h;cases h
 |some j=>
  rw[e]at h
  obtain⟨h1,h2,h3,h4⟩:=a2C e
  exact⟨j,h1,h,h2,h3,h4⟩
theorem rL{α:Type}{xs:List α}{v:α}(h:xs[j]?=some v):cI xs (j:Int)=some v:=by
 have hj:j<xs.length:=(List.getElem?_eq_some_iff.mp h).1
 have e:gP xs.length (j:Int)=some j:=by
  unfold gP
  rw[if_pos (by omega),if_pos (by omega)];simp
 unfold cI;rw[e];exact h
theorem xE{α:Type}(xs:List α)(v:α):cI (xs++ [v]) (-1)=some v:=by
 have hl:(xs++ [v]).length=xs.length+ 1:=by simp
 have e:gP (xs++ [v]).length (-1)=some xs.length:=by
  unfold gP
  rw[hl,if_neg (by decide),if_pos (by omega)]
  congr 1
  omega
 unfold cI
 rw[e]
 show(xs++ [v])[xs.length]?=some v
 simp
def a7t(b:Expr):Prop:=∀o i,subscripted b false o i=operate [o,i] (getItem o i)
def tU(X:Cx)(r:R2):Prop:=
 ∀(value slice:Expr) (pins:List (Addr×Obj)) (s:Shared) (σ:St) (H:Hp) (x y:V) (v u:Value) (Q:VK),aD X pins σ H s->aZ x v->aZ y u->r x y H Q->
  subscripted slice false v u=operate [v,u] (getItem v u)->wpAny (model X.prog X.w) X.A (subscriptTail value slice v u) (EP X pins σ Q) X.xe s
def MtR(X:Cx)(id:String)(r:V->List V->Hp->VK->Prop):Prop:=
 ∀(pins:List (Addr×Obj)) (s:Shared) (σ:St) (H:Hp) (x:V) (xs:List V) (v:Value) (us:List Value) (Q:VK),aD X pins σ H s->aZ x v->aX xs us->r x xs H Q->
  wpAny (model X.prog X.w) X.A (call (.builtin id) (v::us)) (EP X pins σ Q) X.xe s
section
variable{a b:Expr}{pos:Pos}
theorem cM(hr:tU X r)(ha:PE X a ta)(hb:PE X b tb)(hs:a7t b):PE X (.Subscript a b pos) (lV r ta tb):=by
 intro pins s σ H Q I h
 exact Subscript_ (zO ha hb I h fun v u s2 x y H2 I2 rx ry q=>hr a b pins s2 σ H2 x y v u Q I2 rx ry q (hs _ _))
noncomputable def rIxL (K:Fg):R2:=fun x y H Q=>∃p xs i v,x= .ref p/\y= .int i/\aN K H p xs/\cI xs i=some v/\Q v H
noncomputable def rIxT (K:Fg):R2:=fun x y H Q=>∃p xs i v,x= .ref p/\y= .int i/\bU K H p xs/\cI xs i=some v/\Q v H
noncomputable def rIxS:R2:=fun x y H Q=>∃z i c,x= .str z/\y= .int i/\z.length<=sizeLine/\cI z.cps.toList i=some c/\Q (.str ⟨#[c]⟩) H
theorem iD:tU X (rIxL X.K):=by
 intro value slice pins s σ H x y v u Q I rx ry h hs
 obtain⟨p,xs,i,z,rfl,rfl,hq,he,q⟩:=h
 cases rx
 obtain⟨t,rfl⟩:=ry
 obtain⟨its,r,pl,hz⟩:=I.list hq
 obtain⟨j,h1,h2,h3,h4,h5⟩:=wT he
 obtain⟨w,ew,rw'⟩:=r.get h2
 have hl:=r.length
 have hn:=pF
 have fin:EP X pins σ Q w s:=⟨z,H,I,rw',q⟩
 by_cases h0:0<=i
 ·have hj:i.toNat=j:=by
   rw[seqIndex_of h0 h5]at h1
   exact Option.some.inj h1
  exact item_listR pl.isList h0 (by omega) (by rw[hj];simpa using ew) fin hs
 ·have hj:(i+ (its.toArray.size:Int)).toNat=j:=by
   rw[seqIndex_neg (by omega) h4]at h1
   rw[List.size_toArray,<- hl]
   exact Option.some.inj h1
  exact subscriptTail_builtinR (x:=w) pl.isList.typeIs slot_list_getitem.lookup
   (wpAny_getItem_list_neg (Q:=fun r s'=>r=w/\EP X pins σ Q r s') pl.isList (by omega) (by rw[List.size_toArray]<;>omega) (by omega) (by rw[hj];simpa using ew) ⟨rfl,fin⟩) hs
theorem eX:tU X (rIxT X.K):=by
 intro value slice pins s σ H x y v u Q I rx ry h hs
 obtain⟨p,xs,i,z,rfl,rfl,hq,he,q⟩:=h
 cases rx
 obtain⟨t,rfl⟩:=ry
 obtain⟨its,r,pl,hz⟩:=I.tuple hq
 obtain⟨j,h1,h2,h3,h4,h5⟩:=wT he
 obtain⟨w,ew,rw'⟩:=r.get h2
 have hl:=r.length
 have hn:=pF
 have fin:EP X pins σ Q w s:=⟨z,H,I,rw',q⟩
 exact subscriptTail_builtinR (x:=w) pl.typeIs slot_tuple_getitem.lookup
  (getItem_tuple (j:=j) (Q:=fun r s'=>r=w/\EP X pins σ Q r s') pl (by omega) (by omega) (by rw[List.size_toArray,<- hl];exact h1) (by simpa using ew) ⟨rfl,fin⟩) hs
theorem xN:tU X rIxS:=by
 intro value slice pins s σ H x y v u Q I rx ry h hs
 obtain⟨z,i,c,rfl,rfl,hz,he,q⟩:=h
 obtain⟨t,rfl⟩:=rx
 obtain⟨t',rfl⟩:=ry
 obtain⟨j,h1,h2,h3,h4,h5⟩:=wT he
 have hl:z.cps.toList.length=z.length:=by simp[Str.length]
 rw[hl]at h1 h4 h5
 have hn:=pF
 exact tail_any (typeIs_str s z t) slot_str_getitem.lookup (getItem_str (c:=c) (by
  have e1:decide (i< -(2^ 63:Int))=false:=decide_eq_false (by omega)
  have e2:decide (i>=2^ 63)=false:=decide_eq_false (by omega)
  rw[e1,e2,Bool.or_false]) (by rw[h1];simpa using h2) ⟨.str ⟨#[c]⟩,H,I.tok _,⟨_,rfl⟩,q⟩) hs
theorem a7b(its:List Value)(n j:Nat)(u:Value):Obj.mapSeq (·.setIfInBounds j u) {cls:=.type "list",data:=.seq its.toArray n}={cls:=.type "list",data:=.seq (its.set j u).toArray n}:=by
 simp[Obj.mapSeq]
theorem aD.lst{p:Addr}(I:aD X pins σ H s)(h:H p=some (.lst xs)):
 ∃(its:List Value) (n:Nat),aX xs its/\s.heap.get? p=some {cls:=.type "list",data:=.seq its.toArray n} /\xs.length<=sizeLine:=by
 obtain⟨z,its,n,r,e⟩:=I.hok p _ h
 exact⟨its,n,r,e,z⟩
theorem aD.lstUpd{p:Addr}{its':List Value}{n n':Nat}{f:Obj->Obj}(I:aD X pins σ H s)(h:H p=some (.lst xs))
 (ho:s.heap.get? p=some {cls:=.type "list",data:=.seq its.toArray n})(hf:f {cls:=.type "list",data:=.seq its.toArray n}={cls:=.type "list",data:=.seq its'.toArray n'})(r:aX ys its')(hz:ys.length<=sizeLine)(t:Nat):
 aD X pins σ (upd H p (.lst ys)) {s with heap:=s.heap.update p f,toks:=t}:=by
 have e:(s.heap.update p f).get? p=some {cls:=.type "list",data:=.seq its'.toArray n'}:=by
  rw[Heap.get?_update_self f ho (by rw[hf]<;>rfl),hf]
 refine I.write (x:=p) (e:=p) (by rw[h];trivial) (.inl rfl) (fun b u hb q=>(Heap.get?_update_other _ _ (Ne.symm hb)).trans q) ⟨_,e⟩ ?_
 exact⟨hz,its',n',r,e⟩
def a7r:V->V->V->Hp->(Hp->Prop)->Prop:=fun o i v H Q=>∃p xs k j,o= .ref p/\i= .int k/\H p=some (.lst xs)/\gP xs.length k=some j/\Q (upd H p (.lst (xs.set j v)))
theorem yX:PSet X a7r:=by
 intro pins s σ H o i v ov iv u Q I ro ri rv h
 obtain⟨p,xs,k,j,rfl,rfl,hp,hj,q⟩:=h
 cases ro
 obtain⟨t,rfl⟩:=ri
 obtain⟨its,n,r,ho,hz⟩:=I.lst hp
 obtain⟨h1,h2,h3,h4⟩:=a2C hj
 have hl:=r.length
 have hn:=pF
 have I':aD X pins σ (upd H p (.lst (xs.set j v))) {s with heap:=s.heap.update p (Obj.mapSeq (·.setIfInBounds j u))}:=
  I.lstUpd hp ho (a7b its n j u) (r.set rv j) (by rw[List.length_set];exact hz) s.toks
 by_cases h0:0<=k
 ·have hk:k.toNat=j:=by
   rw[seqIndex_of h0 h4]at h1
   exact Option.some.inj h1
  exact W.ki_setAt ho h0 (by omega) (by rw[List.size_toArray,<- hl];exact h4) (by rw[hk];exact⟨_,I',q⟩)
 ·have hk:(k+ (its.toArray.size:Int)).toNat=j:=by
   rw[seqIndex_neg (by omega) h3]at h1
   rw[List.size_toArray,<- hl]
   exact Option.some.inj h1
  exact W.ki_setBack ho (by omega) (by rw[List.size_toArray,<- hl];exact h3) (by omega) (by rw[hk];exact⟨_,I',q⟩)
theorem a6M(lo hi:Option Int)(n:Nat):(sliceBounds lo hi none n).1=((HT.sIx n 0 lo:Nat):Int)/\(sliceBounds lo hi none n).2.1=((HT.sIx n n hi:Nat):Int)/\(sliceBounds lo hi none n).2.2=1:=by
 refine⟨?_,?_,rfl⟩
 ·cases lo with
  |none=>simp[sliceBounds,HT.sIx]
  |some i=>
   simp only[sliceBounds,HT.sIx,Option.getD_none,show(1:Int)>0 by decide,if_true]
   by_cases h:i<0
   ·simp only[h,if_true]<;>omega
   ·simp only[h,if_false]<;>omega
 ·cases hi with
  |none=>simp[sliceBounds,HT.sIx]
  |some i=>
   simp only[sliceBounds,HT.sIx,Option.getD_none,show(1:Int)>0 by decide,if_true]
   by_cases h:i<0
   ·simp only[h,if_true]<;>omega
   ·simp only[h,if_false]<;>omega
theorem a6j(its:List Value)(lo hi:Option Int):slicePick its.toArray lo hi none=((its.drop (HT.sIx its.length 0 lo)).take (HT.sIx its.length its.length hi- HT.sIx its.length 0 lo)).toArray:=by
 obtain⟨h1,h2,h3⟩:=a6M lo hi its.toArray.size
 unfold slicePick
 rw[h1,h2,h3]
 simp only[sliceRange_one,pick_run,List.size_toArray]<;>rfl
def rSlL(K:Fg):V->Option Int->Option Int->Hp->VK->Prop:=fun x lo hi H Q=>∃a xs,x= .ref a/\aN K H a xs/\∀p,H p=none->Q (.ref p) (upd H p (.lst (sM xs lo hi)))
theorem sl_list:qP X (rSlL X.K):=by
 intro pins s σ H x v vl vu lo hi sl Q I rx hs pl pu h
 obtain⟨a,xs,rfl,hx,q⟩:=h
 cases rx
 obtain⟨its,r,ht,hz⟩:=I.list hx
 have hlen:=r.length
 refine⟨"list",_,slot_list_getitem.lookup,ht.isList.typeIs,?_⟩
 refine wpAny_getItem_list_slice ht.isList hs pl pu .none (by simp) ?_ (by rw[List.size_toArray]<;>omega)
 rw[a6j,<- hlen]
 refine⟨.ref s.heap.objs.size,_,I.laid (t':=s.toks) (o:=.lst (sM xs lo hi)) (fun b ob q=>Heap.get?_push_of_some _ q) (Nat.le_refl _) ?_,rfl,q _ (I.hok.fresh (Nat.le_refl _))⟩
 exact⟨Nat.le_trans (a77 xs lo hi) hz,_,0,(r.drop (HT.sIx xs.length 0 lo)).take (HT.sIx xs.length xs.length hi- HT.sIx xs.length 0 lo),Heap.get?_push_size _ rfl⟩
noncomputable def kX:V->Bool
 | .non=>true
 | .bl _=>true
 | .int _=>true
 | .str _=>true
 |_=>false
noncomputable def kN:V->V->Bool
 | .non,.non=>true
 | .bl a,.bl b=>a==b
 | .bl a,.int b=>(if a then 1 else 0)==b
 | .int a,.bl b=>a==(if b then 1 else 0)
 | .int a,.int b=>a==b
 | .str a,.str b=>a==b
 |_,_=>false
theorem a4O{x:V}{v:Value}(ry:aZ y u)(rx:aZ x v)(fy:kX y=true)(fx:kX x=true):SeqAt.EqAt A s u v (kN y x):=by
 cases y with
 |non=>
  cases ry
  cases x with
  |non=>cases rx;exact SeqAt.EqAt.same _
  |bl b=>cases rx;exact SeqAt.EqAt.none_bool b
  |int b=>obtain⟨t,rfl⟩:=rx;exact SeqAt.EqAt.none_int b t
  |str b=>obtain⟨t,rfl⟩:=rx;exact SeqAt.EqAt.none_str b t
  |_=>exact absurd (show false=true from fx) Bool.false_ne_true
 |bl a=>
  cases ry
  cases x with
  |non=>cases rx;exact SeqAt.EqAt.bool_none a
  |bl b=>cases rx;exact SeqAt.EqAt.bool_bool a b
  |int b=>obtain⟨t,rfl⟩:=rx;exact SeqAt.EqAt.bool_int a b t
  |str b=>obtain⟨t,rfl⟩:=rx;exact SeqAt.EqAt.bool_str a b t
  |_=>exact absurd (show false=true from fx) Bool.false_ne_true
 |int a=>
  obtain⟨t',rfl⟩:=ry
  cases x with
  |non=>cases rx;exact SeqAt.EqAt.int_none a t'
  |bl b=>cases rx;exact SeqAt.EqAt.int_bool a t' b
  |int b=>obtain⟨t,rfl⟩:=rx;exact SeqAt.EqAt.int_int a t' b t
  |str b=>obtain⟨t,rfl⟩:=rx;exact SeqAt.EqAt.int_str a t' b t
  |_=>exact absurd (show false=true from fx) Bool.false_ne_true
 |str a=>
  obtain⟨t',rfl⟩:=ry
  cases x with
  |non=>cases rx;exact SeqAt.EqAt.str_none a t'
  |bl b=>cases rx;exact SeqAt.EqAt.str_bool a t' b
  |int b=>obtain⟨t,rfl⟩:=rx;exact SeqAt.EqAt.str_int a t' b t
  |str b=>obtain⟨t,rfl⟩:=rx;exact SeqAt.EqAt.str_str a t' b t
  |_=>exact absurd (show false=true from fx) Bool.false_ne_true
 |_=>exact absurd (show false=true from fy) Bool.false_ne_true
noncomputable def gE (x:V) (u:Value):Bool:=match u with
 | .none=>kN .non x
 | .bool b=>kN (.bl b) x
 | .int i _=>kN (.int i) x
 | .str z _=>kN (.str z) x
 |_=>false
theorem a0y{x:V}(r:aZ y u)(f:kX y=true):gE x u=kN y x:=by
 cases y with
 |non=>cases r;rfl
 |bl b=>cases r;rfl
 |int i=>obtain⟨t,rfl⟩:=r;rfl
 |str z=>obtain⟨t,rfl⟩:=r;rfl
 |_=>exact absurd (show false=true from f) Bool.false_ne_true
theorem rV{x:V}:∀{xs:List V} {us:List Value},aX xs us->xs.all kX=true->us.any (gE x)=xs.any fun y=>kN y x
 |_,_,.nil,_=>rfl
 |y::xs,u::us,.cons r t,f=>by
  rw[List.all_cons,Bool.and_eq_true]at f
  rw[List.any_cons,List.any_cons,a0y r f.1,rV t f.2]
theorem qX{A:Around}{s:Shared}{x:V}{v:Value}(rx:aZ x v)(fx:kX x=true):∀{xs:List V} {us:List Value},aX xs us->xs.all kX=true->∀u∈us,SeqAt.EqAt A s u v (gE x u)
 |_,_,.nil,_=>fun u hu=>by cases hu
 |y::xs,u::us,.cons r t,f=>fun u' hu=>by
  rw[List.all_cons,Bool.and_eq_true]at f
  rcases List.mem_cons.mp hu with rfl|hu
  ·rw[a0y r f.1];exact a4O r rx f.1 fx
  ·exact qX rx fx t f.2 u' hu
noncomputable def gR (x:V) (xs:List V):Bool:=xs.any fun y=>kN y x
noncomputable def rIn (K:Fg) (neg:Bool):R2:=fun x y H Q=>∃p xs,y= .ref p/\(aN K H p xs\/ bU K H p xs)/\kX x=true/\xs.all kX=true/\Q (.bl (if neg then !gR x xs else gR x xs)) H
theorem xD:dN X (compareOp .In) (rIn X.K false):=by
 intro pins s σ H x y v u Q I rx ry h
 obtain⟨p,xs,rfl,hq,fx,fs,q⟩:=h
 cases ry
 rcases hq with hq|hq
 ·obtain⟨its,r,pl,hz⟩:=I.list hq
  refine SeqAt.in_listAt (gE x) pl.isList (fun w hw=>qX rx fx r fs w (by simpa using hw)) ⟨.bl _,H,I,rfl,?_⟩
  rw[show its.toArray.any (gE x)=its.any (gE x)by simp,rV r fs]
  exact q
 ·obtain⟨its,r,pl,hz⟩:=I.tuple hq
  refine SeqAt.in_tupleAt (gE x) pl (fun w hw=>qX rx fx r fs w (by simpa using hw)) ⟨.bl _,H,I,rfl,?_⟩
  rw[show its.toArray.any (gE x)=its.any (gE x)by simp,rV r fs]
  exact q
theorem zE:dN X (compareOp .NotIn) (rIn X.K true):=by
 intro pins s σ H x y v u Q I rx ry h
 obtain⟨p,xs,rfl,hq,fx,fs,q⟩:=h
 cases ry
 rcases hq with hq|hq
 ·obtain⟨its,r,pl,hz⟩:=I.list hq
  refine SeqAt.notIn_listAt (gE x) pl.isList (fun w hw=>qX rx fx r fs w (by simpa using hw)) ⟨.bl _,H,I,rfl,?_⟩
  rw[show its.toArray.any (gE x)=its.any (gE x)by simp,rV r fs]
  exact q
 ·obtain⟨its,r,pl,hz⟩:=I.tuple hq
  refine SeqAt.notIn_tupleAt (gE x) pl (fun w hw=>qX rx fx r fs w (by simpa using hw)) ⟨.bl _,H,I,rfl,?_⟩
  rw[show its.toArray.any (gE x)=its.any (gE x)by simp,rV r fs]
  exact q
theorem rH:iK X (.type "list") (fun xs H Q=>∃p ys,xs= [.ref p] /\(aN X.K H p ys\/ bU X.K H p ys)/\∀l,H l=none->Q (.ref l) (upd H l (.lst ys))):=by
 intro pins s σ H xs us Q I r h
 obtain⟨p,ys,rfl,hq,q⟩:=h
 obtain⟨u,rfl,rx⟩:=pN r
 cases rx
 have fin:∀(its:List Value),aX ys its->ys.length<=sizeLine->∀(h':Heap) (c':Nat),(∀b o',s.heap.get? b=some o'->h'.get? b=some o')->
  h'.get? s.heap.objs.size=some {cls:=.type "list",dict:=none,data:=.seq its.toArray c',slots:= #[]} ->EP X pins σ Q (.ref s.heap.objs.size) {s with heap:=h'}:=fun its r' hz h' c' kp e=>
  ⟨.ref s.heap.objs.size,_,I.laid (t':=s.toks) kp (Nat.le_refl _) (show cO X.prog X.w _ h' _ (.lst ys) from⟨hz,its,c',r',e⟩),rfl,q _ (I.hok.fresh (Nat.le_refl _))⟩
 rcases hq with hq|hq
 ·obtain⟨its,r',pl,hz⟩:=I.list hq
  have hlen:=r'.length
  obtain⟨o,ho,hc,n,hd⟩:=pl.isList
  exact call_list_seq p (.inl rfl) ho hc hd (fun h' c' kp e=>fin its r' hz h' c' kp e) (by simp only[List.size_toArray]<;>omega)
 ·obtain⟨its,r',pl,hz⟩:=I.tuple hq
  have hlen:=r'.length
  obtain⟨o,ho,hc,n,hd⟩:=pl
  exact call_list_seq p (.inr rfl) ho hc hd (fun h' c' kp e=>fin its r' hz h' c' kp e) (by simp only[List.size_toArray]<;>omega)
def zC(K:Fg)(T:String)(x:V)(H:Hp):Prop:=match x with
 | .str _=>T= "str"
 | .int _=>T= "int"
 | .ref p=>(T= "list" /\∃xs,aN K H p xs)\/ (T= "tuple" /\∃o,K.lookup p=some o/\o.cls= .type "tuple" /\o.dict=none)\/
  (T= "dict" /\((∃kvs,H p=some (.dK kvs))\/ ∃kvs,H p=some (.dT kvs)))\/ (T= "set" /\∃S n,H p=some (.set S n))
 |_=>False
theorem a2Y{T:String}{x:V}{v:Value}(I:aD X pins σ H s)(r:aZ x v)(ty:zC X.K T x H):
 s.TypeIs v T/\∀a,v= .ref a->∃ob,s.heap.get? a=some ob/\ob.dict=none:=by
 cases x with
 |str z=>
  obtain⟨t,rfl⟩:=r
  cases (show T= "str" from ty)
  exact⟨typeIs_str s z t,fun _ e=>nomatch e⟩
 |int i=>
  obtain⟨t,rfl⟩:=r
  cases (show T= "int" from ty)
  exact⟨typeIs_int s i t,fun _ e=>nomatch e⟩
 |ref p=>
  cases r
  rcases ty with⟨rfl,xs,hq⟩|⟨rfl,o,hk,hc,hd⟩|⟨rfl,hk⟩|⟨rfl,S,n,hk⟩
  ·obtain⟨its,_,pl,_⟩:=I.list hq
   refine⟨pl.isList.typeIs,fun a e=> ?_⟩
   cases e
   obtain⟨o,n,e,c,hd,_⟩:=pl
   exact⟨o,e,hd⟩
  ·refine⟨⟨o,I.kIn p o hk,hc⟩,fun a e=> ?_⟩
   cases e
   exact⟨o,I.kIn _ o hk,hd⟩
  ·have z:∃o,s.heap.get? p=some o/\o.ExactDict:=by
    rcases hk with⟨kvs,hk⟩|⟨kvs,hk⟩
    ·obtain⟨_,_,_,_,o,_,_,e,ex,_⟩:=I.hok p _ hk
     exact⟨o,e,ex⟩
    ·obtain⟨_,_,_,_,o,_,_,e,ex,_⟩:=I.hok p _ hk
     exact⟨o,e,ex⟩
   obtain⟨o,e,ex⟩:=z
   refine⟨⟨o,e,ex.1⟩,fun a e2=> ?_⟩
   cases e2
   exact⟨o,e,ex.2.1⟩
  ·obtain⟨o,_,_,_,e,ex,_⟩:=I.hok p _ hk
   refine⟨⟨o,e,ex.1⟩,fun a e2=> ?_⟩
   cases e2
   exact⟨o,e,ex.2.1⟩
 |_=>exact False.elim ty
def tBM0(K:Fg)(T:String)(r:V->List V->Hp->VK->Prop)(to:TE):TE:=fun σ H Q=>to σ H fun x H1=>zC K T x H1/\r x [] H1 Q
def tBM(K:Fg)(T:String)(r:V->List V->Hp->VK->Prop)(to:TE)(t:TA):TE:=fun σ H Q=>to σ H fun x H1=>zC K T x H1/\t σ H1 fun xs H2=>r x xs H2 Q
variable{o:Expr}{to:TE}{t:TA}{name:Str}{cpos:Pos}{T id:String}{r:V->List V->Hp->VK->Prop}
theorem a1B(pa:PlainAttrs T)(slot:Slot T name id)(hty:typeOf (.builtin id)=pure (.type "method_descriptor"))(hm:MtR X id r)(ho:PE X o to)
 (hbase:attributeBase o name X.env (eval o X.env)=eval o X.env:=by rfl)(hline:(apos.endLine==cpos.line)=true:=by rfl):PE X (.Call (.Attribute o name apos) [] [] cpos) (tBM0 X.K T r to):=by
 intro pins s σ H Q I h
 refine wpAny_Call_method0_late hbase hline (aT (ho pins s σ H _ I h) ?_)
 rintro v s1 ⟨x,H1,I1,r1,ty,q1⟩
 obtain⟨h1,h2⟩:=a2Y I1 r1 ty
 exact⟨T,id,pa,slot,hty,h1,h2,Calls.callWith_builtin rfl (PySem.evalArgs_none (hm pins s1 σ H1 x [] v [] Q I1 r1 .nil q1))⟩
theorem kL(pa:PlainAttrs T)(slot:Slot T name id)(hty:typeOf (.builtin id)=pure (.type "method_descriptor"))(hm:MtR X id r)(ho:PE X o to)(ha:PA X (e::es) t)
 (hbase:attributeBase o name X.env (eval o X.env)=eval o X.env:=by rfl)
 (hfew:((backTo cpos (starEach (e::es) X.env)).all (fun x=> !x.1)&&(backToKw cpos (keywordEach [] X.env)).all (fun x=>x.1.isSome)
  &&decide ((e::es).length+ ([]:List Keyword).length+ (if([]:List Keyword).isEmpty then 0 else 1)<30))=true:=by rfl)
 (hline:(apos.endLine==cpos.line)=true:=by rfl)(hs:starEach (e::es) X.env=(false,eval e X.env)::starEach es X.env:=by rfl)(hplain:(backTo cpos (starEach es X.env)).any (·.1)=false:=by rfl):
 PE X (.Call (.Attribute o name apos) (e::es) [] cpos) (tBM X.K T r to t):=by
 intro pins s σ H Q I h
 refine wpAny_Call_method_late hbase hfew hline rfl (aT (ho pins s σ H _ I h) ?_)
 rintro v s1 ⟨x,H1,I1,r1,ty,q1⟩
 obtain⟨h1,h2⟩:=a2Y I1 r1 ty
 refine⟨T,id,pa,slot,hty,h1,h2,?_⟩
 have hA:=ha cpos pins s1 σ H1 _ I1 q1
 rw[hs]at hA|-
 refine Calls.callWith_builtin (by show(false||(backTo cpos (starEach es X.env)).any (·.1))=false;rw[hplain]<;>rfl) (Calls.evalArgs_plain ?_)
 exact aT hA fun us s2 ⟨vs,H2,I2,r2,q2⟩=>hm pins s2 σ H2 x vs v us Q I2 r1 r2 q2
end
def wI(X:Cx)(id:String)(r:V->List V->Hp->VK->Prop):Prop:=
 ∀(pins:List (Addr×Obj)) (s:Shared) (σ:St) (H:Hp) (x:V) (xs:List V) (v:Value) (us:List Value) (Q:VK),aD X pins σ H s->aZ x v->aX xs us->r x xs H Q->
  wpAny (model X.prog X.w) X.A (call (.builtin id) (v::us)) (EP X pins σ Q) X.xe s
theorem aX.one:∀{x:V} {us:List Value},aX [x] us->∃u,us= [u] /\aZ x u
 |_,_,.cons r .nil=>⟨_,rfl,r⟩
theorem aX.two{x:V}(h:aX [x,y] us):∃u v,us= [u,v] /\aZ x u/\aZ y v:=by
 cases h with
 |cons r h=>cases h with
  |cons q h=>cases h with
   |nil=>exact⟨_,_,rfl,r,q⟩
theorem aX.zero:∀{us:List Value},aX [] us->us= []
 |_,.nil=>rfl
theorem aX.dropLast(h:aX xs us):aX xs.dropLast us.dropLast:=by
 induction h with
 |nil=>exact .nil
 |cons r t ih=>
  cases t with
  |nil=>exact .nil
  |cons q t'=>exact .cons r ih
theorem a7a{α:Type}(l:List α):l.eraseIdx (l.length- 1)=l.dropLast:=by
 induction l with
 |nil=>rfl
 |cons a r ih=>
  cases r with
  |nil=>rfl
  |cons b r=>
   have e:(a::b::r).length- 1=((b::r).length- 1)+ 1:=by
    have h1:(a::b::r).length=r.length+ 2:=rfl
    have h2:(b::r).length=r.length+ 1:=rfl
    omega
   rw[e,List.eraseIdx_cons_succ,ih]
   all_goals rfl
section
theorem aD.lset{its':List Value}{n:Nat}{f:Array Value->Array Value}{t':Nat}(I:aD X pins σ H s)(hH:H l=some (.lst xs))
 (e:s.heap.get? l=some {cls:=.type "list",data:=.seq its.toArray n})(hf:f its.toArray=its'.toArray)(hv:aX ys its')(hz:ys.length<=sizeLine):
 aD X pins σ (upd H l (.lst ys)) {s with heap:=s.heap.update l (Obj.mapSeq f),toks:=t'}:=by
 have q:=PySem.IsL.update e f
 rw[hf]at q
 refine I.write (x:=l) (e:=l) (by rw[hH];exact trivial) (.inl rfl) (fun b' u hb hu=>(Heap.get?_update_other s.heap (Obj.mapSeq f) (Ne.symm hb)).trans hu) ⟨_,q⟩ ?_
 exact⟨hz,its',_,hv,q⟩
theorem aD.lnew{t':Nat}(I:aD X pins σ H s)(hv:aX ys its)(hz:ys.length<=sizeLine):
 aD X pins σ (upd H s.heap.objs.size (.lst ys)) {s with heap:=s.heap.push {cls:=.type "list",data:=.seq its.toArray},toks:=t'}:=
 I.laid (fun _ _ q=>Heap.get?_push_of_some _ q) (Nat.le_refl _) ⟨hz,its,0,hv,Heap.get?_push_size _ rfl⟩
theorem aD.lstM(I:aD X pins σ H s)(hH:H l=some (.lst xs)):xs.length<=sizeLine/\∃(its:List Value) (n:Nat),aX xs its/\xs.length=its.length/\s.heap.get? l=some {cls:=.type "list",data:=.seq its.toArray n}:=by
 obtain⟨z,its,n,r,e⟩:=I.hok l _ hH
 exact⟨z,its,n,r,r.length,e⟩
end
section
def a8D:V->List V->Hp->VK->Prop:=fun x vs H Q=>∃l xs y,x= .ref l/\vs= [y] /\H l=some (.lst xs)/\xs.length<sizeLine/\Q .non (upd H l (.lst (xs++ [y])))
theorem jC:wI X "list.append" a8D:=by
 intro pins s σ H x vs v us Q I rx rv h
 obtain⟨l,xs,y,rfl,rfl,hH,hz,q⟩:=h
 cases rx
 obtain⟨u,rfl,ru⟩:=rv.one
 obtain⟨z,its,n,r,hl,e⟩:=I.lstM hH
 refine call_meets F.slot_list_append ⟨_,e,rfl⟩ F.entry_list_append (F.args_list_append_2 _ _) (PySem.list_append l its.toArray n u (by rw[List.size_toArray];omega)) ⟨e,?_⟩
 refine⟨.non,_,I.lset (its':=its++ [u]) hH e (by simp) (r.append (.cons ru .nil)) ?_,rfl,q⟩
 rw[List.length_append,List.length_singleton]
 omega
def rPop:V->List V->Hp->VK->Prop:=fun x vs H Q=>∃l xs y,x= .ref l/\vs= [] /\H l=some (.lst xs)/\xs[xs.length- 1]?=some y/\Q y (upd H l (.lst xs.dropLast))
theorem a3S:wI X "list.pop" rPop:=by
 intro pins s σ H x vs v us Q I rx rv h
 obtain⟨l,xs,y,rfl,rfl,hH,hy,q⟩:=h
 cases rx
 have hus:=rv.zero
 subst hus
 obtain⟨z,its,n,r,hl,e⟩:=I.lstM hH
 obtain⟨u,hu,ru⟩:=r.get hy
 have hy':its.toArray[its.toArray.size- 1]?=some u:=by
  show its.toArray[its.length- 1]?=some u
  rw[<- Array.getElem?_toList,<- hl]
  exact hu
 refine call_meets F.slot_list_pop ⟨_,e,rfl⟩ F.entry_list_pop (F.args_list_pop_1 _) (MeetsSeq.list_pop_last l its.toArray n u hy' (by rw[List.size_toArray];omega)) ⟨e,?_⟩
 refine⟨y,_,I.lset (its':=its.dropLast) hH e ?_ r.dropLast ?_,ru,q⟩
 ·show its.toArray.eraseIdxIfInBounds (its.toArray.size- 1)=its.dropLast.toArray
  rw[List.size_toArray,List.eraseIdxIfInBounds_toArray,a7a]
 ·rw[List.length_dropLast]
  omega
def a4r:V->List V->Hp->VK->Prop:=fun x vs H Q=>∃l xs,x= .ref l/\vs= [] /\H l=some (.lst xs)/\Q .non (upd H l (.lst []))
theorem a5o:wI X "list.clear" a4r:=by
 intro pins s σ H x vs v us Q I rx rv h
 obtain⟨l,xs,rfl,rfl,hH,q⟩:=h
 cases rx
 have hus:=rv.zero
 subst hus
 obtain⟨z,its,n,r,hl,e⟩:=I.lstM hH
 refine call_meets F.slot_list_clear ⟨_,e,rfl⟩ F.entry_list_clear (F.args_list_clear_1 _) (AutoSeq1.list_clear_list_0 l its.toArray n (by rw[List.size_toArray];omega)) ⟨e,?_⟩
 exact⟨.non,_,I.lset (its':=[]) (ys:=[]) hH e rfl .nil (Nat.zero_le _),rfl,q⟩
end
section
variable{κ:Type} [DecidableEq κ]
def aE(kvs:List (κ×V))(k:κ):Option V:=(kvs.find? fun kv=>decide (kv.1=k)).map (·.2)
noncomputable def aQ (kvs:List (κ×V)) (k:κ) (v:V):List (κ×V):=
 if(kvs.any fun kv=>decide (kv.1=k))=true then kvs.map (fun kv=>if kv.1=k then(kv.1,v) else kv) else kvs++ [(k,v)]
theorem jO{p:κ×V}{r:List (κ×V)}{k:κ}(e:p.1=k):aE (p::r) k=some p.2:=by simp[aE,List.find?_cons,e]
theorem iW{p:κ×V}{r:List (κ×V)}{k:κ}(e:¬p.1=k):aE (p::r) k=aE r k:=by simp[aE,List.find?_cons,e]
theorem lO(k:κ):∀kvs:List (κ×V),(kvs.any fun kv=>decide (kv.1=k))=(aE kvs k).isSome
 | []=>rfl
 |p::r=>by
  rw[List.any_cons]
  by_cases e:p.1=k
  ·simp only[jO e,decide_eq_true e,Bool.true_or,Option.isSome_some]
  ·rw[iW e,decide_eq_false e,Bool.false_or];exact lO k r
theorem a2Q(k j:κ)(y:V):∀kvs:List (κ×V),aE (kvs.map fun kv=>if kv.1=k then(kv.1,y) else kv) j=(aE kvs j).map fun x=>if j=k then y else x
 | []=>rfl
 |p::r=>by
  have ih:=a2Q k j y r
  rw[List.map_cons]
  by_cases h:p.1=k
  ·rw[if_pos h]
   by_cases e:p.1=j
   ·rw[jO (p:=(p.1,y)) e,jO e,Option.map_some,if_pos (e.symm.trans h)]
   ·rw[iW (p:=(p.1,y)) e,iW e,ih]
  ·rw[if_neg h]
   by_cases e:p.1=j
   ·rw[jO (p:=p) e,jO e,Option.map_some,if_neg (fun z=>h (e.trans z))]
   ·rw[iW (p:=p) e,iW e,ih]
theorem a3u(k j:κ)(y:V):∀kvs:List (κ×V),aE kvs k=none->aE (kvs++ [(k,y)]) j=if j=k then some y else aE kvs j
 | [],_=>by
  by_cases e:k=j
  ·rw[if_pos e.symm];exact jO (p:=(k,y)) e
  ·rw[if_neg (fun z=>e z.symm)];exact iW (p:=(k,y)) e
 |p::r,hn=>by
  rw[List.cons_append]
  have hk:¬p.1=k:=fun z=>by rw[jO z]at hn;cases hn
  rw[iW hk]at hn
  have ih:=a3u k j y r hn
  by_cases e:p.1=j
  ·rw[jO e,jO e,if_neg (fun z=>hk (e.trans z))]
  ·rw[iW e,iW e,ih]
theorem fQ(kvs:List (κ×V))(k j:κ)(y:V):aE (aQ kvs k y) j=if j=k then some y else aE kvs j:=by
 unfold aQ
 by_cases a:(kvs.any fun kv=>decide (kv.1=k))=true
 ·rw[if_pos a,a2Q]
  rw[lO]at a
  by_cases e:j=k
  ·obtain⟨x,hx⟩:=Option.isSome_iff_exists.mp a
   rw[if_pos e,e,hx,Option.map_some,if_pos rfl]
  ·rw[if_neg e]
   cases aE kvs j with
   |none=>rfl
   |some x=>rw[Option.map_some,if_neg e]
 ·rw[if_neg a]
  refine a3u k j y kvs ?_
  rw[lO]at a
  cases q:aE kvs k with
  |none=>rfl
  |some x=>rw[q]at a;exact(a rfl).elim
theorem xX(kvs:List (κ×V))(k:κ)(v:V):(aQ kvs k v).length<=kvs.length+ 1:=by
 unfold aQ
 split
 ·rw[List.length_map];omega
 ·rw[List.length_append,List.length_cons,List.length_nil];omega
theorem uV{kvs:List (κ×V)}{k:κ}(v:V)(h:aE kvs k=none):aQ kvs k v=kvs++ [(k,v)]:=by
 unfold aQ
 rw[lO,h]
 exact if_neg (by decide)
theorem fO.isSome_eq{o:Option V}{u:Option Value}(r:fO o u):o.isSome=u.isSome:=by
 cases o with
 |none=>cases u with
  |none=>rfl
  |some _=>exact(show False from r).elim
 |some _=>cases u with
  |none=>exact(show False from r).elim
  |some _=>rfl
theorem fO.getD{o:Option V}{u:Option Value}{d:V}{d':Value}(r:fO o u)(rd:aZ d d'):aZ (o.getD d) (u.getD d'):=by
 cases o with
 |none=>cases u with
  |none=>exact rd
  |some _=>exact(show False from r).elim
 |some _=>cases u with
  |none=>exact(show False from r).elim
  |some _=>exact r
theorem KV.val{kvs:List (κ×V)}{vs:List (κ×Value)}(r:KV kvs vs)(k:κ):fO (aE kvs k) (valueAt vs k):=by
 unfold KV at r
 induction r with
 |nil=>exact True.intro
 | @cons p q ps qs h t ih=>
  obtain⟨h1,h2⟩:=h
  by_cases e:p.1=k
  ·have e':q.1=k:=h1.symm.trans e
   have b:valueAt (q::qs) k=some q.2:=by simp[valueAt,List.find?_cons,e']
   rw[jO e,b];exact h2
  ·have e':¬q.1=k:=fun z=>e (h1.trans z)
   have b:valueAt (q::qs) k=valueAt qs k:=by simp[valueAt,List.find?_cons,e']
   rw[iW e,b];exact ih
theorem KV.any{kvs:List (κ×V)}{vs:List (κ×Value)}(r:KV kvs vs)(k:κ):(kvs.any fun kv=>decide (kv.1=k))=vs.any fun kv=>decide (kv.1=k):=by
 unfold KV at r
 induction r with
 |nil=>rfl
 |cons h t ih=>rw[List.any_cons,List.any_cons,ih,h.1]
theorem KV.repl{kvs:List (κ×V)}{vs:List (κ×Value)}(r:KV kvs vs)(k:κ)(ry:aZ y u):
 KV (kvs.map fun kv=>if kv.1=k then(kv.1,y) else kv) (vs.map fun kv=>if kv.1=k then(kv.1,u) else kv):=by
 unfold KV at r|-
 induction r with
 |nil=>exact .nil
 | @cons p q ps qs h t ih=>
  rw[List.map_cons,List.map_cons]
  refine .cons ?_ ih
  obtain⟨h1,h2⟩:=h
  by_cases e:p.1=k
  ·rw[if_pos e,if_pos (h1.symm.trans e)];exact⟨h1,ry⟩
  ·rw[if_neg e,if_neg (fun z=>e (h1.trans z))];exact⟨h1,h2⟩
theorem KV.put{kvs:List (κ×V)}{vs:List (κ×Value)}(r:KV kvs vs)(k:κ)(ry:aZ y u):KV (aQ kvs k y) (stored vs k u):=by
 unfold aQ stored
 rw[r.any k]
 by_cases e:(vs.any fun kv=>decide (kv.1=k))=true
 ·rw[if_pos e,if_pos e];exact r.repl k ry
 ·rw[if_neg e,if_neg e];exact Paired.snoc r ⟨rfl,ry⟩
theorem KV.length{kvs:List (κ×V)}{vs:List (κ×Value)}(r:KV kvs vs):kvs.length=vs.length:=Paired.length r
end
theorem oS{k:aB}(r:aZ (kV k) u):(fE P w).is k u=true:=by
 cases k with
 |inl i=>obtain⟨t,e⟩:=(show∃t,u=Value.int i t from r);subst e;exact a6u P w i t
 |inr x=>obtain⟨t,e⟩:=(show∃t,u=Value.str x t from r);subst e;exact a4N P w x t
theorem a1p{P:Program}{w:World}:∀{ks:List aB} {us:List Value},aX (ks.map kV) us->ItemsAre (fE P w) ks us
 | [],_,r=>by rw[List.map_nil]at r;cases r;exact .nil
 |k::ks,_,r=>by
  rw[List.map_cons]at r
  cases r with
  |cons h t=>exact .cons (oS h) (a1p t)
abbrev KT(H:Hp):List (List aB×V)->List (List aB×Addr×Value)->Prop:=Paired fun p q=>p.1=q.1/\H q.2.1=some (.tup (p.1.map kV))/\aZ p.2 q.2.2
theorem KT.val{kvs:List (List aB×V)}{xs:List (List aB×Addr×Value)}(r:KT H kvs xs)(k:List aB):fO (aE kvs k) ((atKey xs k).map (·.2)):=by
 induction r with
 |nil=>exact True.intro
 | @cons p q ps qs h t ih=>
  obtain⟨h1,_,h2⟩:=h
  by_cases e:p.1=k
  ·have e':q.1=k:=h1.symm.trans e
   have b:atKey (q::qs) k=some q.2:=by simp[atKey,List.find?_cons,e']
   rw[jO e,b];exact h2
  ·have e':¬q.1=k:=fun z=>e (h1.trans z)
   have b:atKey (q::qs) k=atKey qs k:=by simp[atKey,List.find?_cons,e']
   rw[iW e,b];exact ih
theorem KT.repl{kvs:List (List aB×V)}{xs:List (List aB×Addr×Value)}(r:KT H kvs xs)(k:List aB)(ry:aZ y u):
 KT H (kvs.map fun kv=>if kv.1=k then(kv.1,y) else kv) (xs.map (putAt k u)):=by
 induction r with
 |nil=>exact .nil
 | @cons p q ps qs h t ih=>
  rw[List.map_cons,List.map_cons]
  refine .cons ?_ ih
  obtain⟨h1,h2,h3⟩:=h
  unfold putAt
  by_cases e:p.1=k
  ·rw[if_pos e,if_pos (h1.symm.trans e)];exact⟨h1,h2,ry⟩
  ·rw[if_neg e,if_neg (fun z=>e (h1.trans z))];exact⟨h1,h2,h3⟩
theorem KT.put{kvs:List (List aB×V)}{xs:List (List aB×Addr×Value)}(r:KT H kvs xs)(k:List aB)(hb:H b=some (.tup (k.map kV)))(ry:aZ y u):
 KT H (aQ kvs k y) (storedH xs k b u):=by
 have e:(kvs.any fun kv=>decide (kv.1=k))=(atKey xs k).isSome:=by
  rw[lO,(r.val k).isSome_eq,Option.isSome_map]
 unfold aQ storedH
 rw[e]
 by_cases q:(atKey xs k).isSome=true
 ·rw[if_pos q,if_pos q];exact r.repl k ry
 ·rw[if_neg q,if_neg q];exact Paired.snoc r ⟨rfl,hb,ry⟩
theorem KT.keeps{kvs:List (List aB×V)}{xs:List (List aB×Addr×Value)}(r:KT H kvs xs)(ht:∀b ys,H b=some (.tup ys)->H' b=some (.tup ys)):KT H' kvs xs:=
 Paired.mapP r fun _ _ z=>⟨z.1,ht _ _ z.2.1,z.2.2⟩
section
theorem a26{u:HO}(ok:bX P w H h)(e:Rd H a u):cO P w H h a u:=e.ok ok
theorem lT(ok:bX P w H h)(e:Rd H a (.dK kvs)):kvs.length<=sizeLine/\(a==sysModules)=false/\∃vs,KV kvs vs/\h.DictOf (fE P w) a vs:=
 show cO P w H h a (.dK kvs) from a26 ok e
theorem a66(ok:bX P w H h)(e:H a=some (.dK kvs)):kvs.length<=sizeLine/\(a==sysModules)=false/\∃vs,KV kvs vs/\h.DictOf (fE P w) a vs:=lT ok (.inl e)
theorem oE{ks:List aB}(ok:bX P w H h)(e:H a=some (.tup (ks.map kV))):(tupleKind (fE P w)).is h ks a:=by
 obtain⟨_,its,r,o,h1,h2,n,h3⟩:=(show cO P w H h a (.tup (ks.map kV)) from ok a _ e)
 exact⟨o,its.toArray,n,h1,h2,h3,by simpa using a1p r⟩
theorem mZ{kvs:List (List aB×V)}(ok:bX P w H h)(e:Rd H a (.dT kvs)):kvs.length<=sizeLine/\(a==sysModules)=false/\
 ∃xs,KT H kvs xs/\h.DictOfH (tupleKind (fE P w)) a xs:=by
 obtain⟨z,y,xs,r,o,es,ep,h1,h2,h3,h4,h5⟩:=(show cO P w H h a (.dT kvs) from a26 ok e)
 refine⟨z,y,xs,r,o,es,ep,h1,h2,h3,h4,fun x hx=> ?_,h5⟩
 have all:∀{l:List (List aB×V)} {m:List (List aB×Addr×Value)},KT H l m->∀x∈m,(tupleKind (fE P w)).is h x.1 x.2.1:=by
  intro l m q
  induction q with
  |nil=>intro x hx;exact nomatch hx
  | @cons p q ps qs hq t ih=>
   intro x hx
   rcases List.mem_cons.mp hx with e|hx
   ·subst e
    exact oE ok (by rw[<- hq.1];exact hq.2.1)
   ·exact ih x hx
 exact all r x hx
theorem a39{kvs:List (List aB×V)}(ok:bX P w H h)(e:H a=some (.dT kvs)):kvs.length<=sizeLine/\(a==sysModules)=false/\
 ∃xs,KT H kvs xs/\h.DictOfH (tupleKind (fE P w)) a xs:=mZ ok (.inl e)
end
def bW(H:Hp)(a:Addr)(y:V)(r:Option V):Prop:=
 (∃kvs k,Rd H a (.dK kvs)/\y=kV k/\r=aE kvs k)\/ ∃kvs k b,Rd H a (.dT kvs)/\y= .ref b/\H b=some (.tup (k.map kV))/\r=aE kvs k
def gC(H:Hp)(a:Addr)(y v:V)(H':Hp):Prop:=
 (∃kvs k,H a=some (.dK kvs)/\y=kV k/\kvs.length<sizeLine/\H'=upd H a (.dK (aQ kvs k v)))\/
 ∃kvs k b,H a=some (.dT kvs)/\y= .ref b/\H b=some (.tup (k.map kV))/\kvs.length<sizeLine/\H'=upd H a (.dT (aQ kvs k v))
theorem bW.k{k:aB}(e:H a=some (.dK kvs)):bW H a (kV k) (aE kvs k):=.inl ⟨kvs,k,.inl e,rfl,rfl⟩
theorem bW.t{kvs:List (List aB×V)}{k:List aB}(e:H a=some (.dT kvs))(eb:H b=some (.tup (k.map kV))):bW H a (.ref b) (aE kvs k):=.inr ⟨kvs,k,b,.inl e,rfl,eb,rfl⟩
theorem gC.k{k:aB}{v:V}(e:H a=some (.dK kvs))(hl:kvs.length<sizeLine):gC H a (kV k) v (upd H a (.dK (aQ kvs k v))):=.inl ⟨kvs,k,e,rfl,hl,rfl⟩
theorem gC.t{kvs:List (List aB×V)}{k:List aB}{v:V}(e:H a=some (.dT kvs))(eb:H b=some (.tup (k.map kV)))(hl:kvs.length<sizeLine):
 gC H a (.ref b) v (upd H a (.dT (aQ kvs k v))):=.inr ⟨kvs,k,b,e,rfl,eb,hl,rfl⟩
section
variable{v:V}{r:Value}{o:Option V}
theorem aD.big(I:aD X pins σ H s):sysModules<s.heap.objs.size:=by
 have h:mainGlobals<s.heap.objs.size:=(I.mod.glob.keeps I.bk).lt
 exact Nat.lt_trans (by decide) h
theorem a7q(hu:A.units+ 1<cLine)(I:aD X pins σ H s)(g:bW H a y (some v))(ry:aZ y u)(h:∀w' s',aD X pins σ H s'->aZ v w'->Q w' s'):
 wpAny (model X.prog X.w) A (getItem (.ref a) u) Q E s:=by
 rcases g with⟨kvs,k,e,ey,l⟩|⟨kvs,k,b,e,ey,eb,l⟩
 ·subst ey
  obtain⟨z,hd,vs,rel,dd⟩:=lT I.hok e
  obtain⟨w',hw,rw'⟩:=fO.some_of (v:=v) (o:=valueAt vs k) (by rw[l];exact rel.val k)
  exact wpAny_getItem_of (oS ry) dd.mapOf hw (h w' _ (I.tok _) rw')
 ·subst ey
  cases (show u=Value.ref b from ry)
  obtain⟨z,hd,xs,rel,dd⟩:=mZ I.hok e
  obtain⟨w',hw,rw'⟩:=fO.some_of (v:=v) (o:=(atKey xs k).map (·.2)) (by rw[l];exact rel.val k)
  obtain⟨p,hp,hp2⟩:=Option.map_eq_some_iff.mp hw
  refine wpAny_getItem_heap (tupleKind_room_in1 hu) (oE I.hok eb) dd hp ?_
  rw[hp2]
  exact h w' _ (I.tok _) rw'
theorem d_in(hu:A.units+ 1<cLine)(I:aD X pins σ H s)(g:bW H a y o)(ry:aZ y u)(h:∀s',aD X pins σ H s'->Q (.bool o.isSome) s'):
 wpAny (model X.prog X.w) A (compareOp .In u (.ref a)) Q E s:=by
 rcases g with⟨kvs,k,e,ey,l⟩|⟨kvs,k,b,e,ey,eb,l⟩
 ·subst ey
  obtain⟨z,hd,vs,rel,dd⟩:=lT I.hok e
  refine wpAny_in_of (oS ry) hd dd.mapOf ?_
  rw[<- (rel.val k).isSome_eq,<- l]
  exact h _ (I.tok _)
 ·subst ey
  cases (show u=Value.ref b from ry)
  obtain⟨z,hd,xs,rel,dd⟩:=mZ I.hok e
  refine wpAny_in_heap (tupleKind_room_in1 hu) (oE I.hok eb) hd dd ?_
  have q:=(rel.val k).isSome_eq
  rw[Option.isSome_map]at q
  rw[<- q,<- l]
  exact h _ (I.tok _)
theorem a7N(hu:A.units+ 1<cLine)(I:aD X pins σ H s)(g:bW H a y o)(ry:aZ y u)(h:∀s',aD X pins σ H s'->Q (.bool (!o.isSome)) s'):
 wpAny (model X.prog X.w) A (compareOp .NotIn u (.ref a)) Q E s:=by
 rcases g with⟨kvs,k,e,ey,l⟩|⟨kvs,k,b,e,ey,eb,l⟩
 ·subst ey
  obtain⟨z,hd,vs,rel,dd⟩:=lT I.hok e
  refine wpAny_notIn_of (oS ry) hd dd.mapOf ?_
  rw[<- (rel.val k).isSome_eq,<- l]
  exact h _ (I.tok _)
 ·subst ey
  cases (show u=Value.ref b from ry)
  obtain⟨z,hd,xs,rel,dd⟩:=mZ I.hok e
  refine wpAny_notIn_heap (tupleKind_room_in1 hu) (oE I.hok eb) hd dd ?_
  have q:=(rel.val k).isSome_eq
  rw[Option.isSome_map]at q
  rw[<- q,<- l]
  exact h _ (I.tok _)
theorem a1b{t':Nat}{ob:HO}(I:aD X pins σ H s)(mu:rF (H a))(hs:Heap.SameBut a s.heap h')(he:∃q,h'.get? a=some q)(new:cO X.prog X.w (upd H a ob) h' a ob):
 aD X pins σ (upd H a ob) {s with heap:=h',toks:=t'}:=
 I.write (x:=a) (e:=a) mu (.inl rfl) (fun b q hb z=>(hs.2 b hb).trans z) he new
theorem a7J{vs:List (aB×Value)}(z:kvs.length<=sizeLine)(hd:(a==sysModules)=false)(rel:KV kvs vs)(dd:h'.DictOf (fE P w) a vs):
 cO P w H' h' a (.dK kvs):=⟨z,hd,vs,rel,dd⟩
theorem a7m{Q:Unit->Shared->Prop}(hu:A.units+ 1<cLine)(I:aD X pins σ H s)(g:gC H a y v H')(ry:aZ y u)(rv:aZ v r)(h:∀s',aD X pins σ H' s'->Q () s'):
 wpAny (model X.prog X.w) A (setItem (.ref a) u r) Q E s:=by
 rcases g with⟨kvs,k,e,ey,l,eH⟩|⟨kvs,k,b,e,ey,eb,l,eH⟩
 ·subst ey eH
  obtain⟨z,hd,vs,rel,dd⟩:=a66 I.hok e
  have hz:vs.length<=sizeLine:=by rw[<- rel.length];exact z
  have hl:(aQ kvs k v).length<=sizeLine:=by have:=xX kvs k v;omega
  refine wpAny_setItem_pairs (hsz:=hz) (oS ry) dd fun h' dd' hs=>h _ ?_
  have he:∃q,h'.get? a=some q:=let ⟨q,_,_,hq,_⟩:=dd';⟨q,hq⟩
  exact a1b I (by rw[e];exact True.intro) hs he (a7J hl hd (rel.put k rv) dd')
 ·subst ey eH
  cases (show u=Value.ref b from ry)
  obtain⟨z,hd,xs,rel,dd⟩:=a39 I.hok e
  have hz:xs.length<=sizeLine:=by rw[<- Paired.length rel];exact z
  have hl:(aQ kvs k v).length<=sizeLine:=by have:=xX kvs k v;omega
  refine wpAny_setItem_heap (hsz:=hz) (tupleKind_room_in1 hu) (oE I.hok eb) dd fun h' dd' hs=>h _ ?_
  obtain⟨q,es,ep,hq,h2,h3,h4,_,h5⟩:=dd'
  refine a1b I (by rw[e];exact True.intro) hs ⟨q,hq⟩ ⟨hl,hd,_,(rel.put k eb rv).keeps fun c ys ec=> ?_,q,es,ep,hq,h2,h3,h4,h5⟩
  rw[aG (jQ ec e (fun z=>nomatch z))]
  exact ec
end
section
variable{k:aB}
theorem a8a(I:aD X pins σ H s)(e:Rd H a (.dK kvs))(h:∀t s',aD X pins σ H s'->Q (.int kvs.length t) s'):wpAny (model X.prog X.w) A (call (.builtin "len") [.ref a]) Q E s:=by
 obtain⟨z,hd,vs,rel,dd⟩:=lT I.hok e
 refine call_len_dict hd dd (by rw[<- rel.length];rw[sizeLine_eq]at z;omega) ?_
 rw[<- rel.length]
 exact h _ _ (I.tok _)
end
def NoSl(i:Expr):Prop:=∀ov iv,subscripted i false ov iv=operate [ov,iv] (getItem ov iv)
theorem a6F{env:Env}{value slice:Expr}{pos:Pos}{T id:String}
 (hl:typeLookup (.type T) "__getitem__"=pure (some (.builtin id)))(hs:NoSl slice)
 (h:wpAny (model prog w) A (eval value env) (fun o s₁=>wpAny (model prog w) A (eval slice env) (fun i s₂=>s₂.TypeIs o T/\wpAny (model prog w) A (getItem o i) Q E s₂) E s₁) E s):
 wpAny (model prog w) A (eval (.Subscript value slice pos) env) Q E s:=by
 refine Subscript_ (wpAny_mono h (fun o s₁ h₁=>wpAny_mono h₁ (fun i s₂ h₂=> ?_) fun _ _ x=>x) fun _ _ x=>x)
 obtain⟨hT,h₂⟩:=h₂
 unfold subscriptTail
 refine wpAny_bind ?_
 rw[getitemInPython_of_ne hT.not_modules]
 refine wpAny_bind (wpAny_specialOf hT hl ?_)
 have fin:wpAny (model prog w) A (subscripted slice false o i) (fun r s₃=>wpAny (model prog w) A (letTemporaryGo value o r>>=fun _=>pure r) Q E s₃) E s₂:=by
  rw[hs o i]
  exact wpAny_operating (wpAny_mono h₂ (fun r s₃ h₃=>wpAny_bind (wpAny_letTemporaryGo (wpAny_pure h₃))) fun _ _ x=>x)
 first
  |exact wpAny_pure (wpAny_bind fin)
  |exact wpAny_bind (wpAny_pure (wpAny_bind fin))
  |exact wpAny_bind fin
theorem a5M{o:Option V}(I:aD X pins σ H s)(g:bW H a y o):s.TypeIs (.ref a) "dict":=by
 rcases g with⟨kvs,k,e,_,_⟩|⟨kvs,k,b,e,_,_,_⟩
 ·obtain⟨_,_,vs,_,dd⟩:=lT I.hok e
  exact dd.typeIs
 ·obtain⟨_,_,xs,_,dd⟩:=mZ I.hok e
  exact dd.typeIs
def a5k(td ty:TE):TE:=fun σ H Q=>td σ H fun x H1=>ty σ H1 fun y H2=>∃a v,x= .ref a/\bW H2 a y (some v)/\Q v H2
def tDIn(ty td:TE):TE:=fun σ H Q=>ty σ H fun y H1=>td σ H1 fun x H2=>∃a o,x= .ref a/\bW H2 a y o/\Q (.bl o.isSome) H2
def a6b(ty td:TE):TE:=fun σ H Q=>ty σ H fun y H1=>td σ H1 fun x H2=>∃a o,x= .ref a/\bW H2 a y o/\Q (.bl (!o.isSome)) H2
def a43(td ty tv:TE):TS:=fun D σ H=>tv σ H fun v H1=>td σ H1 fun x H2=>ty σ H2 fun y H3=>∃a H4,x= .ref a/\gC H3 a y v H4/\D.nx σ H4
section
variable{o i value:Expr}{pos tpos:Pos}{td ty tv:TE}
theorem fD(hu:X.A.units+ 1<cLine)(ho:PE X o td)(hi:PE X i ty)(hs:NoSl i):PE X (.Subscript o i pos) (a5k td ty):=by
 intro pins s σ H Q I h
 refine a6F F.slot_dict_getitem.lookup hs (aT (ho pins s σ H _ I h) fun u s1 ⟨x,H1,I1,rx,q1⟩=>aT (hi pins s1 σ H1 _ I1 q1) fun iv s2 ⟨y,H2,I2,ry,a,v,ex,g,q2⟩=> ?_)
 subst ex
 obtain rfl:u=Value.ref a:=rx
 exact⟨a5M I2 g,a7q hu I2 g ry fun w' s3 I3 rw'=>⟨v,H2,I3,rw',q2⟩⟩
theorem nV(hu:X.A.units+ 1<cLine)(hi:PE X i ty)(ho:PE X o td):PC X .In i o (tDIn ty td):=by
 intro pins s σ H Q I h
 refine aT (hi pins s σ H _ I h) fun iv s1 ⟨y,H1,I1,ry,q1⟩=>aT (ho pins s1 σ H1 _ I1 q1) fun u s2 ⟨x,H2,I2,rx,a,ov,ex,g,q2⟩=> ?_
 subst ex
 obtain rfl:u=Value.ref a:=rx
 exact d_in hu I2 g ry fun s3 I3=>⟨.bl ov.isSome,H2,I3,rfl,q2⟩
theorem lJ(hu:X.A.units+ 1<cLine)(hi:PE X i ty)(ho:PE X o td):PC X .NotIn i o (a6b ty td):=by
 intro pins s σ H Q I h
 refine aT (hi pins s σ H _ I h) fun iv s1 ⟨y,H1,I1,ry,q1⟩=>aT (ho pins s1 σ H1 _ I1 q1) fun u s2 ⟨x,H2,I2,rx,a,ov,ex,g,q2⟩=> ?_
 subst ex
 obtain rfl:u=Value.ref a:=rx
 exact a7N hu I2 g ry fun s3 I3=>⟨.bl (!ov.isSome),H2,I3,rfl,q2⟩
theorem iT(hu:X.A.units+ 1<cLine)(ho:PE X o td)(hi:PE X i ty)(hv:PE X value tv)(hs:swapsWith value (some (.Subscript o i pos')) pos.line X.env=pure false):
 PS X (.Assign [.Subscript o i pos'] value pos) (a43 td ty tv):=by
 intro pins s σ H D I h
 refine wpAny_Assign_Subscript (aT (hv pins s σ H _ I h) fun r s1 ⟨v,H1,I1,rv,q1⟩=>aT (ho pins s1 σ H1 _ I1 q1) fun u s2 ⟨x,H2,I2,rx,q2⟩=>aT (hi pins s2 σ H2 _ I2 q2) fun iv s3 ⟨y,H3,I3,ry,a,H4,ex,g,q3⟩=> ?_) hs
 subst ex
 obtain rfl:u=Value.ref a:=rx
 exact a7m hu I3 g ry rv fun s4 I4=>⟨σ,H4,I4,q3⟩
end
theorem a4K(h:Heap)(hb:sysModules<h.objs.size):cO P w H (h.push {cls:=.type "dict",data:=.dict #[]}) h.objs.size (.dK []):=
 ⟨Nat.zero_le _,beq_eq_false_iff_ne.mpr (Ne.symm (Nat.ne_of_lt hb)),[],.nil,Heap.DictOf.new h⟩
theorem a4D(h:Heap)(hb:sysModules<h.objs.size):cO P w H (h.push {cls:=.type "dict",data:=.dict #[]}) h.objs.size (.dT []):=
 ⟨Nat.zero_le _,beq_eq_false_iff_ne.mpr (Ne.symm (Nat.ne_of_lt hb)),[],.nil,_,#[],0,Heap.get?_push_size _ rfl,⟨rfl,rfl,rfl⟩,rfl,rfl,List.nodup_nil⟩
def a4W:TE:=fun _ H Q=>∀p,H p=none->Q (.ref p) (upd H p (.dK []))
def a8r:TE:=fun _ H Q=>∀p,H p=none->Q (.ref p) (upd H p (.dT []))
section
variable{pos:Pos}
theorem qN:PE X (.Dict [] [] pos) a4W:=fun pins s σ H Q I h=>
 wpAny_Dict_empty ⟨.ref s.heap.objs.size,_,I.laid (a:=s.heap.objs.size) (o:=.dK []) (t':=s.toks) (fun _ _ q=>Heap.get?_push_of_some _ q) (Nat.le_refl _) (a4K s.heap I.big),rfl,h _ (I.hok.fresh (Nat.le_refl _))⟩
theorem rM:PE X (.Dict [] [] pos) a8r:=fun pins s σ H Q I h=>
 wpAny_Dict_empty ⟨.ref s.heap.objs.size,_,I.laid (a:=s.heap.objs.size) (o:=.dT []) (t':=s.toks) (fun _ _ q=>Heap.get?_push_of_some _ q) (Nat.le_refl _) (a4D s.heap I.big),rfl,h _ (I.hok.fresh (Nat.le_refl _))⟩
end
def a13:List (TE×TE)->St->Hp->(List (V×V)->Hp->Prop)->Prop
 | [],_,H,Q=>Q [] H
 |(tk,tv)::r,σ,H,Q=>tk σ H fun x H1=>tv σ H1 fun y H2=>a13 r σ H2 fun ps H3=>Q ((x,y)::ps) H3
abbrev VV:List (V×V)->List (Value×Value)->Prop:=Paired fun p q=>aZ p.1 q.1/\aZ p.2 q.2
def PPs(X:Cx)(pos:Pos)(keys:List (Option Expr))(values:List Expr)(trs:List (TE×TE)):Prop:=
 ∀(pins:List (Addr×Obj)) (s:Shared) (σ:St) (H:Hp) (Q:List (V×V)->Hp->Prop),aD X pins σ H s->a13 trs σ H Q->
  wpAny (model X.prog X.w) X.A (evalPairs (pairTrees keys values X.env pos)) (fun vs s'=>∃ps H',aD X pins σ H' s'/\VV ps vs/\Q ps H') X.xe s
structure M1(X:Cx)(o:Expr)(m:Str)(apos:Pos)(e:Expr)(cpos:Pos):Prop where
 base:attributeBase o m X.env (eval o X.env)=eval o X.env
 few:((backTo cpos (starEach [e] X.env)).all (fun x=> !x.1)&&(backToKw cpos (keywordEach [] X.env)).all (fun x=>x.1.isSome)
  &&decide (([e]:List Expr).length+ ([]:List Keyword).length+ (if([]:List Keyword).isEmpty then 0 else 1)<30))=true
 line:(apos.endLine==cpos.line)=true
 trees:backTo cpos (starEach [e] X.env)= [(false,eval e X.env)]
structure M2(X:Cx)(o:Expr)(m:Str)(apos:Pos)(e f:Expr)(cpos:Pos):Prop where
 base:attributeBase o m X.env (eval o X.env)=eval o X.env
 few:((backTo cpos (starEach [e,f] X.env)).all (fun x=> !x.1)&&(backToKw cpos (keywordEach [] X.env)).all (fun x=>x.1.isSome)
  &&decide (([e,f]:List Expr).length+ ([]:List Keyword).length+ (if([]:List Keyword).isEmpty then 0 else 1)<30))=true
 line:(apos.endLine==cpos.line)=true
 trees:backTo cpos (starEach [e,f] X.env)= [(false,eval e X.env),(false,eval f X.env)]
def IsD(H:Hp)(a:Addr):Prop:=(∃kvs,Rd H a (.dK kvs))\/ ∃kvs,Rd H a (.dT kvs)
theorem a48(I:aD X pins σ H s)(d:IsD H a):
 s.TypeIs (.ref a) "dict" /\(∀b,Value.ref a= .ref b->∃ob,s.heap.get? b=some ob/\ob.dict=none)/\(a==sysModules)=false:=by
 rcases d with⟨kvs,e⟩|⟨kvs,e⟩
 ·obtain⟨_,hd,vs,_,dd⟩:=lT I.hok e
  refine⟨dd.typeIs,fun b q=> ?_,hd⟩
  cases q
  obtain⟨ob,_,_,h1,h2,_⟩:=dd
  exact⟨ob,h1,h2.2.1⟩
 ·obtain⟨_,hd,xs,_,dd⟩:=mZ I.hok e
  refine⟨dd.typeIs,fun b q=> ?_,hd⟩
  cases q
  obtain⟨ob,_,_,h1,h2,_⟩:=dd
  exact⟨ob,h1,h2.2.1⟩
section
variable{d:V}{r:Value}{o:Option V}
theorem a4e(hu:A.units+ 1<cLine)(I:aD X pins σ H s)(g:bW H a y o)(ry:aZ y u)(rd:aZ d r)(h:∀w' s',aD X pins σ H s'->aZ (o.getD d) w'->Q w' s'):
 wpAny (model X.prog X.w) A (call (.builtin "dict.get") [.ref a,u,r]) Q E s:=by
 rcases g with⟨kvs,k,e,ey,l⟩|⟨kvs,k,b,e,ey,eb,l⟩
 ·subst ey
  obtain⟨z,hd,vs,rel,dd⟩:=lT I.hok e
  refine call_meetsIn F.slot_dict_get dd.typeIs F.entry_dict_get (F.args_dict_get_3 _ _ _) (meets_dict_get_default (fE X.prog X.w) a (oS ry) hd r) ⟨_,dd.mapOf,h _ _ (I.tok _) ?_⟩
  rw[l]
  exact(rel.val k).getD rd
 ·subst ey
  cases (show u=Value.ref b from ry)
  obtain⟨z,hd,xs,rel,dd⟩:=mZ I.hok e
  refine call_meetsIn F.slot_dict_get dd.typeIs F.entry_dict_get (F.args_dict_get_3 _ _ _) (meetsH_dict_get_default (tupleKind (fE X.prog X.w)) a b hd r) ⟨tupleKind_room_in1 hu,k,xs,oE I.hok eb,dd,h _ _ (I.tok _) ?_⟩
  rw[l]
  exact(rel.val k).getD rd
end
def a3N(td ty tx:TE):TE:=fun σ H Q=>td σ H fun x H1=>∃a,x= .ref a/\IsD H1 a/\ty σ H1 fun y H2=>tx σ H2 fun z H3=>∃o,bW H3 a y o/\Q (o.getD z) H3
section
variable{o f:Expr}{cpos:Pos}{td ty tx:TE}
theorem a8K(hu:X.A.units+ 1<cLine)(ho:PE X o td)(he:PE X e ty)(hf:PE X f tx)(m:M2 X o "get" apos e f cpos):PE X (.Call (.Attribute o "get" apos) [e,f] [] cpos) (a3N td ty tx):=by
 intro pins s σ H Q I h
 refine wpAny_Call_method m.base m.few m.line F.plainAttrs_dict F.slot_dict_get F.type_dict_get (aT (ho pins s σ H _ I h) ?_)
 rintro u s1 ⟨x,H1,I1,rx,a,ex,d,q1⟩
 subst ex
 obtain rfl:u=Value.ref a:=rx
 obtain⟨t1,t2,_⟩:=a48 I1 d
 refine⟨t1,t2,?_⟩
 rw[m.trees]
 refine Calls.callWith_builtin rfl (Calls.evalArgs_plain (Calls.spliced_cons (aT (he pins s1 σ H1 _ I1 q1) fun iv s2 ⟨y,H2,I2,ry,q2⟩=>
  Calls.spliced_cons (aT (hf pins s2 σ H2 _ I2 q2) fun fv s3 ⟨z,H3,I3,rz,ov,g,q3⟩=>Calls.spliced_nil ?_))))
 exact a4e hu I3 g ry rz fun w' s4 I4 rw'=>⟨_,H3,I4,rw',q3⟩
end
end L2
namespace Att
open PySem PySem.W PySem.Calls PyProof.Rows
theorem a5r{P:Params}:∀(ns:List Int) (vs:List Value),WellAll P h vs (ns.map WData.int)->IntsAre vs ns:=by
 intro ns
 induction ns with
 |nil=>
  intro vs w
  rw[List.map_nil]at w
  cases w
  exact .nil
 |cons n ns ih=>
  intro vs w
  rw[List.map_cons]at w
  cases w with
  |cons a b=>
   cases a
   exact .cons _ _ (ih _ b)
theorem a7L{l:OpenLaw}{n:Nat}(hn:l.most=some n){P:Params}{args:List WData}{vals:List Value}
 (hpre:l.row.toRowW.claim.pre args=true)(hwl:WellAll P h vals args):
 ∃a vs ns,vals= [Value.ref a] /\args= [WData.list (ns.map WData.int)] /\h.get? a=some {cls:=.type "list",data:=.seq vs.toArray} /\IntsAre vs ns/\ns.length<=n:=by
 have hsh:WShape.hasAll [] args [.list .int]=true:=(pre_splitW hpre).1
 have hc:l.pre.holds [] {args:=args}=true:=(pre_splitW hpre).2
 obtain⟨d,r,rfl,h1,h2⟩:=hasAllW_cons hsh
 obtain rfl:=hasAllW_nil h2
 obtain⟨xs,rfl,h3⟩:=hasW_list h1
 obtain⟨ns,rfl⟩:=items_int h3
 have hlen:ns.length<=n:=by
  unfold OpenLaw.pre at hc
  have h4:(WTm.not (.lt (.lit (.int (n:Int))) (.len (.arg 0)))).holds [] {args:=[.list (ns.map .int)]}=true:=by
   have h4:=(holds_andW hc).1
   rw[hn]at h4
   exact h4
  have h5:=condW_of h4 (w_not (w_lt w_lit (w_len_list (w_arg rfl))))
  rw[List.length_map]at h5
  refine Nat.le_of_not_lt fun q=> ?_
  have q':(n:Int)<((ns.length:Nat):Int):=by omega
  first
   |(rw[decide_eq_true q']at h5;exact absurd h5 (by decide))
   |(simp at h5;omega)
 cases hwl with
 |cons w1 w2=>
  cases w2
  cases w1 with
  |list ho hall=>exact⟨_,_,ns,rfl,rfl,ho,a5r ns _ hall,hlen⟩
theorem a5L(l:OpenLaw)(args:List WData):l.row.toRowW.claim.post args (.bool true) args=true:=
 postW_of (r:=l.row.toRowW) (X:=(true==true))
  (show WShape.has [] (.bool true) .bool=true by first|rfl|decide|simp[WShape.has,WShape.arms,WShape.armsAll])
  (show(WTm.eq .res (.lit (.bool true))).value [] {args:=args,res:=some (.bool true),after:=args}=some (.bool (true==true)) from w_eq_bool (w_res rfl) w_lit) rfl
theorem attach_call{l:OpenLaw}{n:Nat}{q:Program}{loose:List Str}{XP:(Str->Option Value)->Heap->Prop}{YP:World->Heap->Prop}{d:DefRec}
 (hn:l.most=some n)(hdf:d.params.defaults= [])
 (call:∀(w:World) (s₀ s₁:Shared) (mg mb:Str->Option Value) (fa:Addr) (o:Obj) (pm cd doc:Value) (a:Addr) (vs:List Value) (ns:List Int),
  Ground q loose [] XP w s₀ mg mb s₁.heap->YP w s₁.heap->
  s₁.heap.get? fa=some o->o.data= .func (docDef d.name d.params d.body d.scope pm cd doc)->s₁.heap.CodeRec cd d.name->mg d.name=some (.ref fa)->
  s₁.heap.get? a=some {cls:=.type "list",data:=.seq vs.toArray} ->IntsAre vs ns->ns.length<=n->s₁.gens= #[] ->
  codeAny (model l.prog w) callerA (.call (.ref fa) ⟨[.ref a],[]⟩) (fun r s'=>r= .ok (.ret (.bool true))/\OldK s₁.heap s'.heap/\s'.os=s₁.os/\AllBare s'.gens) s₁):
 WalkO q loose XP YP l.row.toRowW d [] (fun f vs=>PySem.call f vs):=by
 intro w s₀ s₁ mg mb G Y fa o pm cd doc dV kV ho hd hcd hD hmg hg args vals as hpre hlay hrd hwl hlo
 obtain rfl:dV= .none:=Dflts.none hD hdf
 obtain rfl:kV= .none:=Dflts.noKw hD
 obtain⟨a,vs,ns,rfl,rfl,hobj,hints,hlen⟩:=a7L hn hpre hwl
 refine enter_call (codeAny_mono (call w s₀ s₁ mg mb fa o pm cd doc a vs ns G Y ho (fd_plain hd) hcd hmg hobj hints hlen hg) fun r s' hq=> ?_)
 obtain⟨rfl,h2,h3,h4⟩:=hq
 exact⟨.inl ⟨.bool true,.bool true,[],rfl,fun _=>rfl,.bool true,a5L l _,fun _=>⟨List.Pairwise.nil,fun _ hm=>(nomatch hm)⟩⟩,h2,h3,h4⟩
section
variable{K:Frag}
noncomputable def ledger(h:Heap)(L d:Addr):List (Addr×Obj):=(List.range h.objs.size).filterMap fun a=>if a=L\/ a=d then none else(h.get? a).map fun o=>(a,o)
end
end Att
namespace L2
open PySem PySem.Spec PyProof.Rows
theorem a1V:∀{vs:List Value} {ns:List Int},IntsAre vs ns->aX (ns.map V.int) vs
 |_,_,.nil=> .nil
 |_,_,.cons n t h=> .cons ⟨t,rfl⟩ (a1V h)
def iI(s:Stmt):Arguments:=match s with
 | .FunctionDef _ a _ _ _ _ _ _ _ _=>a
 |_=>{posonlyargs:=[],args:=[],vararg:=none,kwonlyargs:=[],kw_defaults:=[],kwarg:=none,defaults:=[]}
def eC(s:Stmt):List Stmt:=match s with
 | .FunctionDef _ _ b _ _ _ _ _ _ _=>b
 |_=> []
def aO(s:Stmt):Scope:=match s with
 | .FunctionDef _ _ _ _ _ _ sc _ _ _=>sc
 |_=>{kind:=.function,names:=[],isGenerator:=false,isCoroutine:=false}
abbrev aF:eN:=fun _ _ _ _ _ _=>False
abbrev E0:XK:=fun _ _ _=>False
theorem aS:gL aF X E0:=fun _ _ _ _ _ _ _ h=>h.elim
structure kT(K:Fg)(x qual:Str)(st:Stmt)(f:Addr)(fd:FuncData):Prop where
 ex:∃(oc:Value) (od:Option Addr) (kV doc pm:Value) (an:Option Addr) (cdv ct:Value) (osl:Array (Option Value)),
  fd=W.fnOf x qual (iI st) (eC st) (aO st) .none kV doc pm an cdv ct/\K.lookup f=some ⟨oc,od,.func fd,osl⟩ /\W.codeIn K cdv qual=true
 kp:W.keepIn K (.ref f)=true
section
theorem kT.ok{st:Stmt}{fd:FuncData}{k:Nat}(F:kT K x qual st f fd)(S:bA N ps (aO st))(len:∀vs H Q E,sp vs H Q E->vs.length=ps.length)
 (hbody:∀(cdv:Value) (A:Around) (outer:List Env) (s:Shared) (H:Hp) (vs:List V) (Q:VK) (E:XK),bT k (A.deeper (envOfC qual (aO st) s.heap.objs.size f cdv))->sp vs H Q E->
  ∃t,dU (dM aF P w K mg base N qual (aO st) f cdv A outer s H E).nox (eC st) t/\t {nx:=fun _ H'=>Q .non H',rt:=Q} (start N vs) H):eY P w K mg base aF (k+ 1) f fd ps sp:=by
 obtain⟨oc,od,kV,doc,pm,an,cdv,ct,osl,rfl,lk,hcd⟩:=F.ex
 refine a0p lk hcd S len fun A outer s H vs Q E hr hsp=> ?_
 obtain⟨t,h,q⟩:=hbody cdv A outer s H vs Q E hr hsp
 exact⟨t,h.nox,q⟩
theorem kT.binds{st:Stmt}{fd:FuncData}(F:kT K x qual st f fd)
 (h:∀(kV doc pm:Value) (an:Option Addr) (cdv ct:Value) (us:List Value),us.length=ps.length->bindArgs (W.fnOf x qual (iI st) (eC st) (aO st) .none kV doc pm an cdv ct) ⟨us,[]⟩=pure (ps.zip us)):hZ K fd ps []:=by
 obtain⟨oc,od,kV,doc,pm,an,cdv,ct,osl,rfl,lk,hcd⟩:=F.ex
 exact .all (h kV doc pm an cdv ct)
theorem uK{st:Stmt}{osl:Array (Option Value)}{kV:Value}(l:K.lookup f=some ⟨oc,od,.func (W.fnOf x qual (iI st) (eC st) (aO st) .none kV doc pm an cdv ct),osl⟩)
 (c:W.codeIn K cdv qual=true)(k:W.keepIn K (.ref f)=true):kT K x qual st f (W.fnOf x qual (iI st) (eC st) (aO st) .none kV doc pm an cdv ct):=⟨⟨oc,od,kV,doc,pm,an,cdv,ct,osl,rfl,l,c⟩,k⟩
end
theorem dO{k:Nat}(hr:bT k A):A.units+ 1<cLine:=Nat.lt_of_le_of_lt (Nat.add_le_add_left (by decide:1<=64) _) hr.units
theorem cY{n:Nat}(h:n<=1000):n<sizeLine:=Nat.lt_of_le_of_lt h (by decide)
section
theorem pv(i:Nat){pos:Pos}(hN:X.N[i]?=some x:=by rfl)(hv:vA X.env.scope x:=by first|exact Or.inl rfl|exact Or.inr (Or.inl rfl)|exact Or.inr (Or.inr rfl))(hd:(x==("__debug__":Str))=false:=by decide)
 (hcd:(x==("__classdict__":Str))=false:=by decide):PE X (.Name x pos) (nK i):=a1n hN hv hd hcd
theorem a1R:iK X (.builtin "len") (fun xs H Q=>∃a kvs,xs= [V.ref a] /\H a=some (.dK kvs)/\Q (.int kvs.length) H):=by
 intro pins s σ H xs us Q I r h
 obtain⟨a,kvs,rfl,ha,q⟩:=h
 obtain⟨u,rfl,ru⟩:=pN r
 cases ru
 exact a8a I (.inl ha) fun t s' I'=>⟨.int kvs.length,H,I',⟨t,rfl⟩,q⟩
end
theorem bI{A B:Prop}(h:B):if false=true then A else B:=by
 rw[if_neg Bool.false_ne_true]
 exact h
theorem cQ{A B:Prop}(h:A):if true=true then A else B:=by
 rw[if_pos rfl]
 exact h
theorem cW{c A B:Prop} [Decidable c](h1:c->A)(h2:¬c->B):if c then A else B:=by
 by_cases h:c
 ·rw[if_pos h]
  exact h1 h
 ·rw[if_neg h]
  exact h2 h
def aH(H H':Hp):Prop:=∀b o,H b=some o->H' b=some o
theorem aH.refl(H:Hp):aH H H:=fun _ _ h=>h
theorem aH.trans(a:aH H H1)(b:aH H1 H2):aH H H2:=fun c o h=>b c o (a c o h)
theorem aH.seq(e:aH H H')(h:aN K H a xs):aN K H' a xs:=by
 rcases h with(h|⟨o,h⟩)|h
 ·exact .inl (.inl (e _ _ h))
 ·exact .inl (.inr ⟨o,e _ _ h⟩)
 ·exact .inr h
section
variable{κ:Type} [DecidableEq κ]
theorem a7u{kvs:List (κ×V)}{k:κ}(h:aE kvs k=none):¬k∈kvs.map (·.1):=by
 intro m
 obtain⟨p,hp,e⟩:=List.mem_map.mp m
 have q:(kvs.any fun kv=>decide (kv.1=k))=true:=List.any_eq_true.mpr ⟨p,hp,decide_eq_true e⟩
 rw[lO,h]at q
 exact absurd q (by simp)
theorem a2p:∀{l:List κ} {k:κ},l.Nodup->¬k∈l->(l++ [k]).Nodup
 | [],k,_,_=>by simp
 |a::r,k,h,hk=>by
  obtain⟨h1,h2⟩:=List.nodup_cons.mp h
  show(a::(r++ [k])).Nodup
  refine List.nodup_cons.mpr ⟨fun m=> ?_,a2p h2 fun m=>hk (List.mem_cons.mpr (Or.inr m))⟩
  rcases List.mem_append.mp m with q|q
  ·exact h1 q
  ·exact hk (List.mem_cons.mpr (Or.inl (List.mem_singleton.mp q).symm))
theorem a0D{kvs:List (κ×V)}{k:κ}(v:V)(hn:(kvs.map (·.1)).Nodup)(h:aE kvs k=none):((aQ kvs k v).map (·.1)).Nodup:=by
 rw[uV v h,List.map_append]
 exact a2p hn (a7u h)
end
section
variable{a b c:Expr}{tc:TE}{pos:Pos}
theorem pZ{i:Int}(h:∃t,X.mg x=some (.int i t))(hg:Gl X x:=by rfl)(hd:(x==("__debug__":Str))=false:=by decide):PE X (.Name x pos) (tC (.int i)):=by
 obtain⟨t,h⟩:=h
 exact wE hg h ⟨t,rfl⟩ hd
theorem a5S{z:Str}(h:∃t,X.mg x=some (.str z t))(hg:Gl X x:=by rfl)(hd:(x==("__debug__":Str))=false:=by decide):PE X (.Name x pos) (tC (.str z)):=by
 obtain⟨t,h⟩:=h
 exact wE hg h ⟨t,rfl⟩ hd
theorem zL(h:X.mg x=some (.ref f))(hg:Gl X x:=by rfl)(hd:(x==("__debug__":Str))=false:=by decide):PE X (.Name x pos) (tC (.ref f)):=wE hg h rfl hd
theorem jW{T:String}(hm:X.mg x=none)(hv:bootBuiltins x=some (.type T))(hg:Gl X x:=by rfl)(hn:x≠ "__name__":=by decide)(hd:(x==("__debug__":Str))=false:=by decide):PE X (.Name x pos) (tC (.ty T)):=a7k hg hm hv rfl hn hd
end
mutual
inductive Dt(K:Fg)(H:Hp):V->PyData->Prop where
 |non:Dt K H .non .none
 |bl (b:Bool):Dt K H (.bl b) (.bool b)
 |int (i:Int):Dt K H (.int i) (.int i)
 |str (x:Str):Dt K H (.str x) (.str x)
 |lst {a:Addr} {xs:List V} {ds:List PyData}:aN K H a xs->dI K H xs ds->Dt K H (.ref a) (.list ds)
 |tup {a:Addr} {xs:List V} {ds:List PyData}:bU K H a xs->dI K H xs ds->Dt K H (.ref a) (.tuple ds)
 |dK {a:Addr} {kvs:List (aB×V)}:H a=some (.dK kvs)->Dt K H (.ref a) (.dict [])
 |dT {a:Addr} {kvs:List (List aB×V)}:H a=some (.dT kvs)->Dt K H (.ref a) (.dict [])
inductive dI(K:Fg)(H:Hp):List V->List PyData->Prop where
 |nil:dI K H [] []
 |cons {v:V} {d:PyData} {vs:List V} {ds:List PyData}:Dt K H v d->dI K H vs ds->dI K H (v::vs) (d::ds)
end
section
mutual
theorem Dt.reads(I:aD X pins σ H s):∀{v:V} {d:PyData} {u:Value},Dt X.K H v d->aZ v u->d.canLay0=true->∃as,Reads s.heap u d as
 |_,_,_,.non,r,_=>by cases r;exact⟨_,.none⟩
 |_,_,_,.bl b,r,_=>by cases r;exact⟨_,.bool b⟩
 |_,_,_,.int i,r,_=>by obtain⟨t,rfl⟩:=r;exact⟨_,.int i t⟩
 |_,_,_,.str x,r,_=>by obtain⟨t,rfl⟩:=r;exact⟨_,.str x t⟩
 |_,_,_,.lst h hd,r,l=>by
  cases r
  obtain⟨its,rv,⟨o,n,e,hc,_,hs⟩,_⟩:=I.list h
  obtain⟨as,ra⟩:=dI.reads I hd rv (by rw[PyData.canLay0]at l;exact l)
  exact⟨_,.list e hc hs (by simpa using ra)⟩
 |_,_,_,.tup h hd,r,l=>by
  cases r
  obtain⟨its,rv,⟨o,e,hc,n,hs⟩,_⟩:=I.tuple h
  obtain⟨as,ra⟩:=dI.reads I hd rv (by rw[PyData.canLay0]at l;exact l)
  exact⟨_,.tuple e hc hs (by simpa using ra)⟩
 |_,_,_,.dK _,_,l=>by rw[PyData.canLay0]at l;cases l
 |_,_,_,.dT _,_,l=>by rw[PyData.canLay0]at l;cases l
theorem dI.reads(I:aD X pins σ H s):∀{vs:List V} {ds:List PyData} {us:List Value},dI X.K H vs ds->aX vs us->PyData.canLayAll0 ds=true->∃as,ReadsAll s.heap us ds as
 |_,_,_,.nil,r,_=>by cases r;exact⟨_,.nil⟩
 |_,_,_,.cons h hd,r,l=>by
  rw[PyData.canLayAll0,Bool.and_eq_true]at l
  cases r with
  |cons r1 rr=>
   obtain⟨as,ra⟩:=Dt.reads I h r1 l.1
   obtain⟨bs,rb⟩:=dI.reads I hd rr l.2
   exact⟨_,.cons ra rb⟩
end
theorem aH.seqT(e:aH H H')(h:bU K H a xs):bU K H' a xs:=by
 rcases h with(h|⟨o,h⟩)|h
 ·exact .inl (.inl (e _ _ h))
 ·exact .inl (.inr ⟨o,e _ _ h⟩)
 ·exact .inr h
mutual
theorem Dt.same{K:Fg}(e:aH H H'):∀{v:V} {d:PyData},Dt K H v d->Dt K H' v d
 |_,_,.non=> .non
 |_,_,.bl b=> .bl b
 |_,_,.int i=> .int i
 |_,_,.str x=> .str x
 |_,_,.lst h hd=> .lst (e.seq h) (dI.same e hd)
 |_,_,.tup h hd=> .tup (aH.seqT e h) (dI.same e hd)
 |_,_,.dK h=> .dK (e _ _ h)
 |_,_,.dT h=> .dT (e _ _ h)
theorem dI.same{K:Fg}(e:aH H H'):∀{vs:List V} {ds:List PyData},dI K H vs ds->dI K H' vs ds
 |_,_,.nil=> .nil
 |_,_,.cons h hd=> .cons (Dt.same e h) (dI.same e hd)
end
theorem dI.get{K:Fg}:∀{vs:List V} {ds:List PyData} {i:Nat} {v:V},dI K H vs ds->vs[i]?=some v->∃d,ds[i]?=some d/\Dt K H v d
 |_,_,_,_,.nil,e=>by simp at e
 |_,_,0,_,.cons h _,e=>by simp at e;subst e;exact⟨_,rfl,h⟩
 |_,_,i+ 1,v,.cons _ t,e=>by
  obtain⟨d,h1,h2⟩:=dI.get (i:=i) (v:=v) t (by simpa using e)
  exact⟨d,by simpa using h1,h2⟩
theorem dI.length{K:Fg}:∀{vs:List V} {ds:List PyData},dI K H vs ds->vs.length=ds.length
 |_,_,.nil=>rfl
 |_,_,.cons _ t=>by rw[List.length_cons,List.length_cons,dI.length t]
theorem a3X(hu:X.A.units+ 64<cLine):dN X (compareOp .Eq) (fun x y H Q=>∃dx dy,Dt X.K H x dx/\Dt X.K H y dy/\dx.canLay0=true/\dy.canLay0=true/\dx.depth<=64/\Q (.bl (PyData.eqv dx dy)) H):=by
 intro pins s σ H x y v u Q I rx ry h
 obtain⟨dx,dy,hx,hy,lx,ly,hd,q⟩:=h
 obtain⟨as,ra⟩:=Dt.reads I hx rx lx
 obtain⟨bs,rb⟩:=Dt.reads I hy ry ly
 exact SeqAt.compareEq_reads ra rb lx ly (by have:=Nat.min_le_left dx.depth dy.depth;omega) ⟨.bl _,H,I,rfl,q⟩
theorem nG(hu:X.A.units+ 64<cLine):dN X (compareOp .NotEq) (fun x y H Q=>∃dx dy,Dt X.K H x dx/\Dt X.K H y dy/\dx.canLay0=true/\dy.canLay0=true/\dx.depth<=64/\Q (.bl (!PyData.eqv dx dy)) H):=by
 intro pins s σ H x y v u Q I rx ry h
 obtain⟨dx,dy,hx,hy,lx,ly,hd,q⟩:=h
 obtain⟨as,ra⟩:=Dt.reads I hx rx lx
 obtain⟨bs,rb⟩:=Dt.reads I hy ry ly
 exact SeqAt.compareNe_reads ra rb lx ly (by have:=Nat.min_le_left dx.depth dy.depth;omega) ⟨.bl _,H,I,rfl,q⟩
end
noncomputable def sQ (x:Str):It:=⟨fun i _=>i<x.cps.size,fun i H v H'=>H'=H/\∃c,x.cps[i]?=some c/\v= .str ⟨#[c]⟩,fun i _=>x.cps.size<=i⟩
theorem a5X(it:Addr)(x:Str)(t:Tok):∀ty:String,(ty= "str_ascii_iterator"\/ ty= "str_iterator")->qH P w K tg (sQ x) [it] it (fun i h=>h.IsStrIter it ty x t i):=by
 intro ty hty
 refine⟨by simp,?_,?_,?_,?_,?_⟩
 ·intro i h st b hb
  have e:b=it:=by simpa using hb
  subst e
  obtain⟨o,e,c,d⟩:=st
  exact⟨o,e,fun v z=>by rw[d]at z;cases z⟩
 ·intro i h h' st k
  obtain⟨o,e,c,d⟩:=st
  exact⟨o,k it (by simp) o e,c,d⟩
 ·intro X hP hw hK hc i pins s σ H E I hf st hg
  subst hP hw hK
  obtain⟨f0,f1,f2,f3,f4,f5⟩:=hf it (by simp)
  have hi:i<x.cps.size:=hg
  have hx:x.cps[i]?=some x.cps[i]:=by simp[hi]
  have fin:∀h',h'.IsStrIter it ty x t (i+ 1)->Heap.SameBut it s.heap h'->∃u,some (Value.str ⟨#[x.cps[i]]⟩ s.toks)=some u/\
   wpAny (model X.prog X.w) X.A (letOwnedTupleGo tg (.ref it) u) (fun _ s2=>∃y H',aD X pins σ H' s2/\aZ y u/\(sQ x).yld i H y H'/\s2.heap.IsStrIter it ty x t (i+ 1)/\∀b∈ [it],H' b=none) E {s with heap:=h',toks:=s.toks+ 1}:=by
   intro h' st' sb
   have I1:aD X pins σ H {s with heap:=h',toks:=s.toks+ 1}:=I.turned (fun b o hb e=>(sb.2 b hb).trans e) f0 f1 f3 f4 f5
   obtain⟨o,e,c,d⟩:=id st'
   refine⟨_,rfl,sZ (s:={s with heap:=h',toks:=s.toks+ 1}) e c d ?_ ⟨.str ⟨#[x.cps[i]]⟩,H,I1,⟨_,rfl⟩,⟨rfl,_,hx,rfl⟩,st',fun b hb=>(hf b hb).1⟩⟩
   rcases hty with rfl|rfl<;>decide
  rcases hty with rfl|rfl
  ·exact wpAny_pyNext_ascii_item st hx fin
  ·exact wpAny_pyNext_wide_item st hx fin
 ·intro X hP hw hK hc i pins s σ H E I hf st hg
  subst hP hw hK
  obtain⟨f0,f1,f2,f3,f4,f5⟩:=hf it (by simp)
  have hi:x.cps.size<=i:=hg
  have hx:x.cps[i]?=none:=by simp[hi]
  have fin:∀h',Heap.ExtBut it s.heap h'->(none:Option Value)=none/\aD X pins σ H {s with heap:=h'}:=fun h' eb=>⟨rfl,I.turned (t':=s.toks) (fun b o hb e=>eb b o hb e) f0 f1 f3 f4 f5⟩
  rcases hty with rfl|rfl
  ·exact wpAny_pyNext_ascii_end (I.ok.hd hc) st hx fin
  ·exact wpAny_pyNext_wide_end (I.ok.hd hc) st hx fin
 ·intro A i s Q E st h
  rcases hty with rfl|rfl
  ·exact wpAny_pyIter_striter_ascii st h
  ·exact wpAny_pyIter_striter_wide st h
section
def iStr(tl:TE):TI:=fun σ H R=>tl σ H fun v H1=>∃x,v= .str x/\R (sQ x) H1
theorem a41{l:Expr}(hl:PE X l tl):PI X tg l (iStr tl):=by
 intro pins s σ H R I h
 refine aT (hl pins s σ H _ I h) ?_
 rintro v s1 ⟨y,H1,I1,r1,q1⟩
 obtain⟨x,e,q⟩:=q1
 subst e
 obtain⟨t,rfl⟩:=r1
 have fin:∀ty:String,(ty= "str_ascii_iterator"\/ ty= "str_iterator")->yQ X pins σ tg R (.ref s1.heap.objs.size) {s1 with heap:=s1.heap.push {cls:=.type ty,data:=.fields #[.str x t,.int 0 0]}}:=fun ty hty=>by
  refine⟨s1.heap.objs.size,[s1.heap.objs.size],_,_,H1,rfl,I1.kept (t':=s1.toks) fun b o e=>Heap.get?_push_of_some _ e,a5X _ x t ty hty,⟨_,Heap.get?_push_size _ rfl,rfl,rfl⟩,fun b hb=> ?_,q⟩
  have e:b=s1.heap.objs.size:=by simpa using hb
  subst e
  exact I1.fpOk (Nat.le_refl _) (I1.hok.fresh (Nat.le_refl _))
 cases ha:x.cps.all (·<128)
 ·exact wpAny_pyIter_wide ha (fin _ (.inr rfl))
 ·exact wpAny_pyIter_ascii ha (fin _ (.inl rfl))
end
section
variable{R:Result->Shared->Prop}
theorem a58{elt target:Expr}{ifs:List Expr}{pos:Pos}{it acc:Value}{env:Env}(I:Nat->Shared->Prop)
 (turn:∀n s,I n s->wpAny (model prog w) A (pyNext it) (fun r s₁=>match r with
  |none=>R (.ok .next) s₁
  |some v=>wpAny (model prog w) A (letOwnedTupleGo target it v) (fun _ s₁'=>wpAny (model prog w) A (assign target env v) (fun _ s₂=>
   wpAny (model prog w) A (forIn ifs true fun c r=>if r=true then do let ok<- isTrue c env (eval c env);pure (ForInStep.yield ok) else pure (ForInStep.yield r)) (fun ok s₃=>
    if ok=true then wpAny (model prog w) A (eval elt env) (fun x s₄=>
     wpAny (model prog w) A (call (.builtin "list.append") [acc,x]) (fun _ s₅=>∃m,m<n/\I m s₅) (fun _ _=>False) s₄) (fun _ _=>False) s₃
    else∃m,m<n/\I m s₃) (fun _ _=>False) s₂) (fun _ _=>False) s₁') (fun _ _=>False) s₁) (fun _ _=>False) s)
 (n:Nat)(h:I n s):
 codeAny (model prog w) A (.compLoop (.ListComp elt [⟨target,iter,ifs,0⟩] scope pos) 0 it acc env) R s:=by
 refine codeAny_loop rfl I (fun n s hI=> ?_) n h
 show wpAny _ A ((compTurn (.ListComp elt [⟨target,iter,ifs,0⟩] scope pos) 0 it acc env).onRaise (fun x=>do noteFrame x env;theTreesLotGoes x)) _ _ s
 refine wpAny_noted ?_
 rw[compTurn_list]
 refine wpAny_bind (wpAny_standAt (wpAny_bind (wpAny_mono (turn n s hI) (fun r s₁ h₁=> ?_) fun _ _ h'=>h'.elim)))
 cases r with
 |none=>exact wpAny_pure h₁
 |some v=>
  refine wpAny_bind (wpAny_mono h₁ (fun _ s₁' h₁'=> ?_) fun _ _ h'=>h'.elim)
  refine wpAny_bind (wpAny_mono h₁' (fun _ s₂ h₂=>wpAny_bind (wpAny_mono h₂ (fun ok s₃ h₃=> ?_) fun _ _ h'=>h'.elim)) fun _ _ h'=>h'.elim)
  cases ok with
  |false=>exact wpAny_pure ⟨rfl,h₃⟩
  |true=>
   exact wpAny_bind (wpAny_bind (wpAny_mono h₃ (fun x s₄ h₄=>wpAny_bind (wpAny_mono h₄ (fun _ s₅ h₅=>wpAny_pure (wpAny_pure ⟨rfl,h₅⟩)) fun _ _ h'=>h'.elim)) fun _ _ h'=>h'.elim))
end
noncomputable def lC (X:Cx) (scope:Scope) (cl:List (Str×Addr)) (C:Addr) (N':List Str) (fp:List Addr) (pins:List (Addr×Obj)) (s:Shared) (H:Hp):Cx where
 prog:=X.prog
 w:=X.w
 K:=X.K
 mg:=X.mg
 base:=X.base
 A:=X.A
 N:=N'
 s₀:=s
 H₀:=H
 env:=compEnvC scope cl C X.env
 outer:=X.stack
 stack:=X.stack
 ex:=fp
 calm:=X.calm
 fn:=fun _=>false
 pn:=X.pn++ pins
 xe:=fun _ _=>False
structure oK(X:Cx)(scope:Scope)(cl:List (Str×Addr))(cp:List (Nat×Str)):Prop where
 kind:scope.kind= .function
 nocell:∀y∈scope.names,y.2≠ .cell
 names:∀y∈scope.names,y.2= .local->scope.names.lookup y.1=some .local
 clos:closureFor scope X.env=pure cl
 sub:∀x c,cl.lookup x=some c->X.env.cells.lookup x=some c
 has:∀x,((relabel scope X.env).names.lookup x=some .cell\/ (relabel scope X.env).names.lookup x=some .free)->∃c,cl.lookup x=some c
 at':∀p∈cp,X.N[p.1]?=some p.2/\(X.env.scope.names.lookup p.2=some .cell\/ X.env.scope.names.lookup p.2=some .free)/\((relabel scope X.env).names.lookup p.2=some .cell\/ (relabel scope X.env).names.lookup p.2=some .free)
noncomputable def gF (cp:List (Nat×Str)) (σ:St):St:=cp.map fun p=>(σ[p.1]?).getD none
section
variable{cl:List (Str×Addr)}
theorem a8P(I:aD X pins σ H s)(c:oK X scope cl cp)(hf:∀b∈fp,jH X pins H b)(hfo:∀b∈fp,b<s.heap.objs.size){ty:String}{tk:Nat}{m:Str->Option Value}(hm:h'.Ns s.heap.objs.size m)
 (sb:Heap.SameBut s.heap.objs.size (s.heap.push {cls:=.type ty,data:=.dict #[]}) h'):
 aD (lC X scope cl s.heap.objs.size (x::cp.map (·.2)) fp pins s H) [] (none::gF cp σ) H {s with heap:=h',toks:=tk}:=by
 have old:∀b o,s.heap.get? b=some o->h'.get? b=some o:=fun b o e=>(sb.2 b (Nat.ne_of_lt (Heap.lt_size e))).trans (Heap.get?_push_of_some _ e)
 have hC:H s.heap.objs.size=none:=I.hok.fresh (Nat.le_refl _)
 refine⟨⟨I.ok.mod,c.kind,I.ok.glob,I.ok.blt,Nat.le_refl _,fun y z k h1 h2=>I.ok.inj y z k (c.sub _ _ h1) (c.sub _ _ h2),c.has,fun y k z=>(Bool.noConfusion z),I.ok.hd,I.ok.frames,.inl rfl,fun b hb=> ?_,fun b o e=>I.bs b o e,Nat.le_trans I.ok.bsz I.sz,fun b o e hb=> ?_,fun b hb hz=> ?_,I.stack,I.stkFree⟩,
  rfl,I.bare,Un.kept old,⟨m,hm,fun i y v h1 h2 h3=> ?_⟩,fun y k e=> ?_,hC,fun y k e=>I.freeC y k (c.sub y k e),fun p hp=> ?_,I.hok.kept old,?_⟩
 ·obtain⟨f0,f1,f2,f3,f4,f5⟩:=hf b hb
  exact⟨Nat.ne_of_lt (hfo b hb),fun y k e=>f4 y k (c.sub y k e)⟩
 ·obtain⟨f0,f1,f2,f3,f4,f5⟩:=hf b hb
  rcases f3 with z|z
  ·exact I.ok.noex b o e z
  ·exact absurd (Nat.lt_of_lt_of_le (Heap.lt_size (I.ok.bs b o e).1) z) (Nat.lt_irrefl _)
 ·obtain⟨f0,f1,f2,f3,f4,f5⟩:=hf b hb
  rcases List.mem_cons.mp (I.stkSub b hz)with e|e
  ·exact f1 e
  ·exact f2 e
 ·cases i with
  |zero=>simp at h2
  |succ i=>
   have h1':(cp.map (·.2))[i]?=some y:=by
    have z:(x::cp.map (·.2))[i+ 1]?=some y:=h1
    rw[List.getElem?_cons_succ]at z
    exact z
   have h2':(gF cp σ)[i]?=some (some v):=by simpa using h2
   unfold gF at h2'
   rw[List.getElem?_map]at h1' h2'
   cases e:cp[i]? with
   |none=>rw[e]at h1';cases h1'
   |some p=>
    rw[e]at h1' h2'
    simp only[Option.map_some,Option.some.injEq]at h1' h2'
    obtain⟨k1,k2,k3⟩:=c.at' p (List.mem_of_getElem? e)
    subst h1'
    have h2'':σ[p.1]?=some (some v):=by
     cases q:σ[p.1]? with
     |none=>rw[q]at h2';cases h2'
     |some z=>rw[q]at h2';simpa using h2'
    obtain⟨m0,hn0,hl0⟩:=I.loc
    obtain⟨u,r,l⟩:=hl0 p.1 p.2 v k1 h2'' (k2.elim (fun z=> .inr (.inl z)) fun z=> .inr (.inr z))
    refine⟨u,r,.inr ⟨k3,?_⟩⟩
    rcases l with⟨z,_⟩|⟨_,cc,e1,e2⟩
    ·have z':X.env.scope.names.lookup p.2=some .local:=z
     rcases k2 with k|k<;>(rw[z']at k;cases k)
    ·obtain⟨cc',e3⟩:=c.has p.2 k3
     have e4:=c.sub _ _ e3
     rw[e1]at e4
     cases e4
     obtain⟨o,ho,hd⟩:=e2
     exact⟨cc,e3,o,old _ _ ho,hd⟩
 ·obtain⟨v,o,ho,hd⟩:=I.cell y k (c.sub y k e)
  exact⟨v,o,old _ _ ho,hd⟩
 ·have hp':p∈X.pn++ pins:=by
   rcases List.mem_append.mp hp with z|z
   ·exact z
   ·cases z
  obtain⟨e,n,ne,nf,d⟩:=I.pin p hp'
  refine⟨old _ _ e,n,Nat.ne_of_lt (Heap.lt_size e),fun hz=> ?_,d⟩
  rcases List.mem_cons.mp (I.stkSub p.1 hz)with q|q
  ·exact ne q
  ·exact nf q
 ·show(none::gF cp σ).length=(x::cp.map (·.2)).length
  simp[gF]
theorem aD.uncomp{N':List Str}{σ':St}{h'':Heap}(I:aD X pins σ H s)(hC:C=s.heap.objs.size)(hf:∀b∈fp,jH X pins H b)(J:aD (lC X scope cl C N' fp pins s H) [] σ' H' s')(sb:Heap.SameBut C s'.heap h''):
 aD X pins σ H' {s' with heap:=h''}:=by
 have ne:∀b o,s.heap.get? b=some o->b≠C:=fun b o e=>by rw[hC];exact Nat.ne_of_lt (Heap.lt_size e)
 have B:Un (fN X.stack) fp H H' s.heap s'.heap:=J.base
 refine I.call' (s':={s' with heap:=h''}) (ch:=fp) (show s'.os=s.os from J.os) ⟨fun b o e n hb hx=> ?_,fun b o e n hb hx=> ?_,B.free,fun b o e hx=> ?_,B.tups,B.frzs,B.tbls⟩ (fun b ob e=> ?_) J.bare fun b hb=> ?_
 ·exact(sb.2 b (ne b o e)).trans (B.keep b o e n hb hx)
 ·obtain⟨sl,q⟩:=B.slot b o e n hb hx
  exact⟨sl,(sb.2 b (ne b o e)).trans q⟩
 ·obtain⟨o',q⟩:=B.there b o e hx
  exact⟨o',(sb.2 b (ne b o e)).trans q⟩
 ·have hfree:H' C=none:=J.free
  refine(J.hok b ob e).stay (fun k w' hk q=>(sb.2 k ?_).trans q) (fun _ q=>q) fun _ _ q=>q
  rintro rfl
  rcases hk with rfl|hk
  ·rw[hfree]at e;cases e
  ·rw[hfree]at hk;cases hk
 ·obtain⟨f0,f1,f2,f3,f4,f5⟩:=hf b hb
  exact⟨f3,f1,f4,f5⟩
end
def sY(X:Cx)(ifs:List Expr)(t:TT):Prop:=
 ∀(pins:List (Addr×Obj)) (s:Shared) (σ:St) (H:Hp) (Q:Bool->Hp->Prop),aD X pins σ H s->t σ H Q->
  wpAny (model X.prog X.w) X.A (forIn ifs true fun c r=>if r=true then do let ok<- isTrue c X.env (eval c X.env);pure (ForInStep.yield ok) else pure (ForInStep.yield r)) (TP X pins σ Q) X.xe s
def pS:TT:=fun _ H Q=>Q true H
theorem mD:sY X [] pS:=fun _ _ _ H _ I h=>wpAny_tests_nil ⟨H,I,h⟩
def pB(cp:List (Nat×Str))(tt:TT)(te:TE)(σ:St)(J:It)(D:Addr)(Q:VK)(H1:Hp):Prop:=
 ∃W:Nat->Nat->Hp->Prop,(∃m,W 0 m (upd H1 D (.lst [])))/\∀i m H2,W i m H2->(J.stop i H2/\Q (.ref D) H2)\/
  (J.go i H2/\∃(N:VK) (N':Hp->Prop),(∀y H5,N y H5->∃ys m',H5 D=some (.lst ys)/\ys.length<sizeLine/\m'<m/\W (i+ 1) m' (upd H5 D (.lst (ys++ [y]))))/\(∀H4,N' H4->∃m',m'<m/\W (i+ 1) m' H4)/\
   ∀v H3,J.yld i H2 v H3->tt (some v::gF cp σ) H3 fun b H4=>if b=true then te (some v::gF cp σ) H4 N else N' H4)
def yW(cp:List (Nat×Str))(wi:TI)(tt:TT)(te:TE):TE:=fun σ H Q=>wi σ H fun J H1=>∀D,H1 D=none->pB cp tt te σ J D Q H1
section
variable{cl:List (Str×Addr)}{px pos:Pos}{elt:Expr}{ifs:List Expr}{wi:TI}{tt:TT}
theorem a3p{s2:Shared}{it:Addr}{tn:Nat->Heap->Prop}{J:It}{Q:VK}{R:Addr->Result->Shared->Prop}{E:Value->Shared->Prop}(c:oK X scope cl cp)(hcalm:X.calm=true)(hx:scope.names.lookup x=some .local)(hnd:(x::cp.map (·.2)).Nodup)
 (ht:∀C fp pins s H,sY (lC X scope cl C (x::cp.map (·.2)) fp pins s H) ifs tt)(he:∀C fp pins s H,PE (lC X scope cl C (x::cp.map (·.2)) fp pins s H) elt te)
 (I2:aD X pins σ H2 s2)(T:qH X.prog X.w X.K (.Name x px) J fp it tn)(st2:tn 0 s2.heap)(f2:∀b∈fp,jH X pins H2 b)(q:pB cp tt te σ J s2.heap.objs.size Q H2)
 (hR:∀(C:Addr) (H':Hp) (s':Shared),(∃m,s'.heap.Ns C m)->X.s₀.heap.objs.size<=C->H' C=none->C≠X.env.locals->(∀x c,X.env.cells.lookup x=some c->c≠C)->(∀p∈X.pn++ pins,p.1≠C)->(∀h'',Heap.SameBut C s'.heap h''->aD X pins σ H' {s' with heap:=h''})->Q (.ref s2.heap.objs.size) H'->R C (.ok .next) s'):
 wpAny (model X.prog X.w) X.A (newList []) (fun acc s₃=>wpAny (model X.prog X.w) X.A (newFunctionEnv scope X.env.globals cl [] X.env.qual none .none (some X.env)) (fun cenv s₄=>
  acc= .ref s2.heap.objs.size/\codeAny (model X.prog X.w) X.A (.compStart (.ListComp elt [⟨.Name x px,iter,ifs,0⟩] scope pos) 0 (.ref it) acc {cenv with scope:=relabel scope X.env}) (R cenv.locals) s₄) E s₃) E s2:=by
 obtain⟨W,⟨m0,w0⟩,turn⟩:=q
 refine wpAny_newObj_type ?_
 have I3:aD X pins σ (upd H2 s2.heap.objs.size (.lst [])) {s2 with heap:=s2.heap.push {cls:=.type "list",dict:=none,data:=.seq ([]:List Value).toArray}}:=
  I2.lnew (t':=s2.toks) (ys:=[]) (its:=[]) .nil (Nat.zero_le _)
 have fpo:∀b∈fp,b<s2.heap.objs.size:=fun b hb=>by
  obtain⟨o,e,_⟩:=T.obj _ _ st2 b hb
  exact Heap.lt_size e
 have f3:∀b∈fp,jH X pins (upd H2 s2.heap.objs.size (.lst [])) b:=fun b hb=>⟨by rw[aG (Nat.ne_of_lt (fpo b hb))];exact(f2 b hb).1,(f2 b hb).2⟩
 generalize hs3:({s2 with heap:=s2.heap.push {cls:=.type "list",dict:=none,data:=.seq ([]:List Value).toArray}}:Shared)=s3 at I3
 have e3:s3.heap=s2.heap.push {cls:=.type "list",dict:=none,data:=.seq ([]:List Value).toArray}:=by rw[<- hs3]
 have sz3:s2.heap.objs.size<s3.heap.objs.size:=by rw[e3,Heap.size_push];exact Nat.lt_succ_self _
 refine wpAny_newFunctionEnv c.nocell (by intro y hy;cases hy) (fun h₁ hns sb=> ?_) c.kind
 have J3:=a8P (x:=x) (tk:=s3.toks+ ([]:List (Str×Value)).length) I3 c f3 (fun b hb=>Nat.lt_trans (fpo b hb) sz3) hns sb
 refine⟨rfl,?_⟩
 have st3:tn 0 h₁:=T.keep _ _ _ st2 fun b hb o e=>(sb.2 b (Nat.ne_of_lt (Nat.lt_trans (fpo b hb) sz3))).trans (Heap.get?_push_of_some _ (by rw[e3];exact Heap.get?_push_of_some _ e))
 generalize hX:lC X scope cl s3.heap.objs.size (x::cp.map (·.2)) fp pins s3 (upd H2 s2.heap.objs.size (.lst []))=X' at J3
 have eA:X'.A=X.A:=by rw[<- hX];rfl
 have eP:X'.prog=X.prog:=by rw[<- hX];rfl
 have ew:X'.w=X.w:=by rw[<- hX];rfl
 have eK:X'.K=X.K:=by rw[<- hX];rfl
 have ec:X'.calm=true:=by rw[<- hX];exact hcalm
 have ee:X'.env=compEnvC scope cl s3.heap.objs.size X.env:=by rw[<- hX];rfl
 have ex:X'.xe=fun _ _=>False:=by rw[<- hX];rfl
 have fpX:∀{H':Hp},(∀b∈fp,H' b=none)->∀b∈fp,jH X' [] H' b:=fun hn b hb=>by
  obtain⟨f0,f1,f2',f3',f4,f5⟩:=f3 b hb
  subst hX
  refine⟨hn b hb,Nat.ne_of_lt (Nat.lt_trans (fpo b hb) sz3),fun hz=> ?_,.inl hb,fun y k e=>f4 y k (c.sub y k e),fun p hp=> ?_⟩
  ·rcases List.mem_cons.mp (I3.stkSub b hz)with e|e
   ·exact f1 e
   ·exact f2' e
  ·rcases List.mem_append.mp hp with z|z
   ·exact f5 p z
   ·cases z
 have pT:=ht s3.heap.objs.size fp pins s3 (upd H2 s2.heap.objs.size (.lst []))
 have pE:=he s3.heap.objs.size fp pins s3 (upd H2 s2.heap.objs.size (.lst []))
 have pG:PG X' (.Name x px) (tQ 0):=by
  subst hX
  exact fT hnd rfl (.inl (lookup_relabel_local hx)) (.inr (lookup_relabel_local hx))
 rw[hX]at pT pE
 have loop:codeAny (model X.prog X.w) X.A (.compLoop (.ListComp elt [⟨.Name x px,iter,ifs,0⟩] scope pos) 0 (.ref it) (.ref s2.heap.objs.size) (compEnvC scope cl s3.heap.objs.size X.env)) (R s3.heap.objs.size) {s3 with heap:=h₁,toks:=s3.toks+ ([]:List (Str×Value)).length}:=by
  refine a58 (fun n s'=>∃i o H',aD X' [] (o::gF cp σ) H' s'/\tn i s'.heap/\(∀b∈fp,H' b=none)/\W i n H') ?_ m0 ⟨0,none,_,J3,st3,fun b hb=>(f3 b hb).1,w0⟩
  rintro n s5 ⟨i,o,H5,J5,st5,fr5,w5⟩
  rcases turn i n H5 w5 with⟨stop,qn⟩|⟨go,N,N',hN,hN',step⟩
  ·have z:=T.done X' eP ew eK ec i [] s5 _ H5 (fun _ _=>False) J5 (fpX fr5) st5 stop
   rw[eA]at z
   refine aT z ?_
   rintro r s6 ⟨hr,J6⟩
   subst hr
   subst hX
   obtain⟨m6,hn6,_⟩:=J6.loc
   refine hR s3.heap.objs.size H5 s6 ⟨m6,hn6⟩ I3.sz J6.free (Nat.ne_of_gt I3.lt) (fun y k e z=> ?_) (fun p hp z=> ?_) (fun h'' sb'=>I3.uncomp rfl f3 J6 sb') qn
   ·obtain⟨v,w'⟩:=I3.cell y k e
    exact absurd w'.lt (by rw[z];exact Nat.lt_irrefl _)
   ·exact absurd (Heap.lt_size (I3.pin p hp).1) (by rw[z];exact Nat.lt_irrefl _)
  ·have z:=T.item X' eP ew eK ec i [] s5 _ H5 (fun _ _=>False) J5 (fpX fr5) st5 go
   rw[eA]at z
   refine aT z ?_
   rintro r s6 ⟨u,hr,h6⟩
   subst hr
   refine aT h6 ?_
   rintro _ s7 ⟨v,H7,J7,r7,y7,st7,fr7⟩
   have J7':=J7.pinned (fpX fr7) (T.obj _ _ st7)
   have z8:=pG _ s7 _ H7 v u (fun σ' H'=>σ'=some v::gF cp σ/\H'=H7) J7' r7 ⟨rfl,rfl⟩
   rw[eA,eP,ew,ee,ex]at z8
   refine aT z8 ?_
   rintro _ s8 ⟨σ8,H8,J8,e8,e8'⟩
   subst e8 e8'
   have z9:=pT _ s8 _ H8 _ J8 (step v H8 y7)
   rw[eA,eP,ew,ee,ex]at z9
   refine aT z9 ?_
   rintro ok s9 ⟨H9,J9,q9⟩
   have fin:∀{H':Hp} {s':Shared},aD X' ([] ++ qZ fp s7.heap) (some v::gF cp σ) H' s'->(∃m',m'<n/\W (i+ 1) m' H')->∃m,m<n/\∃i o H',aD X' [] (o::gF cp σ) H' s'/\tn i s'.heap/\(∀b∈fp,H' b=none)/\W i m H':=fun{H' s'} K' ⟨m',hm,w'⟩=>by
    refine⟨m',hm,i+ 1,some v,H',K'.unpinned,T.keep _ _ _ st7 fun b hb ob e=>(K'.pin (b,ob) (List.mem_append_right _ (List.mem_append_right _ (tK hb e)))).1,fun b hb=> ?_,w'⟩
    obtain⟨ob,e,d⟩:=T.obj _ _ st7 b hb
    exact(K'.pin (b,ob) (List.mem_append_right _ (List.mem_append_right _ (tK hb e)))).2.1
   cases ok with
   |false=>
    rw[if_neg Bool.false_ne_true]at q9|-
    exact fin J9 (hN' _ q9)
   |true=>
    rw[if_pos rfl]at q9|-
    have z10:=pE _ s9 _ H9 _ J9 q9
    rw[eA,eP,ew,ee,ex]at z10
    refine aT z10 ?_
    rintro u10 s10 ⟨y,H10,J10,r10,n10⟩
    obtain⟨ys,m',hD,hz,hm,w'⟩:=hN y H10 n10
    have z11:=jC (X:=X') _ s10 _ H10 (.ref s2.heap.objs.size) [y] (.ref s2.heap.objs.size) [u10] (fun _ H'=>H'=upd H10 s2.heap.objs.size (.lst (ys++ [y]))) J10 rfl (.cons r10 .nil) ⟨_,ys,y,rfl,rfl,hD,hz,rfl⟩
    rw[eA,eP,ew,ex]at z11
    refine aT z11 ?_
    rintro u11 s11 ⟨y',H11,J11,r11,e11⟩
    subst e11
    exact fin J11 ⟨m',hm,w'⟩
 exact codeAny_compStart_list loop (T.self _ 0 _ _ _ st3 loop)
theorem oP(c:oK X scope cl cp)(hcalm:X.calm=true)(hx:scope.names.lookup x=some .local)(hnd:(x::cp.map (·.2)).Nodup)(hi:PI X (.Name x px) iter wi)
 (ht:∀C fp pins s H,sY (lC X scope cl C (x::cp.map (·.2)) fp pins s H) ifs tt)(he:∀C fp pins s H,PE (lC X scope cl C (x::cp.map (·.2)) fp pins s H) elt te)
 (hs:∀v,foldedSetIterable iter X.env v=pure v:=by intro _;rfl):PE X (.ListComp elt [⟨.Name x px,iter,ifs,0⟩] scope pos) (yW cp wi tt te):=by
 intro pins s σ H Q I h
 rw[eval_ListComp]
 refine wpAny_comprehension_free (use:=none) (g:=⟨.Name x px,iter,ifs,0⟩) (gs:=[]) (cl:=cl) rfl hs c.clos c.kind c.names ?_
 refine aT (hi pins s σ H _ I h) fun v s1 h1=>aT h1 fun itv s2 h2=> ?_
 obtain⟨it,fp,tn,J,H2,e,I2,T,st2,f2,q⟩:=h2
 subst e
 refine aT (a3p (iter:=iter) (pos:=pos) (R:=fun C=>compPost (model X.prog X.w) X.A X.xe none (EP X pins σ Q) (.ref s2.heap.objs.size) C) c hcalm hx hnd ht he I2 T st2 f2 (q _ (I2.hok.fresh (Nat.le_refl _))) ?_) fun acc s3 h3=>aT h3 fun cenv s4 h4=> ?_
 ·rintro C H' s' ⟨m,hn⟩ _ _ _ _ _ hI hq
  exact⟨m,hn,fun h'' sb=>⟨.ref s2.heap.objs.size,H',hI h'' sb,rfl,hq⟩⟩
 ·obtain⟨e,h4⟩:=h4
  subst e
  exact h4
theorem a1y{y:Str}{py:Pos}(hN:X.N.Nodup)(hi':X.N[i]?=some y)(hy:X.env.scope.names.lookup y=some .local)(c:oK X scope cl cp)(hcalm:X.calm=true)(hx:scope.names.lookup x=some .local)(hnd:(x::cp.map (·.2)).Nodup)(hi:PI X (.Name x px) iter wi)
 (ht:∀C fp pins s H,sY (lC X scope cl C (x::cp.map (·.2)) fp pins s H) ifs tt)(he:∀C fp pins s H,PE (lC X scope cl C (x::cp.map (·.2)) fp pins s H) elt te)
 (hsw:swapsWith (.ListComp elt [⟨.Name x px,iter,ifs,0⟩] scope pos) (some (.Name y py)) pos'.line X.env=pure true)
 (hs:∀v,foldedSetIterable iter X.env v=pure v:=by intro _;rfl):PS X (.Assign [.Name y py] (.ListComp elt [⟨.Name x px,iter,ifs,0⟩] scope pos) pos') (yU (yW cp wi tt te) (tQ i)):=by
 intro pins s σ H D I h
 rw[exec_Assign_Name_used _ _ _ _ hsw]
 refine wpAny_bind (wpAny_standAt (wpAny_bind (wpAny_bind ?_)))
 refine wpAny_comprehension_free (use:=some (assign (.Name y py) X.env)) (g:=⟨.Name x px,iter,ifs,0⟩) (gs:=[]) (cl:=cl) rfl hs c.clos c.kind c.names ?_
 refine aT (hi pins s σ H _ I h) fun v s1 h1=>aT h1 fun itv s2 h2=> ?_
 obtain⟨it,fp,tn,J,H2,e,I2,T,st2,f2,q⟩:=h2
 subst e
 refine aT (a3p (iter:=iter) (pos:=pos) (R:=fun C=>compPost (model X.prog X.w) X.A X.xe (some (assign (.Name y py) X.env)) (fun _ s'=>wpAny (model X.prog X.w) X.A (pure ()) (fun _ s'=>wpAny (model X.prog X.w) X.A (pure Flow.next) (SP X pins D) X.xe s') X.xe s') (.ref s2.heap.objs.size) C) c hcalm hx hnd ht he I2 T st2 f2 (q _ (I2.hok.fresh (Nat.le_refl _))) ?_) fun acc s3 h3=>aT h3 fun cenv s4 h4=> ?_
 ·rintro C H' s' ⟨m,hn⟩ hC0 hCn hCL hCc hCp hI hq
  have I':aD X pins σ H' s':=hI s'.heap (Heap.SameBut.refl ..)
  refine wpAny_assign_Name (a3n (v:=.ref s2.heap.objs.size) I' hN hi' (.inl hy) rfl (fun s'' I'' hb=> ?_) (.inr hy))
  obtain⟨a,sb,ha⟩:=hb
  have hne:C≠a:=by
   rcases ha with z|z
   ·rw[z];exact hCL
   ·exact fun e=>hCc y a z e.symm
  refine⟨m,hn.sameBut sb hne,fun h'' sb''=>wpAny_pure (wpAny_pure ⟨_,H',?_,hq⟩)⟩
  exact I''.turned (t':=s''.toks) (fun b o hb e=>(sb''.2 b hb).trans e) hCn hCL (.inr hC0) hCc hCp
 ·obtain⟨e,h4⟩:=h4
  subst e
  exact h4
end
theorem a3t:∀{bs:List Bool} {us:List Value},aX (bs.map V.bl) us->∀(i:Nat) (v:Value),us[i]?=some v->∃b:Bool,bs[i]?=some b/\v=Value.bool b
 | [],_,.nil,i,v,h=>by simp at h
 |b::bs,u::us,.cons r t,0,v,h=>by
  simp at h
  subst h
  cases r
  exact⟨b,rfl,rfl⟩
 |b::bs,u::us,.cons r t,i+ 1,v,h=>by
  obtain⟨b',e1,e2⟩:=a3t t i v (by simpa using h)
  exact⟨b',by simpa using e1,e2⟩
section
theorem a05(hc:X.calm=true):iK X (.builtin "all") (fun xs H Q=>∃(a:Addr) (bs:List Bool),xs= [.ref a] /\aN X.K H a (bs.map V.bl)/\Q (.bl (bs.all id)) H):=by
 intro pins s σ H xs us Q I r h
 obtain⟨a,bs,rfl,hq,q⟩:=h
 obtain⟨u,rfl,ru⟩:=r.one
 cases ru
 obtain⟨its,rv,pl,hz⟩:=I.list hq
 have hl:s.heap.IsList a its.toArray:=pl.isList
 have hlt:a<s.heap.objs.size:=by obtain⟨_,e,_⟩:=hl;exact Heap.lt_size e
 refine call_all_walk (wpAny_pyIter_list hl ?_)
 refine⟨s.heap.objs.size,[s.heap.objs.size,a],[s.heap.objs.size],its.toArray.size,_,_,fun i=>(bs[i]?).getD true,rfl,Walks.list (A:=X.A.in1) (I.ok.hd hc) _ a (Nat.ne_of_lt hlt) its.toArray,
  ⟨⟨_,Heap.get?_push_size _ rfl,rfl,rfl⟩,hl.push _⟩,fun i v s' Q' E' hP hQ=> ?_,fun h' tk hk=> ?_⟩
 ·obtain⟨b,e,rfl⟩:=a3t rv i v (by simpa using hP)
  simp only[e,Option.getD_some]at hQ
  exact wpAny_truthy_bool hQ
 ·have e:((List.range its.toArray.size).all fun i=>(bs[i]?).getD true)=bs.all id:=by
   have:=rv.length
   rw[List.length_map]at this
   rw[List.size_toArray,<- this]
   exact PyProof.Rows.LSm.range_all bs
  rw[e]
  refine⟨.bl _,H,I.kept (t':=tk) fun b o e'=>hk b o (fun hm=> ?_) (Heap.get?_push_of_some _ e'),rfl,q⟩
  rw[List.mem_singleton.mp hm]at e'
  exact Nat.lt_irrefl _ (Heap.lt_size e')
end
structure bH(P:Program)(w:World)(K:Fg)(mg:Str->Option Value)(base:Heap)(CX:eN)(k:Nat)(x:Str)(ps:List Str)(sp:Sp):Prop where
 ex:∃f fd,eY P w K mg base CX k f fd ps sp/\mg x=some (.ref f)/\W.keepIn K (.ref f)=true/\hZ K fd ps []
section
variable{k:Nat}{E:XK}{p pos:Pos}{t:TA}
theorem bV(G:bH X.prog X.w X.K X.mg X.base CX k x ps sp)(hr:bT k X.A)(hx:gL CX X E)(ha:PA X (e::es) t)(hg:Gl X x:=by rfl)(hdb:(x==("__debug__":Str))=false:=by decide)
 (he:starEach (e::es) X.env=(false,eval e X.env)::starEach es X.env:=by rfl)(hpl:(backTo pos (starEach es X.env)).any (·.1)=false:=by rfl):PE X (.Call (.Name x p) (e::es) [] pos) (rC sp [] E t):=by
 obtain⟨f,fd,F,hm,hk,hb⟩:=G.ex
 exact a53 F hr hg hm hk hb .nil hx ha hdb he hpl
end
def qT(D:Addr)(Pv:Nat->List V->Hp->Prop)(i:Nat)(ys:List V):VK:=fun y H5=>H5 D=some (.lst ys)/\ys.length<sizeLine/\Pv (i+ 1) (ys++ [y]) (upd H5 D (.lst (ys++ [y])))
theorem xY{J:It}{n:Nat}{Q:VK}(Pv:Nat->List V->Hp->Prop)(h0:Pv 0 [] (upd H1 D (.lst [])))
 (hg:∀i ys H,H D=some (.lst ys)->Pv i ys H->(i<n->J.go i H)/\(i=n->J.stop i H))
 (hs:∀i ys H v H',i<n->H D=some (.lst ys)->Pv i ys H->J.yld i H v H'->te (some v::gF cp σ) H' (qT D Pv i ys))
 (hd:∀ys H,H D=some (.lst ys)->Pv n ys H->Q (.ref D) H):pB cp pS te σ J D Q H1:=by
 refine⟨fun i m H=>m=n- i/\i<=n/\∃ys,H D=some (.lst ys)/\Pv i ys H,⟨n,by simp,Nat.zero_le _,[],aJ,h0⟩,?_⟩
 rintro i m H ⟨rfl,hi,ys,hD,p⟩
 by_cases hlt:i<n
 ·refine .inr ⟨(hg i ys H hD p).1 hlt,qT D Pv i ys,fun _=>False,fun y H5 ⟨h1,h2,h3⟩=>⟨ys,n- (i+ 1),h1,h2,by omega,rfl,hlt,_,aJ,h3⟩,fun _ z=>z.elim,fun v H' y=> ?_⟩
  exact hs i ys H v H' hlt hD p y
 ·have e:i=n:=by omega
  subst e
  exact .inl ⟨(hg i ys H hD p).2 rfl,hd ys H hD p⟩
theorem vW{lo:Int}{n:Nat}{Q:VK}(Pv:Nat->List V->Hp->Prop)(h0:Pv 0 [] (upd H1 D (.lst [])))
 (hs:∀i ys H,i<n->H D=some (.lst ys)->Pv i ys H->te (some (.int (lo+ i))::gF cp σ) H (qT D Pv i ys))
 (hd:∀ys H,H D=some (.lst ys)->Pv n ys H->Q (.ref D) H):pB cp pS te σ (nD lo n) D Q H1:=
 xY (n:=n) Pv h0 (fun i ys H _ _=>⟨fun h=>h,fun h=>by subst h;exact Nat.le_refl _⟩) (fun i ys H v H' hi hD p y=>by
  obtain⟨e,rfl⟩:=y
  subst e
  exact hs i ys _ hi hD p) hd
theorem a6R{Q:VK}(Pv:Nat->List V->Hp->Prop)(h0:Pv 0 [] (upd H1 D (.lst [])))
 (hs:∀i c ys H,x.cps[i]?=some c->H D=some (.lst ys)->Pv i ys H->te (some (.str ⟨#[c]⟩)::gF cp σ) H (qT D Pv i ys))
 (hd:∀ys H,H D=some (.lst ys)->Pv x.cps.size ys H->Q (.ref D) H):pB cp pS te σ (sQ x) D Q H1:=
 xY (n:=x.cps.size) Pv h0 (fun i ys H _ _=>⟨fun h=>h,fun h=>by subst h;exact Nat.le_refl _⟩) (fun i ys H v H' hi hD p y=>by
  obtain⟨e,c,hc,rfl⟩:=y
  subst e
  exact hs i c ys _ hc hD p) hd
theorem sV{Q:VK}(Pv:Nat->List V->Hp->Prop)(h0:Pv 0 [] (upd H1 D (.lst [])))
 (hl:∀i ys H,H D=some (.lst ys)->Pv i ys H->aN K H a xs)
 (hs:∀i x ys H,xs[i]?=some x->H D=some (.lst ys)->Pv i ys H->te (some x::gF cp σ) H (qT D Pv i ys))
 (hd:∀ys H,H D=some (.lst ys)->Pv xs.length ys H->Q (.ref D) H):pB cp pS te σ (qF K a) D Q H1:=
 xY (n:=xs.length) Pv h0 (fun i ys H hD p=>⟨fun h=>⟨xs,xs[i],hl i ys H hD p,by simp[h]⟩,fun h=>by subst h;exact⟨xs,hl _ ys H hD p,Nat.le_refl _⟩⟩) (fun i ys H v H' hi hD p y=>by
  obtain⟨e,y⟩:=y
  subst e
  exact hs i v ys _ (y xs (hl i ys _ hD p)) hD p) hd
inductive Kd where
 |non|bl|int|str|lst|tup|dct
 deriving DecidableEq
def Kd.nm:Kd->String
 | .non=> "NoneType"| .bl=> "bool"| .int=> "int"| .str=> "str"| .lst=> "list"| .tup=> "tuple"| .dct=> "dict"
theorem a6Z(K:Fg)(a:Kd):W.kitOne K (.type a.nm) (.type "int")=some (decide (a= .int\/ a= .bl)):=by cases a<;>kernel_rfl
theorem a6P(K:Fg)(a:Kd):W.kitOne K (.type a.nm) (.type "bool")=some (decide (a= .bl)):=by cases a<;>kernel_rfl
theorem a2D(K:Fg)(a:Kd):W.kitOne K (.type a.nm) (.type "str")=some (decide (a= .str)):=by cases a<;>kernel_rfl
theorem a0k(K:Fg)(a:Kd):W.kitOne K (.type a.nm) (.type "list")=some (decide (a= .lst)):=by cases a<;>kernel_rfl
theorem a3k(K:Fg)(a:Kd):W.kitOne K (.type a.nm) (.type "tuple")=some (decide (a= .tup)):=by cases a<;>kernel_rfl
noncomputable def gI:PyData->Kd
 | .none=> .non| .bool _=> .bl| .int _=> .int| .str _=> .str| .list _=> .lst| .tuple _=> .tup| .dict _=> .dct
theorem mI:iK X (.builtin "isinstance") (fun xs H Q=>∃x T d k,xs= [x,.ty T] /\Dt X.K H x d/\W.kitOne X.K (.type (gI d).nm) (.type T)=some k/\Q (.bl k) H):=by
 intro pins s σ H xs us Q I r h
 obtain⟨x,T,d,k,rfl,hd,e,q⟩:=h
 obtain⟨u,c,rfl,r1,r2⟩:=r.two
 cases r2
 have fin:∀tk,EP X pins σ Q (.bool k) {s with toks:=tk}:=fun tk=>⟨.bl k,H,I.tok tk,rfl,q⟩
 cases hd with
 |non=>cases r1;exact W.kia_one W.kitx_none I.kIn True.intro e (fun z=>nomatch z) fin
 |bl b=>cases r1;exact W.kia_one W.kitx_bool I.kIn True.intro e (fun z=>nomatch z) fin
 |int i=>obtain⟨t,rfl⟩:=r1;exact W.kia_one W.kitx_int I.kIn True.intro e (fun z=>nomatch z) fin
 |str z=>obtain⟨t,rfl⟩:=r1;exact W.kia_one W.kitx_str I.kIn True.intro e (fun z=>nomatch z) fin
 |lst hq _=>
  cases r1
  obtain⟨its,_,⟨o,n,eo,hc,_,_⟩,_⟩:=I.list hq
  exact W.kia_one W.kitx_list I.kIn ⟨o,eo,hc⟩ e (fun z=>nomatch z) fin
 |tup hq _=>
  cases r1
  obtain⟨its,_,⟨o,eo,hc,_⟩,_⟩:=I.tuple hq
  exact W.kia_one W.kitx_tuple I.kIn ⟨o,eo,hc⟩ e (fun z=>nomatch z) fin
 |dK ea=>
  cases r1
  obtain⟨_,_,vs,_,o,es,ep,h1,h2,_⟩:=I.hok _ _ ea
  exact W.kia_one W.kitx_dict I.kIn ⟨o,h1,h2.1⟩ e (fun z=>nomatch z) fin
 |dT ea=>
  cases r1
  obtain⟨_,_,zs,_,o,es,ep,h1,h2,_⟩:=I.hok _ _ ea
  exact W.kia_one W.kitx_dict I.kIn ⟨o,h1,h2.1⟩ e (fun z=>nomatch z) fin
theorem xL(kind:scope.kind= .function:=by rfl)(plain:∀y∈scope.names,y.2= .local\/ y.2= .globalImplicit:=by decide)(names:∀y∈scope.names,y.2= .local->scope.names.lookup y.1=some .local:=by decide+kernel):oK X scope [] [] where
 kind:=kind
 nocell:=fun y hy z=>by rcases plain y hy with h|h<;>rw[h]at z<;>cases z
 names:=names
 clos:=closureFor_none fun y hy z=>by rcases plain y hy with h|h<;>rw[h]at z<;>cases z
 sub:=fun x c e=>by cases e
 has:=fun x h=>by
  have hm:∀(k:NameKind),(relabel scope X.env).names.lookup x=some k->k= .local\/ k= .globalImplicit:=fun k e=>by
   have m:=PySem.mem_of_lookup e
   unfold relabel at m
   obtain⟨⟨n,k'⟩,hy,e'⟩:=List.mem_map.mp m
   have q:=plain _ hy
   have nf:(k'==NameKind.free)=false:=by rcases q with h|h<;>(have h':k'=_:=h;subst h';rfl)
   simp only[nf,Bool.false_and,Bool.false_eq_true,if_false]at e'
   have:k'=k:=congrArg (·.2) e'
   rw[<- this]
   exact q
  rcases h with h|h
  ·rcases hm _ h with z|z<;>cases z
  ·rcases hm _ h with z|z<;>cases z
 at':=fun p hp=>by cases hp
structure eE(K:Fg)(mg:Str->Option Value)(x:Str)(st:Stmt):Prop where
 ex:∃f fd,kT K x x st f fd/\mg x=some (.ref f)
section
theorem eO{st:Stmt}{osl:Array (Option Value)}{kV:Value}(X:K.In h)(G:h.Ns mainGlobals mg)(a:W.nsIn K mainGlobals x=some (some (.ref f)))
 (l:K.lookup f=some ⟨oc,od,.func (W.fnOf x x (iI st) (eC st) (aO st) .none kV doc pm an cdv ct),osl⟩)(c:W.codeIn K cdv x=true)(k:W.keepIn K (.ref f)=true):eE K mg x st:=
 ⟨f,_,uK l c k,W.mg_of X G a⟩
theorem eE.known{st:Stmt}{k:Nat}(D:eE K mg x st)(S:bA N ps (aO st))
 (hb:∀(kV doc pm:Value) (an:Option Addr) (cdv ct:Value) (us:List Value),us.length=ps.length->bindArgs (W.fnOf x x (iI st) (eC st) (aO st) .none kV doc pm an cdv ct) ⟨us,[]⟩=pure (ps.zip us))
 (len:∀vs H Q E,sp vs H Q E->vs.length=ps.length)
 (hbody:∀(f:Addr) (cdv:Value) (A:Around) (outer:List Env) (s:Shared) (H:Hp) (vs:List V) (Q:VK) (E:XK),bT k (A.deeper (envOfC x (aO st) s.heap.objs.size f cdv))->sp vs H Q E->
  ∃t,dU (dM aF P w K mg base N x (aO st) f cdv A outer s H E).nox (eC st) t/\t {nx:=fun _ H'=>Q .non H',rt:=Q} (start N vs) H):bH P w K mg base aF (k+ 1) x ps sp:=by
 obtain⟨f,fd,F,hm⟩:=D.ex
 exact⟨f,fd,F.ok S len fun cdv A outer s H vs Q E hr h=>hbody f cdv A outer s H vs Q E hr h,hm,F.kp,F.binds hb⟩
end
theorem aH.new(h:H D=none):aH H (upd H D o):=fun b u e=>by rw[aG (bE e h)];exact e
theorem aH.on(e:aH H H2)(h:H D=none):aH H (upd H2 D o):=fun b u z=>by rw[aG (bE z h)];exact e b u z
abbrev one(c:Nat):Str:=⟨#[c]⟩
theorem a6d{α:Type}(xs:List α)(i:Int)(h0:0<=i)(h:i<xs.length):∃v,cI xs i=some v/\xs[i.toNat]?=some v:=by
 have e:i=(i.toNat:Int):=by omega
 have hl:i.toNat<xs.length:=by omega
 generalize i.toNat=j at e hl
 subst e
 exact⟨_,rL (List.getElem?_eq_getElem hl),List.getElem?_eq_getElem hl⟩
theorem uF{n:Nat}{i:Int}(h0:0<=i)(h:i<n):gP n i=some i.toNat:=by
 unfold gP
 rw[if_pos h0,if_pos h]
theorem a5T(ns:List Int)(i:Int)(h0:0<=i)(h:i<ns.length):cI (ns.map V.int) i=some (V.int (ns.getD i.toNat 0)):=by
 have e:i=(i.toNat:Int):=by omega
 have hl:i.toNat<ns.length:=by omega
 generalize i.toNat=j at e hl
 subst e
 refine rL ?_
 rw[List.getElem?_map,List.getElem?_eq_getElem hl]
 simp[List.getD,hl]
theorem uI{K:Fg}{H:Hp}:∀zs:List Str,dI K H (zs.map V.str) (zs.map PyData.str)
 | []=> .nil
 |z::r=> .cons (.str z) (uI r)
theorem a6K{cs:List Nat}(h:∀c∈cs,c<128):PyData.canLay0 (.str ⟨cs.toArray⟩)=true:=by
 have:∀c∈cs,c<1114112:=fun c hc=>by have:=h c hc;omega
 simp[PyData.canLay0,PyData.strOk]
 exact this
theorem sl{n:Nat}(h:n<=1000:=by simp):n<=sizeLine:=Nat.le_of_lt (cY h)
theorem a2R:bootBuiltins "all"=some (.builtin "all"):=by kernel_rfl
theorem kG:bootBuiltins "isinstance"=some (.builtin "isinstance"):=by kernel_rfl
theorem a5g:bootBuiltins "abs"=some (.builtin "abs"):=by kernel_rfl
theorem iE:bootBuiltins "len"=some (.builtin "len"):=by kernel_rfl
theorem a8F:bootBuiltins "int"=some (.type "int"):=by kernel_rfl
theorem a4S:bootBuiltins "bool"=some (.type "bool"):=by kernel_rfl
theorem a3z:bootBuiltins "str"=some (.type "str"):=by kernel_rfl
theorem jR:bootBuiltins "list"=some (.type "list"):=by kernel_rfl
theorem a0z:bootBuiltins "tuple"=some (.type "tuple"):=by kernel_rfl
structure Flew(fs own:List Addr)(h h':Heap):Prop where
 keep:∀b o,b∉own->b∉fs->h.get? b=some o->h'.get? b=some o
 slot:∀b o,b∉own->h.get? b=some o->∃sl,h'.get? b=some {o with slots:=sl}
structure ExcK(K:Fg)(C:Addr):Prop where
 hga:W.findIn K (.ref C) "__getattribute__"=some (some (.builtin "BaseException.__getattribute__"))
 hk:W.findIn K (.ref C) "__getattr__"=some none
 hc:∃cd,W.clsIn K C=some cd
 ha:W.findIn K (.ref C) "__class__"=some (some (.builtin "object.__class__"))
 hn:W.specialIn K (.builtin "object.__class__") "__get__"=some (some (.builtin "getset_descriptor.__get__"))
 ht:W.takesIn K (.builtin "object.__class__")=some true
 hm:W.mroIn K C (.type "object")=some true
 hb:W.mroIn K C (.type "BaseException")=some true
theorem a0a:∀{xs:List V} {us:List Value},us.length=xs.length->(∀(j:Nat) (x:V) (u:Value),xs[j]?=some x->us[j]?=some u->aZ x u)->aX xs us
 | [],[],_,_=> .nil
 |x::xs,u::us,hl,h=> .cons (h 0 x u rfl rfl) (a0a (by simpa using hl) fun j y v e1 e2=>h (j+ 1) y v (by simpa using e1) (by simpa using e2))
 | [],_::_,hl,_=>by simp at hl
 |_::_,[],hl,_=>by simp at hl
def eJ(lo:Int)(n:Nat):List V:=(List.range n).map fun(i:Nat)=>V.int (lo+ (i:Int))
theorem pR(lo:Int)(n:Nat):(eJ lo n).length=n:=by unfold eJ;rw[List.length_map,List.length_range]
section
theorem a45:iK X (.type "range") (fun xs H Q=>∃j:Int,xs= [.int j] /\∀p,H p=none->Q (.ref p) (upd H p (.rng 0 j))):=by
 intro pins s σ H xs us Q I r h
 obtain⟨j,rfl,q⟩:=h
 obtain⟨u,rfl,t,rfl⟩:=pN r
 refine call_range_1 ⟨.ref s.heap.objs.size,_,I.laid (a:=s.heap.objs.size) (o:=.rng 0 j) (fun _ _ q=>Heap.get?_push_of_some _ q) (Nat.le_refl _) ?_,rfl,q _ (I.hok.fresh (Nat.le_refl _))⟩
 exact⟨_,_,_,Heap.get?_push_size _ rfl⟩
theorem a4u(hc:X.calm=true):iK X (.type "list") (fun xs H Q=>∃p lo hi,xs= [.ref p] /\H p=some (.rng lo hi)/\ -(2^ 62)<=lo/\lo<2^ 62/\ -(2^ 62)<=hi/\hi<2^ 62/\(hi- lo).toNat<=2^ 24/\∀l,H l=none->Q (.ref l) (upd H l (.lst (eJ lo (hi- lo).toNat)))):=by
 intro pins s σ H xs us Q I r h
 obtain⟨p,lo,hi,rfl,hp,h1,h2,h3,h4,h5,q⟩:=h
 obtain⟨u,rfl,rx⟩:=pN r
 cases rx
 obtain⟨t,u,v,e⟩:=I.hok p _ hp
 have hn:Builtin.Range.rangeSize lo hi 1=((hi- lo).toNat:Int):=by rw[rangeSize_one];split<;>omega
 refine call_list_range (I.ok.hd hc) (show IsRange s.heap p lo hi 1 t u v from e) (small_one h1 h2 h3 h4) hn h5 fun h' tk acc c kp hD hI=> ?_
 refine⟨.ref s.heap.objs.size,_,I.laid (t':=tk) (o:=.lst (eJ lo (hi- lo).toNat)) kp (Nat.le_refl _) ?_,rfl,q _ (I.hok.fresh (Nat.le_refl _))⟩
 refine⟨by rw[pR,sizeLine_eq];exact h5,acc.toList,c,a0a (by rw[pR,Array.length_toList];exact hI.1) fun j x u e1 e2=> ?_,by rw[Array.toArray_toList];exact hD⟩
 rw[Array.getElem?_toList]at e2
 obtain⟨t',rfl⟩:=hI.2 j u e2
 unfold eJ at e1
 rw[List.getElem?_map]at e1
 cases z:(List.range (hi- lo).toNat)[j]? with
 |none=>rw[z]at e1;cases e1
 |some i=>
  rw[z]at e1
  have:i=j:=by
   have hl:j<(List.range (hi- lo).toNat).length:=(List.getElem?_eq_some_iff.mp z).1
   rw[List.getElem?_eq_getElem hl,List.getElem_range]at z
   exact(Option.some.inj z).symm
  subst this
  cases e1
  exact⟨t',by rw[Int.mul_one]⟩
theorem a6D{k:aB}(h:(fE P w).is k u=true):aZ (kV k) u:=by
 rcases jY h with⟨i,t,rfl,rfl⟩|⟨x,t,rfl,rfl⟩
 ·exact⟨t,rfl⟩
 ·exact⟨t,rfl⟩
theorem KV.fst{κ:Type}:∀{kvs:List (κ×V)} {vs:List (κ×Value)},KV kvs vs->kvs.map (·.1)=vs.map (·.1)
 |_,_,.nil=>rfl
 |_,_,.cons r t=>by rw[List.map_cons,List.map_cons,r.1,KV.fst t]
end
def bQ(s:Stmt)(j:Nat):Stmt:=match s with
 | .ClassDef _ _ _ body _ _ _ _ _ _ _=>body.getD j (.Pass ⟨0,0,0,0⟩)
 |_=> .Pass ⟨0,0,0,0⟩
theorem a49:bootBuiltins "range"=some (.type "range"):=by kernel_rfl
structure aR(P:Program)(w:World)(K:Fg)(mg:Str->Option Value)(base:Heap)(CX:eN)(k:Nat)(C:Addr)(m:Str)(ps:List Str)(sp:Sp):Prop where
 ex:∃f fd,eY P w K mg base CX k f fd ps sp/\rD K C m f/\hZ K fd ps []
structure eM(P:Program)(w:World)(K:Fg)(mg:Str->Option Value)(base:Heap)(CX:eN)(k:Nat)(C:Addr)(ps:List Str)(sp:Sp):Prop where
 ex:∃f fd,eY P w K mg base CX k f fd ps sp/\Mk K C f/\hZ K fd ps []
structure bM(K:Fg)(C:Addr)(m qual:Str)(st:Stmt):Prop where
 ex:∃f fd,kT K m qual st f fd/\W.findIn K (.ref C) m=some (some (.ref f))/\W.isFn K (.ref f)=true
section
theorem bP{st:Stmt}{osl:Array (Option Value)}{kV:Value}(a:W.findIn K (.ref C) m=some (some (.ref f)))(i:W.isFn K (.ref f)=true)
 (l:K.lookup f=some ⟨oc,od,.func (W.fnOf m qual (iI st) (eC st) (aO st) .none kV doc pm an cdv ct),osl⟩)(c:W.codeIn K cdv qual=true)(k:W.keepIn K (.ref f)=true):bM K C m qual st:=
 ⟨f,_,uK l c k,a,i⟩
theorem bM.known{st:Stmt}{k:Nat}(D:bM K C m qual st)(S:bA N ps (aO st))
 (hb:∀(kV doc pm:Value) (an:Option Addr) (cdv ct:Value) (us:List Value),us.length=ps.length->bindArgs (W.fnOf m qual (iI st) (eC st) (aO st) .none kV doc pm an cdv ct) ⟨us,[]⟩=pure (ps.zip us))
 (len:∀vs H Q E,sp vs H Q E->vs.length=ps.length)
 (hbody:∀(f:Addr) (cdv:Value) (A:Around) (outer:List Env) (s:Shared) (H:Hp) (vs:List V) (Q:VK) (E:XK),bT k (A.deeper (envOfC qual (aO st) s.heap.objs.size f cdv))->sp vs H Q E->
  ∃t,dU (dM aF P w K mg base N qual (aO st) f cdv A outer s H E).nox (eC st) t/\t {nx:=fun _ H'=>Q .non H',rt:=Q} (start N vs) H):aR P w K mg base aF (k+ 1) C m ps sp:=by
 obtain⟨f,fd,F,ha,hi⟩:=D.ex
 exact⟨f,fd,F.ok S len fun cdv A outer s H vs Q E hr h=>hbody f cdv A outer s H vs Q E hr h,⟨ha,hi,F.kp⟩,F.binds hb⟩
theorem aR.init{k:Nat}(G:aR P w K mg base CX k C "__init__" ps sp)(mk:W.makesIn K C=true)(kc:W.keepIn K (.ref C)=true):eM P w K mg base CX k C ps sp:=by
 obtain⟨f,fd,F,hm,hb⟩:=G.ex
 exact⟨f,fd,F,⟨mk,hm.at_,hm.fn,kc⟩,hb⟩
end
section
variable{k:Nat}{E:XK}{p pos:Pos}{o:Expr}{t:TA}
theorem cC{pl:Sem Bool}(he:PE X o ta)(c:cF X.K C)(G:aR X.prog X.w X.K X.mg X.base CX k C m ps sp)(hr:bT k X.A)(hx:gL CX X E)(ha:PA X (e::es) t)
 (hst:starEach (e::es) X.env=(false,eval e X.env)::starEach es X.env:=by rfl)(hpl:(backTo pos (starEach es X.env)).any (·.1)=false:=by rfl)
 (ht:eval (.Call (.Attribute o m apos) (e::es) [] pos) X.env=(do
  let ov<- eval o X.env
  standAt apos.atName
  let (f,first)<- holding [ov] (getMethod ov m pl)
  callWith pos f first (backTo pos (starEach (e::es) X.env)) (backToKw pos (keywordEach [] X.env))):=by rfl):
 PE X (.Call (.Attribute o m apos) (e::es) [] pos) (vO C m sp [] E ta t):=by
 obtain⟨f,fd,F,hm,hb⟩:=G.ex
 exact a7B (pl:=pl) he c hm F hr hb .nil hx ha hst hpl ht
theorem mH{pl:Sem Bool}(he:PE X o ta)(c:cF X.K C)(G:aR X.prog X.w X.K X.mg X.base CX k C m ps sp)(hr:bT k X.A)(hx:gL CX X E)
 (ht:eval (.Call (.Attribute o m apos) [] [] pos) X.env=(do
  let ov<- eval o X.env
  standAt apos.atName
  let (f,first)<- holding [ov] (getMethod ov m pl)
  callWith pos f first (backTo pos (starEach [] X.env)) (backToKw pos (keywordEach [] X.env))):=by rfl):
 PE X (.Call (.Attribute o m apos) [] [] pos) (vO C m sp [] E ta mT):=by
 obtain⟨f,fd,F,hm,hb⟩:=G.ex
 exact a6v (pl:=pl) he c hm F hr hb .nil hx ht
theorem jX(G:eM X.prog X.w X.K X.mg X.base CX k C ps sp)(hr:bT (k+ 1) X.A)(hm:X.mg x=some (.ref C))(hx:gL CX X E)
 (ha:PA X (e::es) t)(hg:Gl X x:=by rfl)(hdb:(x==("__debug__":Str))=false:=by decide)(he:starEach (e::es) X.env=(false,eval e X.env)::starEach es X.env:=by rfl)(hpl:(backTo pos (starEach es X.env)).any (·.1)=false:=by rfl):
 PE X (.Call (.Name x p) (e::es) [] pos) (tG C sp [] E t):=by
 obtain⟨f,fd,F,M,hb⟩:=G.ex
 exact a32 M F hr hg hm hb .nil hx ha hdb he hpl
end
noncomputable def fH (cells:List (Str×Addr)):List (Str×NameKind)->List (Str×Addr)->List (Str×Addr)
 | [],acc=>acc
 |(n,k)::r,acc=>fH cells r (if k== .free then(n,(cells.lookup n).getD 0)::acc else acc)
theorem xW{env:Env}:∀{names:List (Str×NameKind)} {acc:List (Str×Addr)},(∀y∈names,y.2= .free->∃c,env.cells.lookup y.1=some c)->
 (forIn names acc fun(x:Str×NameKind) (cs:List (Str×Addr))=>(do
  let (name,kind):=x
  if kind==NameKind.free then(do let a<- cellOf env name;pure (ForInStep.yield ((name,a)::cs))) else pure (ForInStep.yield cs):Sem (ForInStep (List (Str×Addr)))))=pure (fH env.cells names acc)
 | [],acc,_=>rfl
 |(n,k)::r,acc,h=>by
  rw[List.forIn_cons]
  by_cases hk:(k==NameKind.free)=true
  ·obtain⟨c,hc⟩:=h (n,k) List.mem_cons_self (by simpa using hk)
   have e:cellOf env n=pure c:=by unfold cellOf;rw[show env.cells.lookup n=some c from hc]
   have ih:=xW (env:=env) (names:=r) (acc:=(n,c)::acc) fun y hy=>h y (List.mem_cons_of_mem _ hy)
   show(do let r<- (if k==NameKind.free then(do let a<- cellOf env n;pure (ForInStep.yield ((n,a)::acc))) else pure (ForInStep.yield acc):Sem (ForInStep (List (Str×Addr))));_)=_
   rw[if_pos hk,e,pure_bind,pure_bind]
   refine Eq.trans ih ?_
   show _=pure (fH env.cells r (if(k==NameKind.free)=true then(n,(env.cells.lookup n).getD 0)::acc else acc))
   rw[if_pos hk,show env.cells.lookup n=some c from hc]
   rfl
  ·have ih:=xW (env:=env) (names:=r) (acc:=acc) fun y hy=>h y (List.mem_cons_of_mem _ hy)
   show(do let r<- (if k==NameKind.free then(do let a<- cellOf env n;pure (ForInStep.yield ((n,a)::acc))) else pure (ForInStep.yield acc):Sem (ForInStep (List (Str×Addr))));_)=_
   rw[if_neg hk,pure_bind]
   refine Eq.trans ih ?_
   show _=pure (fH env.cells r (if(k==NameKind.free)=true then(n,(env.cells.lookup n).getD 0)::acc else acc))
   rw[if_neg hk]
theorem xC{cells:List (Str×Addr)}:∀{names:List (Str×NameKind)} {acc:List (Str×Addr)},(∀y∈names,y.2= .free->∃c,cells.lookup y.1=some c)->(∀x c,acc.lookup x=some c->cells.lookup x=some c)->
 ∀x c,(fH cells names acc).lookup x=some c->cells.lookup x=some c
 | [],_,_,h=>h
 |(n,k)::r,acc,hf,h=>by
  refine xC (names:=r) (fun y hy=>hf y (List.mem_cons_of_mem _ hy)) ?_
  intro x c e
  by_cases hk:(k==NameKind.free)=true
  ·obtain⟨c',hc⟩:=hf (n,k) List.mem_cons_self (by simpa using hk)
   have hc':cells.lookup n=some c':=hc
   rw[if_pos hk,hc',List.lookup_cons]at e
   by_cases hx:(x==n)=true
   ·rw[hx]at e
    cases e
    have:x=n:=by simpa using hx
    rw[this]
    exact hc'
   ·rw[show (x==n)=false by simpa using hx]at e
    exact h x c e
  ·rw[if_neg hk]at e
   exact h x c e
theorem a2v{cells:List (Str×Addr)}:∀{names:List (Str×NameKind)} {acc:List (Str×Addr)} {x:Str},(∃c,acc.lookup x=some c)->∃c,(fH cells names acc).lookup x=some c
 | [],_,_,h=>h
 |(n,k)::r,acc,x,⟨c,h⟩=>by
  refine a2v (names:=r) ?_
  by_cases hk:(k==NameKind.free)=true
  ·rw[if_pos hk,List.lookup_cons]
   cases hx:x==n with
   |true=>exact⟨_,rfl⟩
   |false=>exact⟨c,h⟩
  ·rw[if_neg hk]
   exact⟨c,h⟩
theorem rJ{cells:List (Str×Addr)}:∀{names:List (Str×NameKind)} {acc:List (Str×Addr)} {x:Str},(x,NameKind.free)∈names->∃c,(fH cells names acc).lookup x=some c
 |(n,k)::r,acc,x,h=>by
  rcases List.mem_cons.mp h with e|h
  ·cases e
   refine a2v (names:=r) ⟨(cells.lookup n).getD 0,?_⟩
   rw[if_pos (by rfl),List.lookup_cons,beq_self_eq_true]
  ·exact rJ (names:=r) h
theorem a2U{env:Env}:∀{names:List (Str×NameKind)} {x:Str},names.lookup x=some .free->
 (names.map fun(n,k)=>if(k==NameKind.free&&env.scope.kind== .function&&env.kindOf n==some .cell) then(n,NameKind.cell) else(n,k)).lookup x=some .cell\/
 (names.map fun(n,k)=>if(k==NameKind.free&&env.scope.kind== .function&&env.kindOf n==some .cell) then(n,NameKind.cell) else(n,k)).lookup x=some .free
 | [],_,h=>by simp at h
 |(n,k)::r,x,h=>by
  have ih:= @a2U env r x
  rw[List.lookup_cons]at h
  rw[List.map_cons]
  cases hx:x==n with
  |true=>
   rw[hx]at h
   cases h
   by_cases hc:(NameKind.free==NameKind.free&&env.scope.kind== .function&&env.kindOf n==some .cell)=true
   ·simp only[hc,if_true,List.lookup_cons,hx]
    exact .inl trivial
   ·simp only[hc,if_false,List.lookup_cons,hx,Bool.false_eq_true]
    exact .inr trivial
  |false=>
   rw[hx]at h
   by_cases hc:(k==NameKind.free&&env.scope.kind== .function&&env.kindOf n==some .cell)=true
   ·simp only[hc,if_true,List.lookup_cons,hx]
    exact ih h
   ·simp only[hc,if_false,List.lookup_cons,hx,Bool.false_eq_true]
    exact ih h
theorem mC{sc:Scope}(hcell:∀x,X.env.scope.names.lookup x=some .cell->∃c,X.env.cells.lookup x=some c)(hs:X.env.scope=sc:=by rfl)(hN:X.N=N:=by rfl)
 (kind:scope.kind= .function:=by rfl)(plain:∀y∈scope.names,y.2≠ .cell:=by decide)(names:∀y∈scope.names,y.2= .local->scope.names.lookup y.1=some .local:=by decide+kernel)
 (free:∀y∈scope.names,y.2= .free->sc.names.lookup y.1=some .cell:=by decide+kernel)(at':∀p∈cp,N[p.1]?=some p.2/\sc.names.lookup p.2=some .cell/\scope.names.lookup p.2=some .free:=by decide+kernel):
 oK X scope (fH X.env.cells scope.names []) cp:=by
 subst hs hN
 have hf:∀y∈scope.names,y.2= .free->∃c,X.env.cells.lookup y.1=some c:=fun y hy e=>hcell _ (free y hy e)
 refine⟨kind,plain,names,?_,xC hf (fun x c e=>by cases e),fun x h=> ?_,fun p hp=> ?_⟩
 ·show closureFor scope X.env=_
  simp only[closureFor]
  have:=xW (env:=X.env) (acc:=[]) hf
  exact(congrArg (fun z=>z>>=fun r=>pure r) this).trans (pure_bind _ _)
 ·have hm:∀k,(relabel scope X.env).names.lookup x=some k->(k= .cell\/ k= .free)->(x,NameKind.free)∈scope.names:=fun k e hk=>by
   have m:=PySem.mem_of_lookup e
   unfold relabel at m
   obtain⟨⟨n,k'⟩,hy,e'⟩:=List.mem_map.mp m
   have nc:=plain _ hy
   by_cases hc:(k'==NameKind.free&&X.env.scope.kind== .function&&X.env.kindOf n==some .cell)=true
   ·simp only[hc,if_true]at e'
    have e1:n=x:=congrArg (·.1) e'
    have:k'= .free:=by simp only[Bool.and_eq_true,beq_iff_eq]at hc;exact hc.1.1
    subst e1 this
    exact hy
   ·simp only[hc,if_false,Bool.false_eq_true]at e'
    have e1:n=x:=congrArg (·.1) e'
    have e2:k'=k:=congrArg (·.2) e'
    subst e1 e2
    rcases hk with z|z
    ·exact absurd z nc
    ·subst z;exact hy
  rcases h with h|h
  ·exact rJ (hm _ h (.inl rfl))
  ·exact rJ (hm _ h (.inr rfl))
 ·obtain⟨h1,h2,h3⟩:=at' p hp
  exact⟨h1,.inl h2,a2U h3⟩
def mB(X:Cx)(d:Addr):Prop:=(∀xs,X.H₀ d≠some (.tup xs))/\(∀o u,X.H₀ d≠some (.frz o u))/\∀ps,X.H₀ d≠some (.tbl ps)
section
variable{d:Addr}
theorem aD.retag{u u':HO}(I:aD X pins σ H s)(e:H d=some u)(nf:mB X d)(no:∀x,u≠ .own x)(nt:∀xs,u≠ .tup xs)(new:cO X.prog X.w (upd H d u') s.heap d u'):aD X pins σ (upd H d u') s:=by
 have hn:∀b,H b=none->upd H d u' b=none:=fun b n=>by rw[aG (bE e n).symm];exact n
 refine⟨I.ok,I.os,I.bare,⟨I.base.keep,I.base.slot,fun b o q n hx=>hn b (I.base.free b o q n hx),I.base.there,fun b xs q=> ?_,fun b o v q=> ?_,fun b ps q=> ?_⟩,I.loc,I.cell,hn _ I.free,fun x c q=>hn _ (I.freeC x c q),fun p hp=> ?_,fun b v q=> ?_,I.len⟩
 ·have:b≠d:=fun z=>nf.1 xs (z▸q)
  rw[aG this]
  exact I.base.tups b xs q
 ·have:b≠d:=fun z=>nf.2.1 o v (z▸q)
  rw[aG this]
  exact I.base.frzs b o v q
 ·have:b≠d:=fun z=>nf.2.2 ps (z▸q)
  rw[aG this]
  exact I.base.tbls b ps q
 ·obtain⟨a1,a2,a3,a4,a5⟩:=I.pin p hp
  exact⟨a1,hn _ a2,a3,a4,a5⟩
 ·by_cases hb:b=d
  ·subst hb
   rw[aJ]at q
   cases q
   exact new
  ·rw[aG hb]at q
   refine(I.hok b v q).stay (fun _ _ _ r=>r) (fun c r=> ?_) fun c xs r=> ?_
   ·rw[aG (jQ r e (fun z=>no _ z.symm))]
    exact r
   ·rw[aG (jQ r e (fun z=>nt _ z.symm))]
    exact r
theorem aD.nof{u:HO}(I:aD X pins σ H s)(e:H d=some u)(h1:∀xs,u≠ .tup xs)(h2:∀o v,u≠ .frz o v)(h3:∀ps,u≠ .tbl ps):mB X d:=by
 refine⟨fun xs q=> ?_,fun o v q=> ?_,fun ps q=> ?_⟩
 ·have:=(I.base.tups d xs q).symm.trans e
  exact h1 xs (Option.some.inj this).symm
 ·have:=(I.base.frzs d o v q).symm.trans e
  exact h2 o v (Option.some.inj this).symm
 ·obtain⟨m,q'⟩:=I.base.tbls d ps q
  have:=q'.symm.trans e
  exact h3 _ (Option.some.inj this).symm
theorem aD.freeze(I:aD X pins σ H s)(e:H d=some (.dK kvs)):mB X d/\∃o,s.heap.get? d=some o/\aD X pins σ (upd H d (.frz o (.dK kvs))) s:=by
 have nf:mB X d:=I.nof e (by intro _ z;cases z) (by intro _ _ z;cases z) (by intro _ z;cases z)
 have ok:cO X.prog X.w H s.heap d (.dK kvs):=I.hok d _ e
 obtain⟨z,hs,vs,rel,o,es,ep,ho,r⟩:=id ok
 exact⟨nf,o,ho,I.retag e nf (by intro _ z;cases z) (by intro _ z;cases z) ⟨ho,z,hs,vs,rel,o,es,ep,ho,r⟩⟩
theorem aD.thaw{o:Obj}(I:aD X pins σ H s)(nf:mB X d)(e:H d=some (.frz o (.dK kvs))):aD X pins σ (upd H d (.dK kvs)) s:=by
 obtain⟨_,q⟩:=(show cO X.prog X.w H s.heap d (.frz o (.dK kvs)) from I.hok d _ e)
 exact I.retag e nf (by intro _ z;cases z) (by intro _ z;cases z) q
end
noncomputable def qJ (a:Addr) (o:Obj) (kvs:List (aB×V)):It:=
 ⟨fun i H=>H a=some (.frz o (.dK kvs))/\i<kvs.length,fun i H x H'=>H'=H/\∃p,kvs[i]?=some p/\x=kV p.1,fun i H=>H a=some (.frz o (.dK kvs))/\kvs.length<=i⟩
theorem a00{o:Obj}{es:Array DictEntry}{ep:Nat}(ok:bX P w H h)(e:H a=some (.frz o (.dK kvs)))(ho:o.data= .dict es ep):
 (a==sysModules)=false/\∃vs,KV kvs vs/\h.DictAt (fE P w) a vs ep:=by
 obtain⟨e1,z,hs,vs,rel,o',es',ep',ho',r1,r2,r3⟩:=(show cO P w H h a (.frz o (.dK kvs)) from ok a _ e)
 rw[e1]at ho'
 cases ho'
 have:=r2.symm.trans ho
 cases this
 exact⟨hs,vs,rel,o,_,e1,r1,r2,r3⟩
theorem a7l(a it:Addr)(o:Obj)(kvs:List (aB×V)){es:Array DictEntry}{ep:Nat}(hod:o.data= .dict es ep):qH P w K tg (qJ a o kvs) [it] it (fun i h=>h.IsKeyIter it a i kvs.length ep) where
 mem:=by simp
 obj:=fun i h st b hb=>by
  have e:b=it:=by simpa using hb
  subst e
  obtain⟨o,e,c,d⟩:=st
  exact⟨o,e,fun v z=>by rw[d]at z;cases z⟩
 keep:=fun i h h' st k=>st.at fun o e=>k it (by simp) o e
 item:=by
  intro X hP hw hK hc i pins s σ H E I hf st hg
  subst hP hw hK
  obtain⟨ha,hi⟩:=hg
  obtain⟨_,vs,rel,dat⟩:=a00 I.hok ha hod
  have hl:kvs.length=vs.length:=Paired.length rel
  obtain⟨⟨k,x⟩,hx⟩:∃p,vs[i]?=some p:=⟨vs[i]'(by omega),by simp⟩
  obtain⟨f0,f1,f2,f3,f4,f5⟩:=hf it (by simp)
  rw[hl]at st
  refine wpAny_pyNext_dict_item st dat hx fun u h' hu st' sb=> ?_
  have I1:aD X pins σ H {s with heap:=h'}:=I.turned (t':=s.toks) (fun b o hb e=>sb.extBut b o hb e) f0 f1 f3 f4 f5
  obtain⟨o1,e1,c1,d1⟩:=id st'
  refine⟨u,rfl,sZ (s:={s with heap:=h'}) e1 c1 d1 (by decide) ⟨kV k,H,I1,a6D hu,⟨rfl,?_⟩,by rw[hl];exact st',fun b hb=>(hf b hb).1⟩⟩
  refine⟨kvs[i],by simp[hi],?_⟩
  have e5:(kvs.map (·.1))[i]?=some k:=by rw[KV.fst rel,List.getElem?_map,hx];rfl
  rw[List.getElem?_map,List.getElem?_eq_getElem hi]at e5
  rw[<- Option.some.inj e5]
 done:=by
  intro X hP hw hK hc i pins s σ H E I hf st hg
  subst hP hw hK
  obtain⟨ha,hi⟩:=hg
  obtain⟨_,vs,rel,dat⟩:=a00 I.hok ha hod
  have hl:kvs.length=vs.length:=Paired.length rel
  obtain⟨f0,f1,f2,f3,f4,f5⟩:=hf it (by simp)
  rw[hl]at st
  exact wpAny_pyNext_dict_end (I.ok.hd hc) st dat (by simp;omega) fun h' eb=>⟨rfl,I.turned (t':=s.toks) (fun b o hb e=>eb b o hb e) f0 f1 f3 f4 f5⟩
 self:=fun _ _ _ _ _ st h=>wpAny_pyIter_keyiter st h
section
def a15(X:Cx)(tl:TE):TI:=fun σ H R=>tl σ H fun x H1=>∃a kvs,x= .ref a/\H1 a=some (.dK kvs)/\(mB X a->∀o,R (qJ a o kvs) (upd H1 a (.frz o (.dK kvs))))
theorem a4X{l:Expr}(hl:PE X l tl):PI X tg l (a15 X tl):=by
 intro pins s σ H R I h
 refine aT (hl pins s σ H _ I h) ?_
 rintro v s1 ⟨x,H1,I1,r1,q1⟩
 obtain⟨a,kvs,e,ha,q⟩:=q1
 subst e
 cases r1
 obtain⟨nf,o,ho,I2⟩:=I1.freeze ha
 obtain⟨z,hs,vs,rel,o',es,ep,ho',r1,r2,r3⟩:=(show cO X.prog X.w H1 s1.heap a (.dK kvs) from I1.hok a _ ha)
 rw[ho]at ho'
 cases ho'
 have hl:kvs.length=vs.length:=Paired.length rel
 have dat:s1.heap.DictAt (fE X.prog X.w) a vs ep:=⟨o,es,ho,r1,r2,r3⟩
 refine wpAny_pyIter_dict hs dat ?_
 refine⟨s1.heap.objs.size,[s1.heap.objs.size],_,_,_,rfl,I2.kept (t':=s1.toks) fun b o e=>Heap.get?_push_of_some _ e,a7l a _ o kvs r2,⟨_,Heap.get?_push_size _ rfl,rfl,by rw[hl];rfl⟩,fun b hb=> ?_,q nf o⟩
 have e:b=s1.heap.objs.size:=by simpa using hb
 subst e
 exact I2.fpOk (Nat.le_refl _) (I2.hok.fresh (Nat.le_refl _))
noncomputable def a3l (X:Cx) (D:iX):iX where
 nx:=fun σ H=>∃a o kvs,mB X a/\H a=some (.frz o (.dK kvs))/\D.nx σ (upd H a (.dK kvs))
 rt:=fun v H=>∃a o kvs,mB X a/\H a=some (.frz o (.dK kvs))/\D.rt v (upd H a (.dK kvs))
 bk:=D.bk
 ct:=D.ct
def a4w(X:Cx)(tl:TE)(g:TG)(tb:TS):TS:=fun D σ H=>tFor (a15 X tl) g tb (a3l X D) σ H
theorem a1m{body:List Stmt}{tb:TS}{pos:Pos}(hp:PassesOwn (model X.prog X.w) X.A X.env X.xe)(hc:X.calm=true)(hl:PE X iter tl)(hg:PG X tg g)(hb:dU X body tb)
 (hs:∀x,foldedSetIterable iter X.env x=pure x:=by intro _;rfl):PS X (.For tg iter body [] pos) (a4w X tl g tb):=by
 intro pins s σ H D I h
 refine aT (kH hp hc (a4X hl) hg hb hs pins s σ H (a3l X D) I h) fun f s' q=> ?_
 cases f with
 |next=>obtain⟨σ',H',I',a,o,kvs,nf,e,q⟩:=q;exact⟨σ',_,I'.thaw nf e,q⟩
 |cont=>exact q
 |brk=>exact q
 |ret v=>obtain⟨x,σ',H',I',r,a,o,kvs,nf,e,q⟩:=q;exact⟨x,σ',_,I'.thaw nf e,r,q⟩
end
theorem a2h{ob:Obj}{tb:TS}{D:iX}(Pv:Nat->St->Hp->Prop)(h0:Pv 0 σ H)(hl:∀i σ H,i<=kvs.length->Pv i σ H->H a=some (.frz ob (.dK kvs)))
 (hs:∀i p σ H,kvs[i]?=some p->Pv i σ H->g (kV p.1) σ H fun σ2 H2=>tb {D with nx:=Pv (i+ 1),ct:=Pv (i+ 1),bk:=D.nx} σ2 H2)(hd:∀σ H,Pv kvs.length σ H->D.nx σ H):
 ∃W:Nat->Nat->St->Hp->Prop,(∃m,W 0 m σ H)/\∀i m σ H,W i m σ H->
  ((qJ a ob kvs).stop i H/\D.nx σ H)\/ ((qJ a ob kvs).go i H/\∃N:St->Hp->Prop,(∀σ' H',N σ' H'->∃m',m'<m/\W (i+ 1) m' σ' H')/\∀x H',(qJ a ob kvs).yld i H x H'->g x σ H' fun σ2 H2=>tb {D with nx:=N,ct:=N,bk:=D.nx} σ2 H2):=by
 refine⟨fun i m σ H=>m=kvs.length- i/\i<=kvs.length/\Pv i σ H,⟨kvs.length,by simp,Nat.zero_le _,h0⟩,?_⟩
 rintro i m σ H ⟨rfl,hi,p⟩
 have q:=hl i σ H hi p
 by_cases hlt:i<kvs.length
 ·refine .inr ⟨⟨q,hlt⟩,Pv (i+ 1),fun σ' H' p'=>⟨kvs.length- (i+ 1),by omega,rfl,hlt,p'⟩,fun x H' y=> ?_⟩
  obtain⟨e,pr,hp,ex⟩:=y
  subst e ex
  exact hs i pr σ _ hp p
 ·have e:i=kvs.length:=by omega
  subst e
  exact .inl ⟨⟨q,Nat.le_refl _⟩,hd σ H p⟩
section
variable{st:Expr}{ts:TO}{p2 pos:Pos}
theorem cE{st:Stmt}:PS X st (fun _ _ _=>False):=fun _ _ _ _ _ _ h=>h.elim
end
structure jA(mg:Str->Option Value)(base:Heap)(c P:Addr):Prop where
 hd:W.CodeHd base c P
 bt:base.BuiltinsAt mg P
theorem a6y(h:H a=some o):upd H a o=H:=by
 funext b
 unfold upd
 split
 ·rename_i e;subst e;exact h.symm
 ·rfl
section
theorem a0O:∀{xs:List Value} {l c:Nat} {a:Addr},TriplesOk xs->TriplesOk (xs++ [rawInt l,rawInt c,.ref a])
 | [],_,_,_,_=>trivial
 | .int _ _:: .int _ _::_::cJ,_,_,_,t=>a0O (xs:=cJ) t
theorem a54{ps:Array Value}{l c:Nat}(t:TriplesOk ps.toList):TriplesOk (ps++ #[rawInt l,rawInt c,.ref a]).toList:=by
 rw[Array.toList_append]
 exact a0O t
end
structure a8H(q:Program)(K:Fg)(z:Addr×Addr):Prop where
 ex:∃x:Str,((recsOf q).find? (fun e=>e.name==x)).isSome=true/\W.tabIn K x=some z
theorem a1O{ps:Array Value}(hK:W.noTabs K=true)(X:K.In h)(e:h.get? a=some (W.tabObj ps)):K.lookup a=none:=by
 cases q:K.lookup a with
 |none=>rfl
 |some o=>
  have e2:=X a o q
  rw[e]at e2
  cases e2
  have h2:=List.all_eq_true.mp hK (a,_) (W.mem_of_lookupK q)
  exact absurd (show false=true from h2) Bool.false_ne_true
structure ClsM(K:Fg)(C:Addr)(m:Str):Prop where
 ga:W.specialIn K (.ref C) "__getattribute__"=some (some (.builtin "type.__getattribute__"))
 ex:∃(mc:Value) (f:Addr),W.readsIn K C mc=true/\W.findCls K (.ref C) mc m=some (.val (.ref f))/\W.findIn K (.ref C) m=some (some (.ref f))
section
variable{k:Nat}{E:XK}{p pos:Pos}{o:Expr}{t:TA}
theorem a7U{pl:Sem Bool}(he:PE X o (tC (.ref C)))(c:ClsM X.K C m)(G:aR X.prog X.w X.K X.mg X.base CX k C m ps sp)(hr:bT k X.A)(hx:gL CX X E)(ha:PA X (e::es) t)
 (hst:starEach (e::es) X.env=(false,eval e X.env)::starEach es X.env:=by rfl)(hpl:(backTo pos (starEach es X.env)).any (·.1)=false:=by rfl)
 (ht:eval (.Call (.Attribute o m apos) (e::es) [] pos) X.env=(do
  let ov<- eval o X.env
  standAt apos.atName
  let (f,first)<- holding [ov] (getMethod ov m pl)
  callWith pos f first (backTo pos (starEach (e::es) X.env)) (backToKw pos (keywordEach [] X.env))):=by rfl):
 PE X (.Call (.Attribute o m apos) (e::es) [] pos) (rC sp [] E t):=by
 obtain⟨f,fd,F,hm,hb⟩:=G.ex
 intro pins s σ H Q I h
 refine W.methodCall_KW (pl:=pl) (aT (he pins s σ H (fun v H1=>v= .ref C/\H1=H) I ⟨rfl,rfl⟩) ?_) ht
 rintro u s1 ⟨x,H1,I1,rx,q⟩
 obtain⟨rfl,rfl⟩:=q
 obtain rfl:u=Value.ref C:=rx
 obtain⟨mc,f',h1,h2,h3⟩:=c.ex
 have e1:=hm.at_
 rw[h3]at e1
 cases e1
 refine W.method_cls I1.kIn c.ga (W.cls_value I1.kIn h1 h2 rfl ?_)
 refine W.callWith_K (first:=[]) (h₀:=X.base) I.ok.mod.kin hm.kp (aT (ha pos pins _ σ _ _ (I1.tok _) h) fun us s2 ⟨vs,H2,I2,r,q2⟩=>⟨I2.kIn,?_⟩) hst hpl
 exact qV (us:=us) (vs:=vs) F hr hb .nil hx I2 r q2
end
structure mY(K:Fg)(mg:Str->Option Value)(x:Str)(st:Stmt)(z:Addr×Addr):Prop where
 ex:∃f fd,kT K x x st f fd/\mg x=some (.ref f)/\fd.code= .ref z.1
 tab:W.tabIn K x=some z
section
theorem a6t{c p:Addr}{wo:Value}{wd:Option Addr}{fd:FuncData}{osl ws:Array (Option Value)}{vs:Array Value}(a:W.nsIn K mainGlobals x=some (some (.ref f)))
 (l:K.lookup f=some ⟨oc,od,.func fd,osl⟩)(hc:fd.code= .ref c)(w:K.lookup c=some ⟨wo,wd,.fields vs,ws⟩)(h:vs[11]?=some (.ref p)):W.tabIn K x=some (c,p):=by
 unfold W.tabIn
 rw[a]
 dsimp only
 rw[l]
 dsimp only
 rw[hc]
 dsimp only
 rw[w]
 dsimp only
 rw[h]
theorem a7A{st:Stmt}{c p:Addr}{wo:Value}{wd:Option Addr}{osl ws:Array (Option Value)}{kV:Value}{vs:Array Value}(X:K.In h)(G:h.Ns mainGlobals mg)(a:W.nsIn K mainGlobals x=some (some (.ref f)))
 (l:K.lookup f=some ⟨oc,od,.func (W.fnOf x x (iI st) (eC st) (aO st) .none kV doc pm an (.ref c) ct),osl⟩)(hc:W.codeIn K (.ref c) x=true)(k:W.keepIn K (.ref f)=true)
 (w:K.lookup c=some ⟨wo,wd,.fields vs,ws⟩)(t:vs[11]?=some (.ref p)):mY K mg x st (c,p):=
 ⟨⟨f,_,uK l hc k,W.mg_of X G a,rfl⟩,a6t a l rfl w t⟩
end
section
theorem op_inD(hu:X.A.units+ 64<cLine):dN X (compareOp .In) (fun x y H Q=>∃d ds,Dt X.K H x d/\Dt X.K H y (.list ds)/\d.canLay0=true/\(PyData.list ds).canLay0=true/\d.depth<=62/\Q (.bl (ds.any fun z=>PyData.eqv z d)) H):=by
 intro pins s σ H x y v u Q I rx ry h
 obtain⟨d,ds,hx,hy,lx,ly,hd,q⟩:=h
 obtain⟨as,ra⟩:=Dt.reads I hx rx lx
 obtain⟨bs,rb⟩:=Dt.reads I hy ry ly
 exact SeqAt.in_list_reads rb ra ly lx (by have:=Nat.min_le_right (PyData.depthAll ds) d.depth;omega) ⟨.bl _,H,I,rfl,q⟩
theorem a42(hu:X.A.units+ 64<cLine):dN X (compareOp .NotIn) (fun x y H Q=>∃d ds,Dt X.K H x d/\Dt X.K H y (.list ds)/\d.canLay0=true/\(PyData.list ds).canLay0=true/\d.depth<=62/\Q (.bl (!ds.any fun z=>PyData.eqv z d)) H):=by
 intro pins s σ H x y v u Q I rx ry h
 obtain⟨d,ds,hx,hy,lx,ly,hd,q⟩:=h
 obtain⟨as,ra⟩:=Dt.reads I hx rx lx
 obtain⟨bs,rb⟩:=Dt.reads I hy ry ly
 exact SeqAt.notIn_list_reads rb ra ly lx (by have:=Nat.min_le_right (PyData.depthAll ds) d.depth;omega) ⟨.bl _,H,I,rfl,q⟩
end
abbrev gX(p:Str×Str):PyData:=.tuple [.str p.1,.str p.2]
theorem yN(p q:Str×Str):PyData.eqv (gX p) (gX q)=decide (p=q):=by
 obtain⟨a,b⟩:=p
 obtain⟨c,d⟩:=q
 show(a==c&&(b==d&&true))=decide ((a,b)=(c,d))
 rw[Bool.and_true]
 by_cases h1:a=c
 ·by_cases h2:b=d
  ·subst h1;subst h2
   simp
  ·rw[decide_eq_false (fun e=>h2 (Prod.mk.inj e).2),beq_eq_false_iff_ne.mpr h2,Bool.and_false]
 ·rw[decide_eq_false (fun e=>h1 (Prod.mk.inj e).1),beq_eq_false_iff_ne.mpr h1,Bool.false_and]
theorem a3H(p:Str×Str):∀ps:List (Str×Str),((ps.map gX).any fun z=>PyData.eqv z (gX p))=decide (p∈ps)
 | []=>rfl
 |q::ps=>by
  rw[List.map_cons,List.any_cons,a3H p ps,yN]
  by_cases h:p=q
  ·subst h;simp
  ·rw[decide_eq_false (fun e=>h e.symm),Bool.false_or]
   simp[h]
noncomputable def fA (ps:List (Str×Str)):List (Str×Str):=ps.foldl (fun acc p=>if p∈acc then acc else acc++ [p]) []
theorem a6e(ps:List (Str×Str))(p:Str×Str):fA (ps++ [p])=if p∈fA ps then fA ps else fA ps++ [p]:=by
 unfold fA
 rw[List.foldl_append]
 rfl
theorem xT:∀ps:List (Str×Str),(fA ps).length<=ps.length:=by
 suffices h:∀(ps acc:List (Str×Str)),(ps.foldl (fun acc p=>if p∈acc then acc else acc++ [p]) acc).length<=acc.length+ ps.length by
  intro ps
  have:=h ps []
  simpa [fA] using this
 intro ps
 induction ps with
 |nil=>intro acc;simp
 |cons p ps ih=>
  intro acc
  rw[List.foldl_cons]
  refine Nat.le_trans (ih _) ?_
  split
  ·simp
  ·simp;omega
theorem a1L:∀{ps:List (Str×Str)} {p:Str×Str},p∈fA ps->p∈ps:=by
 suffices h:∀(ps acc:List (Str×Str)) (p:Str×Str),p∈ps.foldl (fun acc p=>if p∈acc then acc else acc++ [p]) acc->p∈acc\/ p∈ps by
  intro ps p hp
  rcases h ps [] p hp with h|h
  ·cases h
  ·exact h
 intro ps
 induction ps with
 |nil=>intro acc p h;exact .inl h
 |cons q ps ih=>
  intro acc p h
  rw[List.foldl_cons]at h
  rcases ih _ p h with h|h
  ·split at h
   ·exact .inl h
   ·rcases List.mem_append.mp h with h|h
    ·exact .inl h
    ·exact .inr (by rw[List.mem_singleton.mp h];exact List.mem_cons_self)
  ·exact .inr (List.mem_cons_of_mem _ h)
def Fz(o:Obj):HO:=.frz o (.ext fun _=>True)
theorem yC{o:Obj}(e:h.get? a=some o):cO P w H h a (Fz o):=⟨e,trivial,⟨o,e⟩,fun _ _ _ _=>trivial⟩
theorem jZ{o:Obj}(x:bX P w H h)(e:H a=some (Fz o)):h.get? a=some o:=(x a _ e).1
def a1E(q:Str)(o:Obj):Prop:=∃vs t,o.data= .fields vs/\vs[1]?=some (.str q t)
def eZ(P:Addr)(S:List Addr):HO:=.ext fun h=>∃ps:Array Value,h.get? P=some (W.tabObj ps)/\TriplesOk ps.toList/\∀pos cv,codeAmong pos ps.toList=some cv->∃c∈S,cv= .ref c
def fM(q:Str)(H:Hp)(P:Addr):Prop:=∃S,H P=some (eZ P S)/\∀c∈S,∃o,H c=some (Fz o)/\a1E q o
def fS(q:Str)(params:Arguments)(body:Expr)(scope:Scope)(clos:List (Str×Addr))(H:Hp)(fa:Addr):Prop:=
 ∃pm c ctv o,H fa=some (Fz (W.kla_obj "<lambda>" q params body scope clos pm c ctv))/\H c=some (Fz o)/\a1E q o
theorem a0N{ps:Array Value}{S:List Addr}(e:h.get? a=some (W.tabObj ps))(t:TriplesOk ps.toList)(c:∀pos cv,codeAmong pos ps.toList=some cv->∃c∈S,cv= .ref c):cO P w H h a (eZ a S):=
 ⟨⟨ps,e,t,c⟩,⟨_,e⟩,fun h1 h2 ⟨qs,e1,t1⟩ k=>⟨qs,k _ e1,t1⟩⟩
theorem a1Z{pos:Pos}{l c:Nat}{a:Addr}{cv:Value}:∀{xs:List Value},TriplesOk xs->codeAmong pos (xs++ [rawInt l,rawInt c,.ref a])=some cv->codeAmong pos xs=some cv\/ cv= .ref a
 | [],_,h=>by
  right
  simp only[List.nil_append,rawInt,codeAmong]at h
  split at h
  ·exact(Option.some.inj h).symm
  ·cases h
 | .int x _:: .int y _::z::cJ,t,h=>by
  simp only[List.cons_append,codeAmong]at h|-
  split at h
  ·rename_i e
   rw[if_pos e]
   exact .inl h
  ·rename_i e
   rw[if_neg e]
   exact a1Z (xs:=cJ) t h
theorem a2n{c:Addr}{o:Obj}(x:bX P w H h)(hn:H c=none)(e:h.get? c=some o):bX P w (upd H c (Fz o)) h:=fun b u q=>by
 by_cases hb:b=c
 ·subst hb;rw[aJ]at q;cases q;exact yC e
 ·rw[aG hb]at q
  exact(x b u q).stay (fun _ _ _ z=>z) (fun d z=>by rw[aG (bE z hn)];exact z) fun d xs z=>by rw[aG (bE z hn)];exact z
def nY(P:Addr)(H H':Hp):Prop:=∀b o,b≠P->H b=some o->H' b=some o
def a5v(P:Addr)(q:Str)(params:Arguments)(body:Expr)(scope:Scope)(clos:List (Str×Addr)):TE:=fun _ H Q=>fM q H P/\∀a H',H a=none->nY P H H'->fM q H' P->fS q params body scope clos H' a->Q (.ref a) H'
section
theorem xU{pos:Pos}{c P:Addr}(M:jA X.mg X.base c P)(hc:X.env.code= .ref c)(hcl:closureFor scope X.env=pure clos)(hdef:defaultsOf params X.env=([],[])):
 PE X (.Lambda params body scope pos) (a5v P (X.env.qual++ "<lambda>") params body scope clos):=by
 intro pins s σ H Q I h
 obtain⟨⟨S,hP,hS⟩,q⟩:=h
 obtain⟨⟨ps,e,t,tc⟩,_,_⟩:=I.hok P _ hP
 have hg:s.heap.Ns mainGlobals X.mg:=I.mod.glob.keeps I.bk
 have C:=M.hd.keeps I.bk
 have hb:s.heap.BuiltinsAt X.mg P:=let ⟨bm,o,b1,b2,b3,b4,b5,r⟩:=M.bt;⟨bm,o,b1,b2,b3,b4,I.bk _ _ b5,r⟩
 have hgP:mainGlobals≠P:=fun z=>by
  obtain⟨o,es,ep,e1,hd,_⟩:=hg
  rw[z,e]at e1;cases e1;cases hd
 refine W.kla_eval hdef ?_
 cases hf:codeAmong pos ps.toList with
 |none=>
  refine W.kla_makeFunction (mg:=X.mg) hcl I.ok.glob hg hc C e t hf hgP hb fun c' ctv h' tk hx hge hlt hrec htb=> ?_
  obtain⟨c1,oc,vs,tq,ec,goc,doc,dq⟩:=hrec
  obtain rfl:c'=c1:=by cases ec;rfl
  have nP:∀b,H b=none->b≠P:=fun b n z=>by rw[z,hP]at n;cases n
  have hPlt:P<s.heap.objs.size:=Heap.lt_size e
  have goc':(h'.push (W.kla_obj "<lambda>" (X.env.qual++ "<lambda>") params body scope clos ((X.mg "__name__").getD .none) c' ctv)).get? c'=some oc:=Heap.get?_push_of_some _ goc
  have cP:c'≠P:=Nat.ne_of_gt (Nat.lt_of_lt_of_le hPlt hge)
  have aP:h'.objs.size≠P:=Nat.ne_of_gt (Nat.lt_of_lt_of_le hPlt (Nat.le_of_lt (Nat.lt_of_le_of_lt hge hlt)))
  have ac:h'.objs.size≠c':=Nat.ne_of_gt hlt
  have fr:∀b,s.heap.objs.size<=b->H b=none:=fun b z=>I.hok.fresh z
  have hk:∀b u,b≠P->s.heap.get? b=some u->(h'.push (W.kla_obj "<lambda>" (X.env.qual++ "<lambda>") params body scope clos ((X.mg "__name__").getD .none) c' ctv)).get? b=some u:=fun b u nb eb=>Heap.get?_push_of_some _ (hx b u nb eb)
  have hok1:bX X.prog X.w (upd H P (eZ P (c'::S))) (h'.push (W.kla_obj "<lambda>" (X.env.qual++ "<lambda>") params body scope clos ((X.mg "__name__").getD .none) c' ctv)):=
   I.hok.write (x:=P) (e:=P) (by rw[hP];trivial) (.inl rfl) hk ⟨_,Heap.get?_push_of_some _ htb⟩ (a0N (Heap.get?_push_of_some _ htb) (a54 t) fun pos cv z=>by
    rw[Array.toList_append]at z
    rcases a1Z t z with z|z
    ·obtain⟨d,hd,r⟩:=tc pos cv z
     exact⟨d,List.mem_cons_of_mem _ hd,r⟩
    ·exact⟨c',List.mem_cons_self,z⟩)
  have n1:upd H P (eZ P (c'::S)) c'=none:=by rw[aG cP];exact fr _ hge
  have hok2:=a2n hok1 n1 goc'
  have n2:upd (upd H P (eZ P (c'::S))) c' (Fz oc) h'.objs.size=none:=by rw[aG ac,aG aP];exact fr _ (Nat.le_of_lt (Nat.lt_of_le_of_lt hge hlt))
  have hok3:=a2n hok2 n2 (Heap.get?_push_size _ rfl)
  have sm:∀b,b≠P->H b≠none->upd (upd (upd H P (eZ P (c'::S))) c' (Fz oc)) h'.objs.size (Fz (W.kla_obj "<lambda>" (X.env.qual++ "<lambda>") params body scope clos ((X.mg "__name__").getD .none) c' ctv)) b=H b:=fun b z1 z2=>by
   have y1:b≠h'.objs.size:=fun z=>z2 (by rw[z];exact fr _ (Nat.le_of_lt (Nat.lt_of_le_of_lt hge hlt)))
   have y2:b≠c':=fun z=>z2 (by rw[z];exact fr _ hge)
   rw[aG y1,aG y2,aG z1]
  have sv:∀b o,b≠P->H b=some o->upd (upd (upd H P (eZ P (c'::S))) c' (Fz oc)) h'.objs.size (Fz (W.kla_obj "<lambda>" (X.env.qual++ "<lambda>") params body scope clos ((X.mg "__name__").getD .none) c' ctv)) b=some o:=fun b o z1 z2=>by
   rw[sm b z1 (by rw[z2];intro z;cases z)];exact z2
  have J:=I.step (h':=h'.push (W.kla_obj "<lambda>" (X.env.qual++ "<lambda>") params body scope clos ((X.mg "__name__").getD .none) c' ctv)) (g':=s.gens) (t':=tk) (d':=s.drawn) (ch:=[]) (fun _ z=>nomatch z)
   (fun b o _ _ _ eb n=>hk b o (nP b n) eb) (fun b o _ _ _ eb n=>⟨o.slots,hk b o (nP b n) eb⟩)
   (fun b o _ eb n=>by rw[aG (Nat.ne_of_lt (Nat.lt_of_lt_of_le (Heap.lt_size eb) (Nat.le_of_lt (Nat.lt_of_le_of_lt hge hlt)))),aG (Nat.ne_of_lt (Nat.lt_of_lt_of_le (Heap.lt_size eb) hge)),aG (nP b n)];exact n)
   (fun b o _ eb=>by
    by_cases z:b=P
    ·subst z;exact⟨_,Heap.get?_push_of_some _ htb⟩
    ·exact⟨o,hk b o z eb⟩)
   (fun b xs z=>sv b _ (fun y=>by rw[y,hP]at z;cases z) z) (fun b o u z=>sv b _ (fun y=>by rw[y,hP]at z;cases z) z) (fun b ps z=>⟨#[],by rw[sv b _ (fun y=>by rw[y,hP]at z;cases z) z];simp⟩)
   (fun m ⟨o,es,ep,ho,r⟩=>⟨o,es,ep,hk _ o (nP _ I.free) ho,r⟩) hok3 I.bare
  refine⟨.ref h'.objs.size,_,J,rfl,q _ _ (fr _ (Nat.le_of_lt (Nat.lt_of_le_of_lt hge hlt))) (fun b o z1 z2=>sv b o z1 z2) ⟨c'::S,?_,fun d hd=> ?_⟩ ⟨_,c',ctv,oc,aJ,?_,vs,tq,doc,dq⟩⟩
  ·rw[aG (Ne.symm aP),aG (Ne.symm cP),aJ]
  ·rcases List.mem_cons.mp hd with rfl|hd
   ·exact⟨oc,by rw[aG (Ne.symm ac),aJ],vs,tq,doc,dq⟩
   ·obtain⟨o,e1,e2⟩:=hS d hd
    exact⟨o,sv d _ (fun y=>by rw[y,hP]at e1;cases e1) e1,e2⟩
  ·rw[aG (Ne.symm ac),aJ]
 |some cv=>
  obtain⟨d,hd,rfl⟩:=tc _ _ hf
  obtain⟨od,e1,e2⟩:=hS d hd
  refine W.kla_makeFunctionHit (mg:=X.mg) hcl I.ok.glob hg hc C e t hf hb fun ctv h' tk hk hsz=> ?_
  have fr:H h'.objs.size=none:=I.hok.fresh hsz
  have sv:∀b o,H b=some o->upd H h'.objs.size (Fz (W.kla_obj "<lambda>" (X.env.qual++ "<lambda>") params body scope clos ((X.mg "__name__").getD .none) d ctv)) b=some o:=fun b o z=>by
   rw[aG (bE z fr)];exact z
  refine⟨.ref h'.objs.size,_,I.laid (a:=h'.objs.size) (o:=Fz (W.kla_obj "<lambda>" (X.env.qual++ "<lambda>") params body scope clos ((X.mg "__name__").getD .none) d ctv)) (fun b o eb=>Heap.get?_push_of_some _ (hk b o eb)) hsz (yC (Heap.get?_push_size _ rfl)),rfl,
   q _ _ fr (fun b o _ z=>sv b o z) ⟨S,sv _ _ hP,fun d' hd'=> ?_⟩ ⟨_,d,ctv,od,aJ,sv _ _ e1,e2⟩⟩
  obtain⟨o,e3,e4⟩:=hS d' hd'
  exact⟨o,sv _ _ e3,e4⟩
end
abbrev dY:=Addr->Option Obj
noncomputable def cU (f:dY) (H:Hp):Hp:=fun b=>match f b with
 |some o=>some (Fz o)
 |none=>H b
noncomputable def dF (f:dY) (H:Hp):Hp:=fun b=>match f b with
 |some _=>none
 |none=>H b
theorem kU{f:dY}{o:Obj}(e:f b=some o):cU f H b=some (Fz o):=by unfold cU;rw[e]
theorem cZ{f:dY}(e:f b=none):cU f H b=H b:=by unfold cU;rw[e]
theorem jK{f:dY}{o:Obj}(e:f b=some o):dF f H b=none:=by unfold dF;rw[e]
theorem dG{f:dY}(e:f b=none):dF f H b=H b:=by unfold dF;rw[e]
theorem wU{f:dY}(h:∀b o,f b=some o->H b=none):dF f (cU f H)=H:=by
 funext b
 cases e:f b with
 |none=>rw[dG e,cZ e]
 |some o=>rw[jK e,h b o e]
section
variable{f:dY}{fs:List Addr}
theorem a0i(x:bX P w H h)(hf:∀b o,f b=some o->H b=none/\h.get? b=some o):bX P w (cU f H) h:=fun b u q=>by
 have keep:∀c v,H c=some v->cU f H c=some v:=fun c v z=>by
  cases e:f c with
  |none=>rw[cZ e];exact z
  |some o=>rw[(hf c o e).1]at z;cases z
 cases e:f b with
 |none=>
  rw[cZ e]at q
  exact(x b u q).stay (fun _ _ _ z=>z) (fun c z=>keep c _ z) fun c xs z=>keep c _ z
 |some o=>
  rw[kU e]at q
  cases q
  exact yC (hf b o e).2
theorem a3b(x:bX P w H h)(hf:∀b o,f b=some o->H b=some (Fz o)):bX P w (dF f H) h:=fun b u q=>by
 cases e:f b with
 |some o=>rw[jK e]at q;cases q
 |none=>
  rw[dG e]at q
  refine(x b u q).stay (fun _ _ _ z=>z) (fun c z=> ?_) fun c xs z=> ?_
  ·cases e2:f c with
   |none=>rw[dG e2];exact z
   |some o=>rw[hf c o e2]at z;cases z
  ·cases e2:f c with
   |none=>rw[dG e2];exact z
   |some o=>rw[hf c o e2]at z;cases z
theorem a6q(hf:∀b o,f b=some o->H b=none/\h.get? b=some o)(u:Un fs [] (cU f H) H' h h')(hok:bX P w H' h'):Un fs [] H (dF f H') h h'/\bX P w (dF f H') h':=by
 have at':∀b o,f b=some o->H' b=some (Fz o):=fun b o e=>u.frzs b o _ (kU e)
 have nf:∀b v,H b=some v->f b=none:=fun b v z=>by
  cases e:f b with
  |none=>rfl
  |some o=>rw[(hf b o e).1]at z;cases z
 refine⟨⟨fun b o e n hb hx=> ?_,fun b o e n hb hx=> ?_,fun b o e n hx=> ?_,fun b o e hx=>u.there b o e hx,fun b xs z=> ?_,fun b o v z=> ?_,fun b ps z=> ?_⟩,a3b hok at'⟩
 ·cases e2:f b with
  |none=>exact u.keep b o e (by rw[cZ e2];exact n) hb hx
  |some o2=>
   have:=(hf b o2 e2).2
   rw[e]at this
   cases this
   exact jZ hok (at' b o e2)
 ·cases e2:f b with
  |none=>exact u.slot b o e (by rw[cZ e2];exact n) hb hx
  |some o2=>
   have:=(hf b o2 e2).2
   rw[e]at this
   cases this
   exact⟨o.slots,jZ hok (at' b o e2)⟩
 ·cases e2:f b with
  |none=>rw[dG e2];exact u.free b o e (by rw[cZ e2];exact n) hx
  |some o2=>exact jK e2
 ·rw[dG (nf b _ z)];exact u.tups b xs (by rw[cZ (nf b _ z)];exact z)
 ·rw[dG (nf b _ z)];exact u.frzs b o v (by rw[cZ (nf b _ z)];exact z)
 ·rw[dG (nf b _ z)];exact u.tbls b ps (by rw[cZ (nf b _ z)];exact z)
theorem a46(hf:∀b o,f b=some o->H b=some (Fz o))(hok0:bX P w H h)(hfs:∀b∈fs,H b=none)(u:Un fs [] (dF f H) H' h h')(hok:bX P w H' h'):Un fs [] H (cU f H') h h'/\bX P w (cU f H') h':=by
 have fr:∀b o,f b=some o->H' b=none/\h'.get? b=some o:=fun b o e=>by
  have g:=jZ hok0 (hf b o e)
  exact⟨u.free b o g (jK e) (by simp),u.keep b o g (jK e) (fun z=>by have:=hfs b z;rw[hf b o e]at this;cases this) (by simp)⟩
 have nf:∀b,H b=none->f b=none:=fun b z=>by
  cases e:f b with
  |none=>rfl
  |some o=>rw[hf b o e]at z;cases z
 have nz:∀b v,H b=some v->(∀o,v≠Fz o)->f b=none:=fun b v z ne=>by
  cases e:f b with
  |none=>rfl
  |some o=>rw[hf b o e]at z;exact absurd (Option.some.inj z).symm (ne o)
 refine⟨⟨fun b o e n hb hx=>u.keep b o e (by rw[dG (nf b n)];exact n) hb hx,fun b o e n hb hx=>u.slot b o e (by rw[dG (nf b n)];exact n) hb hx,fun b o e n hx=> ?_,fun b o e hx=>u.there b o e hx,fun b xs z=> ?_,fun b o v z=> ?_,fun b ps z=> ?_⟩,a0i hok fr⟩
 ·rw[cZ (nf b n)];exact u.free b o e (by rw[dG (nf b n)];exact n) hx
 ·have e:=nz b _ z (fun o q=>by cases q)
  rw[cZ e];exact u.tups b xs (by rw[dG e];exact z)
 ·cases e:f b with
  |none=>rw[cZ e];exact u.frzs b o v (by rw[dG e];exact z)
  |some o2=>rw[kU e,<- hf b o2 e];exact z
 ·have e:=nz b _ z (fun o q=>by cases q)
  rw[cZ e];exact u.tbls b ps (by rw[dG e];exact z)
end
structure jD(X:Cx)(σ:St)(H:Hp)(f:dY):Prop where
 free:∀b o,f b=some o->H b=none
 cell:∀x c,X.env.cells.lookup x=some c->∃o v,f c=some o/\o.data= .cell v
 val:∀(i:Nat) x v,X.N[i]?=some x->σ[i]?=some (some v)->X.env.scope.names.lookup x=some .cell->∃c o u,X.env.cells.lookup x=some c/\f c=some o/\o.data= .cell (some u)/\aZ v u
 inj:∀x y c,X.env.cells.lookup x=some c->X.env.cells.lookup y=some c->x=y
theorem a7h(I:aD X pins σ H s)(hfn:∀x,X.fn x=true):∃f:dY,jD X σ H f/\(∀b o,f b=some o->H b=none/\s.heap.get? b=some o/\X.base.get? b=none/\b∉fN X.stack):=by
 classical
 let f:dY:=fun b=>if(∃x,X.env.cells.lookup x=some b) then s.heap.get? b else none
 have fe:∀{b o},f b=some o->(∃x,X.env.cells.lookup x=some b)/\s.heap.get? b=some o:=fun{b o} e=>by
  by_cases z:∃x,X.env.cells.lookup x=some b
  ·exact⟨z,by rw[show f b=s.heap.get? b from if_pos z]at e;exact e⟩
  ·rw[show f b=none from if_neg z]at e;cases e
 have ff:∀{x c},X.env.cells.lookup x=some c->f c=s.heap.get? c:=fun{x c} e=>if_pos ⟨x,e⟩
 refine⟨f,⟨fun b o e=> ?_,fun x c e=> ?_,fun i x v e1 e2 e3=> ?_,I.ok.inj⟩,fun b o e=> ?_⟩
 ·obtain⟨⟨x,z⟩,_⟩:=fe e
  exact I.freeC x b z
 ·obtain⟨v,o,ho,hd⟩:=I.cell x c e
  exact⟨o,v,by rw[ff e];exact ho,hd⟩
 ·obtain⟨m,_,hl⟩:=I.loc
  obtain⟨u,r,l⟩:=hl i x v e1 e2 (.inr (.inl e3))
  rcases l with⟨k,_⟩|⟨_,c,ec,o,ho,hd⟩
  ·have k':X.env.scope.names.lookup x=some .local:=k
   rw[e3]at k';cases k'
  ·exact⟨c,o,u,ec,by rw[ff ec];exact ho,hd,r⟩
 ·obtain⟨⟨x,z⟩,g⟩:=fe e
  refine⟨I.freeC x b z,g,?_,fun hb=> ?_⟩
  ·exact Heap.get?_none_of_le (Nat.le_trans I.ok.bsz (I.ok.cab x b (hfn x) z))
  ·rcases List.mem_cons.mp (I.stkSub b hb)with e2|hb
   ·exact I.cne x b z e2
   ·obtain⟨_,ob,ho,_⟩:=I.ok.funs.mem hb
    exact absurd (Nat.lt_of_lt_of_le (Heap.lt_size ho) (I.ok.cab x b (hfn x) z)) (Nat.lt_irrefl _)
theorem a3O{k:Nat}{fd:FuncData}{Q:VK}(hfn:∀x,X.fn x=true)(F:eY X.prog X.w X.K X.mg X.base aF k fa fd ps sp)(hr:bT k X.A)(hb:hZ X.K fd ps [])
 (I:aD X pins σ H s)(r:aX vs us)(h:∀f,jD X σ H f->sp vs (cU f H) (fun v H'=>Q v (dF f H')) E0):wpAny (model X.prog X.w) X.A (call (.ref fa) us) (EP X pins σ Q) X.xe s:=by
 obtain⟨f,L,hf⟩:=a7h I hfn
 have q:=h f L
 have hl:(us++ []).length=ps.length:=by rw[List.append_nil,<- r.length];exact F.len _ _ _ _ q
 have e0:kM X.prog X.w X.K X.mg X.base X.A X.stack s (cU f H):=by
  have e:=I.env0
  refine⟨e.frames,e.mod,fun b o z=>⟨(e.bs b o z).1,?_⟩,e.bsz,e.funs,fun b z=> ?_,a0i e.hok fun b o z=>⟨(hf b o z).1,(hf b o z).2.1⟩,e.bare⟩
  ·cases q2:f b with
   |none=>rw[cZ q2];exact(e.bs b o z).2
   |some ob=>rw[(hf b ob q2).2.2.1]at z;cases z
  ·cases q2:f b with
   |none=>rw[cZ q2];exact e.frf b z
   |some ob=>exact absurd z (hf b ob q2).2.2.2
 have bd:=hb s us I.kIn hl
 rw[List.append_nil]at bd
 refine wpAny_call (codeAny_mono (F.run X.A X.stack s (cU f H) ⟨us,[]⟩ us vs _ E0 hr e0 bd r q) fun r s' hq=> ?_)
 cases r with
 |error e=>exact False.elim hq
 |ok fl=>
  cases fl with
  |ret u=>
   obtain⟨v,H',os,bare,un,hok,rv,qv⟩:=hq
   obtain⟨u1,u2⟩:=a6q (fun b o z=>⟨(hf b o z).1,(hf b o z).2.1⟩) un hok
   exact I.after ⟨v,_,os,bare,u1,u2,rv,qv⟩
  |next=>exact False.elim hq
  |brk=>exact False.elim hq
  |cont=>exact False.elim hq
structure eI(P:Program)(w:World)(K:Fg)(mg:Str->Option Value)(base:Heap)(k:Nat)(fa:Addr)(sp:Sp):Prop where
 fn:∀vs H Q E,sp vs H Q E->∃c d fd sl,H fa=some (Fz ⟨c,d,.func fd,sl⟩)
 run:∀(A:Around) (outer:List Env) (s:Shared) (H:Hp) (us:List Value) (vs:List V) (Q:VK) (E:XK),bT k A->kM P w K mg base A outer s H->aX vs us->sp vs H Q E->
  codeAny (model P w) A (.call (.ref fa) ⟨us,[]⟩) (CR aF outer P w H s Q E) s
theorem eI.mono{k:Nat}(F:eI P w K mg base j fa sp)(h:j<=k):eI P w K mg base k fa sp:=
 ⟨F.fn,fun A outer s H us vs Q E hr=>F.run A outer s H us vs Q E (hr.mono h)⟩
theorem eI.imp{k:Nat}{sp':Sp}(F:eI P w K mg base k fa sp)(h:∀vs H Q E,sp' vs H Q E->sp vs H Q E):eI P w K mg base k fa sp':=
 ⟨fun vs H Q E z=>F.fn vs H Q E (h _ _ _ _ z),fun A outer s H us vs Q E hr e0 r z=>F.run A outer s H us vs Q E hr e0 r (h _ _ _ _ z)⟩
def a6o(P:Program)(w:World)(K:Fg)(mg:Str->Option Value)(base:Heap)(k:Nat)(i:Nat)(t:TA):TE:=fun σ H Q=>∃fa sp,σ[i]?=some (some (.ref fa))/\eI P w K mg base k fa sp/\t σ H fun vs H1=>sp vs H1 Q E0
section
variable{k:Nat}{p pos:Pos}{t:TA}
theorem a7W(i:Nat)(hr:bT k X.A)(ha:PA X (e::es) t)(hN:X.N[i]?=some x:=by rfl)(hv:vA X.env.scope x:=by first|exact Or.inl rfl|exact Or.inr (Or.inl rfl)|exact Or.inr (Or.inr rfl))(hd:(x==("__debug__":Str))=false:=by decide)
 (hcd:(x==("__classdict__":Str))=false:=by decide)(he:starEach (e::es) X.env=(false,eval e X.env)::starEach es X.env:=by rfl)(hpl:(backTo pos (starEach es X.env)).any (·.1)=false:=by rfl):
 PE X (.Call (.Name x p) (e::es) [] pos) (a6o X.prog X.w X.K X.mg X.base k i t):=by
 intro pins s σ H Q I h
 obtain⟨fa,sp,e1,F,h⟩:=h
 refine wpAny_Call_Name_kw (aT (a1n hN hv hd hcd pins s σ H (fun v H1=>v= .ref fa/\H1=H) I ⟨_,e1,rfl,rfl⟩) ?_)
 rintro u s1 ⟨v,H1,I1,rv,q⟩
 obtain⟨rfl,rfl⟩:=q
 obtain rfl:u=Value.ref fa:=rv
 show wpAny _ _ (callWith pos (.ref fa) [] (backTo pos (starEach (e::es) X.env)) []) _ _ _
 rw[he]
 refine W.callWith_of (P:=fun h=>∃c d fd sl,h.get? fa=some ⟨c,d,.func fd,sl⟩) (by show((false||(backTo pos (starEach es X.env)).any (·.1))||false)=false;rw[hpl];rfl)
  (fun h ⟨c,d,fd,sl,z⟩=>⟨.frame,.inl rfl,(W.Looks.ld (part:=none) z).andThen .now⟩) (Calls.evalArgs_plain ?_)
 have ha':=ha pos pins s1 σ H1 _ I1 h
 rw[he]at ha'
 refine aT ha' ?_
 rintro us s2 ⟨vs,H2,I2,r,q2⟩
 obtain⟨c,d,fd,sl,z⟩:=F.fn _ _ _ _ q2
 refine⟨⟨c,d,fd,sl,jZ I2.hok z⟩,?_⟩
 refine wpAny_call (codeAny_mono (F.run X.A X.stack s2 H2 us vs Q E0 hr I2.env0 r q2) fun r s' hq=> ?_)
 cases r with
 |error e=>exact False.elim hq
 |ok fl=>
  cases fl with
  |ret u=>exact I2.after hq
  |next=>exact False.elim hq
  |brk=>exact False.elim hq
  |cont=>exact False.elim hq
end
theorem a25{α:Type}{x:Str}{u:α}:∀{l:List (Str×α)},(l.map (·.1)).Nodup->(x,u)∈l->l.lookup x=some u
 |(y,v)::r,nd,h=>by
  rw[List.map_cons,List.nodup_cons]at nd
  rw[List.lookup_cons]
  rcases List.mem_cons.mp h with e|h2
  ·cases e;rw[beq_self_eq_true]
  ·have:(x==y)=false:=by
    cases z:x==y with
    |false=>rfl
    |true=>
     have:x=y:=by simpa using z
     subst this
     exact absurd (show x∈r.map (·.1) from List.mem_map.mpr ⟨(x,u),h2,rfl⟩) nd.1
   rw[this]
   exact a25 nd.2 h2
theorem a4h(nd:ps.Nodup)(hl:us.length=ps.length)(h1:ps[i]?=some x)(h2:us[i]?=some u):(ps.zip us).reverse.lookup x=some u:=by
 refine a25 ?_ ?_
 ·rw[List.map_reverse]
  refine List.pairwise_reverse.mpr ?_
  rw[List.map_fst_zip (by omega)]
  exact nd.imp Ne.symm
 ·rw[List.mem_reverse]
  have:(ps.zip us)[i]?=some (x,u):=by rw[List.getElem?_zip_eq_some];exact⟨h1,h2⟩
  exact List.mem_of_getElem? this
noncomputable def qW (P:Program) (w:World) (K:Fg) (mg:Str->Option Value) (base:Heap) (N:List Str) (q:Str) (scope:Scope) (fa:Addr) (cd:Value) (clos:List (Str×Addr)) (A:Around) (outer:List Env) (s:Shared) (H:Hp):Cx where
 prog:=P
 w:=w
 K:=K
 mg:=mg
 base:=base
 A:=A.deeper (W.envX q scope s.heap.objs.size fa cd clos)
 N:=N
 s₀:=s
 H₀:=H
 env:=W.envX q scope s.heap.objs.size fa cd clos
 outer:=outer
 stack:=W.envX q scope s.heap.objs.size fa cd clos::outer
 ex:=[]
 calm:=true
 fn:=fun _=>false
 pn:=[]
 xe:=fun _ _=>False
def nA(fa:Addr)(f:dY)(q:Str)(params:Arguments)(body:Expr)(scope:Scope)(clos:List (Str×Addr))(n:Nat)(spB:List V->Hp->VK->Prop):Sp:=fun vs H Q _=>
 vs.length=n/\fS q params body scope clos H fa/\(∀b o,f b=some o->H b=some (Fz o))/\spB vs (dF f H) fun v H'=>(∀b o,f b=some o->H' b=none)->Q v (cU f H')
theorem a4g{H₁:Hp}{f:dY}{cv:List V}{k:Nat}{spB:List V->Hp->VK->Prop}(L:jD X σ H₁ f)
 (hcell:∀x,X.env.scope.names.lookup x=some .cell->∃c,X.env.cells.lookup x=some c)
 (hcv:cp.map (fun p=>σ[p.1]?)=cv.map fun v=>some (some v))
 (hcp:∀p∈cp,X.N[p.1]?=some p.2/\X.env.scope.names.lookup p.2=some .cell/\scope.names.lookup p.2=some .free)
 (free:∀y∈scope.names,y.2= .free->X.env.scope.names.lookup y.1=some .cell)
 (kind:scope.kind= .function)(co:scope.isCoroutine=false)(gen:scope.isGenerator=false)(nocell:∀y∈scope.names,y.2≠ .cell)(par:∀x∈ps,scope.names.lookup x=some .local)(nd:(ps++ cp.map (·.2)).Nodup)
 (hb:∀(pm ctv:Value) (c:Addr) (clos:List (Str×Addr)) (us:List Value),us.length=ps.length->bindArgs (W.kla_fn "<lambda>" q params body scope clos pm (.ref c) ctv) ⟨us,[]⟩=pure (ps.zip us))
 (hbody:∀(cd:Value) (A:Around) (outer:List Env) (s:Shared) (H:Hp) (vs:List V) (Q:VK),bT k (A.deeper (W.envX q scope s.heap.objs.size fa cd (fH X.env.cells scope.names [])))->spB vs H Q->
  ∃t,PE (qW X.prog X.w X.K X.mg X.base (ps++ cp.map (·.2)) q scope fa cd (fH X.env.cells scope.names []) A outer s H) body t/\t ((vs++ cv).map some) H Q):
 eI X.prog X.w X.K X.mg X.base (k+ 1) fa (nA fa f q params body scope (fH X.env.cells scope.names []) ps.length spB):=by
 have sub:=xC (cells:=X.env.cells) (names:=scope.names) (acc:=[]) (fun y hy e=>hcell _ (free y hy e)) (fun x c e=>by cases e)
 refine⟨fun vs H Q E ⟨_,⟨pm,c,ctv,o,e1,_⟩,_⟩=>⟨_,_,_,_,e1⟩,fun A outer s H us vs Q E hr e0 r ⟨hl,⟨pm,c,ctv,o,e1,e2,ws,tq,e3,e4⟩,hf,hsp⟩=> ?_⟩
 have hus:us.length=ps.length:=by rw[<- r.length];exact hl
 have hcd:s.heap.CodeRec (.ref c) q:=⟨c,o,ws,tq,rfl,jZ e0.hok e2,e3,e4⟩
 have lim:s.heap.NoLimit:=e0.mod.nolimit.keeps fun b o e=>(e0.bs b o e).1
 refine W.kla_callFunE hr.depth (jZ e0.hok e1) rfl co gen rfl hcd ?_
 rw[hb pm ctv c _ us hus]
 refine wpAny_pure (wpAny_newFunctionEnv nocell (fun y hy=>par y.1 (List.of_mem_zip hy).1) (fun h₁ hns hsb=>⟨lim.fresh _ hsb,?_⟩) kind)
 show codeAny _ _ (.expr body (W.envX q scope s.heap.objs.size fa (.ref c) (fH X.env.cells scope.names []))) _ _
 have hk:∀b o,s.heap.get? b=some o->h₁.get? b=some o:=fun b o e=>hsb.extBut b o (Nat.ne_of_lt (Heap.lt_size e)) (Heap.get?_push_of_some _ e)
 obtain⟨t,ht,hq⟩:=hbody (.ref c) A outer s (dF f H) vs _ (hr.deeper _) hsp
 have hok':bX X.prog X.w (dF f H) s.heap:=a3b e0.hok hf
 have hl2:(vs++ cv).length=(ps++ cp.map (·.2)).length:=by
  rw[List.length_append,List.length_append,List.length_map,hl]
  have:=congrArg List.length hcv
  rw[List.length_map,List.length_map]at this
  omega
 have cl:∀x c,(fH X.env.cells scope.names []).lookup x=some c->∃o v,f c=some o/\o.data= .cell v/\h₁.get? c=some o:=fun x c e=>by
  obtain⟨o,v,h1,h2⟩:=L.cell x c (sub x c e)
  exact⟨o,v,h1,h2,hk _ _ (jZ e0.hok (hf c o h1))⟩
 have unN:∀b,H b=none->dF f H b=none:=fun b z=>by
  cases e:f b with
  |none=>rw[dG e];exact z
  |some o=>exact jK e
 have I:aD (qW X.prog X.w X.K X.mg X.base (ps++ cp.map (·.2)) q scope fa (.ref c) (fH X.env.cells scope.names []) A outer s (dF f H)) [] ((vs++ cv).map some) (dF f H) {s with heap:=h₁,toks:=s.toks+ (ps.zip us).length}:=by
  have noA:∀b:Addr,b∉(qW X.prog X.w X.K X.mg X.base (ps++ cp.map (·.2)) q scope fa (.ref c) (fH X.env.cells scope.names []) A outer s (dF f H)).ex:=fun b z=>absurd (show b∈([]:List Addr) from z) (by simp)
  refine⟨⟨e0.mod,kind,rfl,rfl,Nat.le_refl _,fun y z c h1 h2=>L.inj y z c (sub _ _ h1) (sub _ _ h2),fun y hy=> ?_,(fun y c z _=>by cases z),fun _=>hr.hd,Around.frames_deeper e0.frames,.inr ⟨rfl,rfl⟩,fun b z=>absurd z (noA b),fun b o z=>⟨(e0.bs b o z).1,unN b (e0.bs b o z).2⟩,e0.bsz,fun b _ _=>noA b,fun b z=>absurd z (noA b),e0.funs,fun b z=>unN b (e0.frf b z)⟩,
   rfl,e0.bare,Un.kept hk,⟨_,hns,fun i y v h1 h2 h3=> ?_⟩,fun y c h=> ?_,hok'.fresh (Nat.le_refl _),fun y c h=> ?_,fun p hp=>absurd (show p∈([]:List (Addr×Obj)) from hp) (by simp),hok'.kept hk,by rw[List.length_map];exact hl2⟩
  ·have hy':scope.names.lookup y=some .cell\/ scope.names.lookup y=some .free:=hy
   rcases hy' with hy'|hy'
   ·exact absurd rfl (nocell _ (PySem.mem_of_lookup hy'))
   ·exact rJ (PySem.mem_of_lookup hy')
  ·rw[List.getElem?_map]at h2
   have h2':(vs++ cv)[i]?=some v:=by
    cases z:(vs++ cv)[i]? with
    |none=>rw[z]at h2;cases h2
    |some v'=>rw[z]at h2;cases h2;rfl
   by_cases hi:i<ps.length
   ·have h1':ps[i]?=some y:=by
     have:(ps++ cp.map (·.2))[i]?=some y:=h1
     rw[List.getElem?_append_left hi]at this
     exact this
    rw[List.getElem?_append_left (by omega)]at h2'
    obtain⟨u,hu,ru⟩:=r.get h2'
    exact⟨u,ru,.inl ⟨par y (List.mem_of_getElem? h1'),a4h (List.nodup_append.mp nd).1 hus h1' hu⟩⟩
   ·have h1':(cp.map (·.2))[i- ps.length]?=some y:=by
     have:(ps++ cp.map (·.2))[i]?=some y:=h1
     rw[List.getElem?_append_right (by omega)]at this
     exact this
    rw[List.getElem?_append_right (by omega),hl]at h2'
    rw[List.getElem?_map]at h1'
    cases hp:cp[i- ps.length]? with
    |none=>rw[hp]at h1';cases h1'
    |some p=>
     rw[hp]at h1'
     cases h1'
     have h4:σ[p.1]?=some (some v):=by
      have:=congrArg (fun l=>l[i- ps.length]?) hcv
      simp only[List.getElem?_map,hp,h2',Option.map_some]at this
      exact Option.some.inj this
     obtain⟨g1,g2,g3⟩:=hcp p (List.mem_of_getElem? hp)
     obtain⟨c',o',u,k1,k2,k3,k4⟩:=L.val p.1 p.2 v g1 h4 g2
     obtain⟨c2,k5⟩:=rJ (cells:=X.env.cells) (acc:=[]) (PySem.mem_of_lookup g3)
     have k6:=sub _ _ k5
     rw[k1]at k6
     cases k6
     exact⟨u,k4,.inr ⟨.inr g3,c',k5,o',hk _ _ (jZ e0.hok (hf c' o' k2)),k3⟩⟩
  ·obtain⟨o,v,_,z1,z2⟩:=cl y c h
   exact⟨v,o,z2,z1⟩
  ·obtain⟨o,v,z,_⟩:=cl y c h
   exact jK z
 refine W.kla_codeExpr (wpAny_mono (ht [] _ _ _ _ I hq) (?_) fun e s' hs=>False.elim hs)
 rintro u s' ⟨v,H',J,rv,qv⟩
 obtain⟨u1,u2⟩:=a46 hf e0.hok e0.frf (show Un (fN outer) [] (dF f H) H' s.heap s'.heap from J.base) J.hok
 exact⟨v,cU f H',J.os,J.bare,u1,u2,rv,qv fun b o e=>J.base.free b o (jZ e0.hok (hf b o e)) (jK e) (by simp[qW])⟩
abbrev rN(tabs:List (Addr×Addr))(H:Hp):Prop:=∀z∈tabs,H z.2=some (eZ z.2 [])
abbrev qQ(tabs:List (Addr×Addr))(H:Hp):Prop:=∀z∈tabs,∃S,H z.2=some (eZ z.2 S)
theorem a4E{mb:Str->Option Value}{k:Nat}{fd:FuncData}{s₁:Shared}{vs:List Value}{ns:List Int}{tabs:List (Addr×Addr)}
 (KX:K.In s₁.heap)(hns:s₁.heap.Ns mainGlobals mg)(hb:s₁.heap.Ns builtinsNs mb)(hbb:∀x:Str,x≠ "__name__" ->mb x=bootBuiltins x)(hlim:s₁.heap.NoLimit)(hg:s₁.gens= #[])
 (ha:s₁.heap.get? a=some {cls:=.type "list",data:=.seq vs.toArray})(hi:IntsAre vs ns)(hl:ns.length<=sizeLine)(hr:bT k callerA)
 (hT:∀z∈tabs,W.CodeHd s₁.heap z.1 z.2/\s₁.heap.get? z.2=some (W.tabObj #[])/\K.lookup z.2=none)
 (hbm:∃bm ob,mg "__builtins__"=some (.ref bm)/\bm≠builtinsNs/\s₁.heap.get? bm=some ob/\ob.cls= .type "module" /\ob.dict=some builtinsNs/\ob.data= .plain)
 (F:∀base:Heap,K.In base->base.Ns mainGlobals mg->(∀z∈tabs,jA mg base z.1 z.2)->eY P w K mg base CX k fa fd [x] sp)(hbind:∀(s:Shared) (u:Value),BindsTo s fd ⟨[u],[]⟩ [(x,u)])
 (hsp:∀H:Hp,rN tabs H->aN K H a (ns.map V.int)->sp [.ref a] H (fun v H'=>v= .bl true/\qQ tabs H') fun _ _ _=>False)
 (hCX:∀H e s',CX [] H s₁ (fun _ _ _=>False) e s'->False):
 codeAny (model P w) callerA (.call (.ref fa) ⟨[.ref a],[]⟩) (fun r s'=>r= .ok (.ret (.bool true))/\OldK s₁.heap s'.heap/\s'.os=s₁.os/\AllBare s'.gens) s₁:=by
 have rv:=a1V hi
 have lenV:=hi.length
 have neT:∀z∈tabs,z.2≠a:=fun z hz e=>by
  have e1:=(hT z hz).2.1
  rw[e,ha]at e1
  cases e1
 have core:∀H:Hp,rN tabs H->(∀b,H b=none\/ (b=a/\K.lookup a=none/\∃o xs,H b=some (.frz o (.lst xs)))\/ ∃z∈tabs,b=z.2)->aN K H a (ns.map V.int)->bX P w H s₁.heap->
  codeAny (model P w) callerA (.call (.ref fa) ⟨[.ref a],[]⟩) (fun r s'=>r= .ok (.ret (.bool true))/\OldK s₁.heap s'.heap/\s'.os=s₁.os/\AllBare s'.gens) s₁:=by
  intro H hTb hO hS hok
  have base_of:∀{b:Addr} {o:Obj},s₁.heap.get? b=some o->H b=none->(kE s₁.heap H).get? b=some o:=fun e n=>a6I e n
  have free:∀{b:Addr} {o:Obj},s₁.heap.get? b=some o->o≠{cls:=.type "list",data:=.seq vs.toArray} ->o≠W.tabObj #[] ->H b=none:=fun{b o} e n1 n2=>by
   rcases hO b with z|⟨rfl,_,_⟩|⟨z,hz,rfl⟩
   ·exact z
   ·rw[ha]at e;exact absurd (Option.some.inj e).symm n1
   ·rw[(hT z hz).2.1]at e;exact absurd (Option.some.inj e).symm n2
  have noA:∀{b:Addr} {o:Obj} {es:Array DictEntry} {ep:Nat},s₁.heap.get? b=some o->o.data= .dict es ep->H b=none:=fun{b o es ep} e d=>
   free e (fun z=>by rw[z]at d;cases d) (fun z=>by rw[z]at d;cases d)
  have nsK:∀{b:Addr} {m:Str->Option Value},s₁.heap.Ns b m->(kE s₁.heap H).Ns b m:=fun{b m} ⟨o,es,ep,e,d,r⟩=>⟨o,es,ep,base_of e (noA e d),d,r⟩
  have hKb:K.In (kE s₁.heap H):=fun b o e=>base_of (KX b o e) (by
   rcases hO b with z|⟨rfl,z,_⟩|⟨z,hz,rfl⟩
   ·exact z
   ·rw[z]at e;cases e
   ·rw[(hT z hz).2.2]at e;cases e)
  have hM:Mod K mg (kE s₁.heap H):=⟨hKb,nsK hns,⟨mb,nsK hb,hbb⟩,let ⟨mc,h1,h2⟩:=hlim;⟨mc,nsK h1,h2⟩⟩
  have e0:kM P w K mg (kE s₁.heap H) callerA [] s₁ H:=⟨rfl,hM,fun b o e=>a4Y e,Nat.le_of_eq (a8i _ _),trivial,fun b hb=>absurd (show b∈([]:List Addr) from hb) (by simp),hok,.of_eq hg⟩
  have hMk:∀z∈tabs,jA mg (kE s₁.heap H) z.1 z.2:=fun z hz=>by
   obtain⟨⟨o,ws,file,tf,flags,tg,inF,text,tt,e1,e2,r⟩,e3,_⟩:=hT z hz
   obtain⟨bm,ob,b1,b2,b3,b4,b5,b6⟩:=hbm
   refine⟨⟨o,ws,file,tf,flags,tg,inF,text,tt,base_of e1 (free e1 (fun q=>by rw[q]at e2;exact absurd (Value.type.inj e2) (by decide)) (fun q=>by rw[q]at e2;cases e2)),e2,r⟩,bm,ob,b1,b2,fun q=> ?_,fun q=> ?_,base_of b3 (free b3 (fun q=>by rw[q]at b4;exact absurd (Value.type.inj b4) (by decide)) (fun q=>by rw[q]at b4;cases b4)),b4,b5,b6⟩
   ·obtain⟨o',es,ep,e',d',_⟩:=hns
    rw[q,e']at b3;cases b3;rw[d']at b6;cases b6
   ·rw[q,e3]at b3;cases b3;cases b4
  refine codeAny_mono ((F _ hKb (nsK hns) hMk).run callerA [] s₁ H ⟨[.ref a],[]⟩ [.ref a] [.ref a] _ _ hr e0 (hbind s₁ (.ref a)) (.cons rfl .nil) (hsp H hTb hS)) fun r s' h=> ?_
  cases r with
  |error e=>exact(hCX H e s' h).elim
  |ok fl=>
   cases fl with
   |next=>exact False.elim h
   |brk=>exact False.elim h
   |cont=>exact False.elim h
   |ret u=>
    obtain⟨v,H',os,bare,un,hok',r',q⟩:=h
    obtain⟨q',hT'⟩:v= .bl true/\qQ tabs H':=q
    subst q'
    obtain rfl:u=Value.bool true:=r'
    refine⟨rfl,⟨fun b o e=> ?_,fun b o e=>un.there b o e (by simp)⟩,os,bare⟩
    rcases hO b with z|⟨rfl,_,ob,xs,z⟩|⟨z,hz,rfl⟩
    ·exact .inl (un.keep b o e z (by intro z;exact absurd (show b∈([]:List Addr) from z) (by simp)) (by simp))
    ·have z2:=un.frzs b ob _ z
     obtain⟨e1,_⟩:=hok b _ z
     obtain⟨e2,_⟩:=hok' b _ z2
     rw[e]at e1;cases e1
     exact .inl e2
    ·obtain⟨S4,z4⟩:=hT' z hz
     obtain⟨⟨ps,e4,_⟩,_⟩:=hok' z.2 _ z4
     have e3:=(hT z hz).2.1
     rw[e3]at e
     cases e
     exact .inr (.inl ⟨((hT z hz).1.tab e3).isCodeTable,rfl,#[],ps,rfl,by rw[e4,Array.empty_append]⟩)
 have hTok:∀(H:Hp) (z:Addr×Addr),z∈tabs->cO P w H s₁.heap z.2 (eZ z.2 []):=fun H z hz=>a0N (hT z hz).2.1 trivial fun pos cv e=>by cases e
 classical
 let Ht:Hp:=fun b=>if b∈tabs.map (·.2) then some (eZ b []) else none
 have hHt:rN tabs Ht:=fun z hz=>if_pos (List.mem_map_of_mem hz)
 have ofHt:∀b u,Ht b=some u->∃z∈tabs,b=z.2/\u=eZ z.2 []:=fun b u e=>by
  by_cases hb:b∈tabs.map (·.2)
  ·have e':=(if_pos hb).symm.trans e
   obtain⟨z,hz,rfl⟩:=List.mem_map.mp hb
   exact⟨z,hz,rfl,(Option.some.inj e').symm⟩
  ·have e':=(if_neg hb).symm.trans e
   cases e'
 cases hk:K.lookup a with
 |some o=>
  have e:=KX a o hk
  rw[ha]at e
  cases e
  refine core Ht hHt (fun b=> ?_) (.inr ⟨_,vs.toArray,_,hk,rfl,rfl,rfl,by rw[List.size_toArray,lenV];exact hl,by simpa using rv⟩) (fun b u z=> ?_)
  ·cases q:Ht b with
   |none=>exact .inl rfl
   |some u=>obtain⟨z,hz,e,_⟩:=ofHt b u q;exact .inr (.inr ⟨z,hz,e⟩)
  ·obtain⟨y,hy,rfl,rfl⟩:=ofHt b u z
   exact hTok _ y hy
 |none=>
  refine core (fun b=>if b=a then some (.frz {cls:=.type "list",data:=.seq vs.toArray} (.lst (ns.map V.int))) else Ht b) (fun z hz=> ?_) (fun b=> ?_) (.inl (.inr ⟨{cls:=.type "list",data:=.seq vs.toArray},if_pos rfl⟩)) (fun b u z=> ?_)
  ·exact(if_neg (neT z hz)).trans (hHt z hz)
  ·by_cases hb:b=a
   ·exact .inr (.inl ⟨hb,hk,_,_,if_pos hb⟩)
   ·cases q:Ht b with
    |none=>exact .inl (if_neg hb)
    |some u=>obtain⟨z,hz,e,_⟩:=ofHt b u q;exact .inr (.inr ⟨z,hz,e⟩)
  ·by_cases hb:b=a
   ·have z':=(if_pos hb).symm.trans z
    cases z'
    subst hb
    exact⟨ha,by rw[List.length_map];exact hl,vs,_,rv,ha⟩
   ·have z':=(if_neg hb).symm.trans z
    obtain⟨y,hy,rfl,rfl⟩:=ofHt b u z'
    exact hTok _ y hy
def a5P(P:Program)(w:World)(K:Fg)(mg:Str->Option Value)(base:Heap)(k:Nat)(m:Str)(ta:TE)(t:TA):TE:=fun σ H Q=>ta σ H fun x H1=>∃a C dx fs fa sp,x= .ref a/\H1 a=some (.ins C dx fs)/\cF K C/\cB K C m/\fs.lookup m=some (.ref fa)/\eI P w K mg base k fa sp/\t σ H1 fun vs H2=>sp vs H2 Q E0
section
variable{k:Nat}{p pos:Pos}{o:Expr}{t:TA}
theorem a4R{pl:Sem Bool}(he:PE X o ta)(hr:bT k X.A)(ha:PA X (e::es) t)
 (hst:starEach (e::es) X.env=(false,eval e X.env)::starEach es X.env:=by rfl)(hpl:(backTo pos (starEach es X.env)).any (·.1)=false:=by rfl)
 (ht:eval (.Call (.Attribute o m apos) (e::es) [] pos) X.env=(do
  let ov<- eval o X.env
  standAt apos.atName
  let (f,first)<- holding [ov] (getMethod ov m pl)
  callWith pos f first (backTo pos (starEach (e::es) X.env)) (backToKw pos (keywordEach [] X.env))):=by rfl):
 PE X (.Call (.Attribute o m apos) (e::es) [] pos) (a5P X.prog X.w X.K X.mg X.base k m ta t):=by
 intro pins s σ H Q I h
 refine W.methodCall_KW (pl:=pl) (aT (he pins s σ H _ I h) ?_) ht
 rintro u s1 ⟨x,H1,I1,rx,a,C,dx,fs,fa,sp,ex,ea,c,n,l,F,q⟩
 subst ex
 obtain rfl:u=Value.ref a:=rx
 obtain⟨mA,O,_,_,_,_⟩:=qK I1.hok ea
 obtain⟨od,J,_⟩:=O.look
 refine W.method_usual (r:=none) I1.kIn J (W.plainGet_of (c.get m)).1 (W.plainGet_of (c.get m)).2 n rfl ?_
 refine a2f I1 ea c n l fun u2 s2 I2 ru=> ?_
 obtain rfl:u2=Value.ref fa:=ru
 show wpAny _ _ (callWith pos (.ref fa) [] (backTo pos (starEach (e::es) X.env)) []) _ _ _
 rw[hst]
 refine W.callWith_of (P:=fun h=>∃c d fd sl,h.get? fa=some ⟨c,d,.func fd,sl⟩) (by show((false||(backTo pos (starEach es X.env)).any (·.1))||false)=false;rw[hpl];rfl)
  (fun h ⟨c,d,fd,sl,z⟩=>⟨.frame,.inl rfl,(W.Looks.ld (part:=none) z).andThen .now⟩) (Calls.evalArgs_plain ?_)
 have ha':=ha pos pins s2 σ H1 _ I2 q
 rw[hst]at ha'
 refine aT ha' ?_
 rintro us s3 ⟨vs,H2,I3,r,q2⟩
 obtain⟨c,d,fd,sl,z⟩:=F.fn _ _ _ _ q2
 refine⟨⟨c,d,fd,sl,jZ I3.hok z⟩,?_⟩
 refine wpAny_call (codeAny_mono (F.run X.A X.stack s3 H2 us vs Q E0 hr I3.env0 r q2) fun r s' hq=> ?_)
 cases r with
 |error e=>exact False.elim hq
 |ok fl=>
  cases fl with
  |ret u=>exact I3.after hq
  |next=>exact False.elim hq
  |brk=>exact False.elim hq
  |cont=>exact False.elim hq
end
structure uZ where
 nx:St->Hp->Prop
 rt:V->St->Hp->Prop
abbrev vM:=uZ->St->Hp->Prop
def SPR(X:Cx)(pins:List (Addr×Obj))(D:uZ)(f:Flow)(s':Shared):Prop:=
 match f with
 | .next=>∃σ' H',aD X pins σ' H' s'/\D.nx σ' H'
 | .ret u=>∃v σ' H',aD X pins σ' H' s'/\aZ v u/\D.rt v σ' H'
 |_=>False
def PSR(X:Cx)(st:Stmt)(t:vM):Prop:=
 ∀(pins:List (Addr×Obj)) (s:Shared) (σ:St) (H:Hp) (D:uZ),aD X pins σ H s->t D σ H->wpAny (model X.prog X.w) X.A (exec st X.env) (SPR X pins D) X.xe s
def vY(X:Cx)(st:List Stmt)(t:vM):Prop:=
 ∀(pins:List (Addr×Obj)) (s:Shared) (σ:St) (H:Hp) (D:uZ),aD X pins σ H s->t D σ H->wpAny (model X.prog X.w) X.A (execs st X.env) (SPR X pins D) X.xe s
section
variable{st:Stmt}{cJ:List Stmt}{t u:vM}{pos:Pos}
noncomputable def rRet(te:TE):vM:=fun D σ H=>te σ H fun v H1=>D.rt v σ H1
theorem a8o(h1:PSR X st t):vY X [st] t:=by
 intro pins s σ H D I h
 refine wpAny_execs_cons (aT (h1 pins s σ H D I h) fun f s1 q=> ?_)
 cases f with
 |next=>exact wpAny_execs_nil q
 |ret v=>exact q
 |brk=>exact q
 |cont=>exact q
theorem a57(he:PE X e te):PSR X (.Return (some e) pos) (rRet te):=by
 intro pins s σ H D I h
 exact wpAny_Return_some (aT (he pins s σ H _ I h) fun v s1 ⟨x,H1,I1,r1,q1⟩=>⟨x,σ,H1,I1,r1,q1⟩)
end
theorem a37(I:aD X pins σ H s):∃f:dY,jD X σ H f/\(∀b o,f b=some o->H b=none/\s.heap.get? b=some o/\∃x,X.env.cells.lookup x=some b):=by
 classical
 let f:dY:=fun b=>if(∃x,X.env.cells.lookup x=some b) then s.heap.get? b else none
 have fe:∀{b o},f b=some o->(∃x,X.env.cells.lookup x=some b)/\s.heap.get? b=some o:=fun{b o} e=>by
  by_cases z:∃x,X.env.cells.lookup x=some b
  ·exact⟨z,by rw[show f b=s.heap.get? b from if_pos z]at e;exact e⟩
  ·rw[show f b=none from if_neg z]at e;cases e
 have ff:∀{x c},X.env.cells.lookup x=some c->f c=s.heap.get? c:=fun{x c} e=>if_pos ⟨x,e⟩
 refine⟨f,⟨fun b o e=> ?_,fun x c e=> ?_,fun i x v e1 e2 e3=> ?_,I.ok.inj⟩,fun b o e=> ?_⟩
 ·obtain⟨⟨x,z⟩,_⟩:=fe e
  exact I.freeC x b z
 ·obtain⟨v,o,ho,hd⟩:=I.cell x c e
  exact⟨o,v,by rw[ff e];exact ho,hd⟩
 ·obtain⟨m,_,hl⟩:=I.loc
  obtain⟨u,r,l⟩:=hl i x v e1 e2 (.inr (.inl e3))
  rcases l with⟨k,_⟩|⟨_,c,ec,o,ho,hd⟩
  ·have k':X.env.scope.names.lookup x=some .local:=k
   rw[e3]at k';cases k'
  ·exact⟨c,o,u,ec,by rw[ff ec];exact ho,hd,r⟩
 ·obtain⟨⟨x,z⟩,g⟩:=fe e
  exact⟨I.freeC x b z,g,x,z⟩
theorem a8p{k:Nat}{name:Str}{body:List Stmt}{dV kV:Value}
 {osl:Array (Option Value)}(lk:K.lookup f=some ⟨oc,od,.func (W.fnOf name qual params body scope dV kV doc pm an cdv ct),osl⟩)(hcd:W.codeIn K cdv qual=true)(S:bA N ps scope)
 (len:∀vs H Q E,sp vs H Q E->vs.length=ps.length)
 (hbody:∀(A:Around) (outer:List Env) (s:Shared) (H:Hp) (vs:List V) (Q:VK) (E:XK),bT k (A.deeper (envOfC qual scope s.heap.objs.size f cdv))->sp vs H Q E->
  ∃t,vY (dM aF P w K mg base N qual scope f cdv A outer s H E).nox body t/\t {nx:=fun _ _=>False,rt:=fun v σ H'=>∀g,jD (dM aF P w K mg base N qual scope f cdv A outer s H E).nox σ H' g->Q v (cU g H')} (start N vs) H):
 eY P w K mg base aF (k+ 1) f (W.fnOf name qual params body scope dV kV doc pm an cdv ct) ps sp:=by
 refine⟨len,fun A outer s H args us vs Q E hr e0 hb r hsp=> ?_⟩
 have hl:=len _ _ _ _ hsp
 have KX:K.In s.heap:=e0.mod.kin.keeps fun b o e=>(e0.bs b o e).1
 have lim:s.heap.NoLimit:=e0.mod.nolimit.keeps fun b o e=>(e0.bs b o e).1
 have hkind:∀y∈ps.zip us,scope.names.lookup y.1=some .local\/ (scope.names.lookup y.1=some .cell/\((cellsFrom (s.heap.objs.size+ 1) scope.names []).lookup y.1).isSome=true):=fun⟨n,v⟩ hy=>by
  rcases S.par n (List.of_mem_zip hy).1 with q|q
  ·exact .inl q
  ·exact .inr ⟨q,W.cellsFrom_some _ _ _ (.inl q)⟩
 refine codeAny_call_function hr.depth (KX _ _ lk) rfl S.co S.gen rfl (W.codeRec_of KX hcd) (hb _ _ _ _ ?_)
 refine wpAny_newFunctionEnv_cells S.kind hkind fun env he s1 x=> ?_
 subst he
 refine⟨lim.keeps x.toInCall.keep,codeAny_func ?_⟩
 obtain⟨t,ht,hq⟩:=hbody A outer s H vs Q E (hr.deeper _) hsp
 have I0:aD (dM aF P w K mg base N qual scope f cdv A outer s H E) [] (start N vs) H s1:=a2O S hr.hd e0 hl r x
 have I:aD (dM aF P w K mg base N qual scope f cdv A outer s H E).nox [] (start N vs) H s1:=⟨⟨I0.ok.mod,I0.ok.kind,I0.ok.glob,I0.ok.blt,I0.ok.above,I0.ok.inj,I0.ok.has,I0.ok.cab,I0.ok.hd,I0.ok.frames,I0.ok.stk,I0.ok.exf,I0.ok.bs,I0.ok.bsz,I0.ok.noex,I0.ok.exfs,I0.ok.funs,I0.ok.frf⟩,I0.os,I0.bare,I0.base,I0.loc,I0.cell,I0.free,I0.freeC,I0.pin,I0.hok,I0.len⟩
 refine wpAny_mono (ht [] s1 (start N vs) H _ I hq) (fun fl s' hs=> ?_) fun e s' hs=>False.elim hs
 cases fl with
 |ret u=>
  obtain⟨v,σ',H',J,rv,q⟩:=hs
  obtain⟨g,L,hg⟩:=a37 J
  have hnew:∀b o,s.heap.get? b=some o->g b=none:=fun b o e=>by
   cases z:g b with
   |none=>rfl
   |some ob=>
    exfalso
    obtain⟨x',hx'⟩:∃y,(dM aF P w K mg base N qual scope f cdv A outer s H E).nox.env.cells.lookup y=some b:=(hg b ob z).2.2
    exact absurd (Nat.lt_of_lt_of_le (Heap.lt_size e) (J.ok.cab x' b rfl hx')) (Nat.lt_irrefl _)
  have hB:Un (fN outer) [] H H' s.heap s'.heap:=J.base
  refine⟨v,cU g H',J.os,J.bare,⟨hB.keep,hB.slot,fun b o e n hx=> ?_,hB.there,fun b xs z=> ?_,fun b o xs z=> ?_,fun b ps z=> ?_⟩,a0i J.hok fun b o z=>⟨(hg b o z).1,(hg b o z).2.1⟩,rv,q g L⟩
  ·rw[cZ (hnew b o e)]
   exact hB.free b o e n hx
  ·have:=hB.tups b xs z
   cases y:g b with
   |none=>rw[cZ y];exact this
   |some ob=>rw[(hg b ob y).1]at this;cases this
  ·have:=hB.frzs b o xs z
   cases y:g b with
   |none=>rw[cZ y];exact this
   |some ob=>rw[(hg b ob y).1]at this;cases this
  ·obtain⟨more,this⟩:=hB.tbls b ps z
   refine⟨more,?_⟩
   cases y:g b with
   |none=>rw[cZ y];exact this
   |some ob=>rw[(hg b ob y).1]at this;cases this
 |next=>
  obtain⟨_,_,_,q⟩:=hs
  exact False.elim q
 |brk=>exact False.elim hs
 |cont=>exact False.elim hs
theorem mY.knownR{st:Stmt}{k:Nat}{z:Addr×Addr}(D:mY K mg x st z)(S:bA N ps (aO st))
 (hb:∀(kV doc pm:Value) (an:Option Addr) (cdv ct:Value) (us:List Value),us.length=ps.length->bindArgs (W.fnOf x x (iI st) (eC st) (aO st) .none kV doc pm an cdv ct) ⟨us,[]⟩=pure (ps.zip us))
 (len:∀vs H Q E,sp vs H Q E->vs.length=ps.length)
 (hbody:∀(f:Addr) (A:Around) (outer:List Env) (s:Shared) (H:Hp) (vs:List V) (Q:VK) (E:XK),bT k (A.deeper (envOfC x (aO st) s.heap.objs.size f (.ref z.1)))->sp vs H Q E->
  ∃t,vY (dM aF P w K mg base N x (aO st) f (.ref z.1) A outer s H E).nox (eC st) t/\t {nx:=fun _ _=>False,rt:=fun v σ H'=>∀g,jD (dM aF P w K mg base N x (aO st) f (.ref z.1) A outer s H E).nox σ H' g->Q v (cU g H')} (start N vs) H):bH P w K mg base aF (k+ 1) x ps sp:=by
 obtain⟨f,fd,F,hm,hc⟩:=D.ex
 refine⟨f,fd,?_,hm,F.kp,F.binds hb⟩
 obtain⟨oc,od,kV,doc,pm,an,cdv,ct,osl,rfl,lk,hcd⟩:=F.ex
 have e:cdv= .ref z.1:=hc
 subst e
 exact a8p lk hcd S len fun A outer s H vs Q E hr hsp=>hbody f A outer s H vs Q E hr hsp
structure PEw(X:Cx)(e:Expr)(t:TE):Prop where
 run:PE X e t
structure PAw(X:Cx)(es:List Expr)(t:TA):Prop where
 run:PA X es t
structure PTw(X:Cx)(e:Expr)(t:TT):Prop where
 run:PT X e t
structure PSw(X:Cx)(st:Stmt)(t:TS):Prop where
 run:PS X st t
structure PSsw(X:Cx)(st:List Stmt)(t:TS):Prop where
 run:dU X st t
def a3T(R:Addr->Sp->Prop)(m:Str)(E:XK)(ta:TE)(t:TA):TE:=fun σ H Q=>ta σ H fun x H1=>∃C sp a dx fs,R C sp/\x= .ref a/\H1 a=some (.ins C dx fs)/\fs.lookup m=none/\t σ H1 fun vs H2=>sp (x::vs) H2 Q E
def a5B(X:Cx)(R:Addr->Sp->Prop)(m:Str)(ta:TE)(t:TA):TE:=fun σ H Q=>ta σ H fun x H1=>∃C sp a dx fs,R C sp/\x= .ref a/\H1 a=some (.ins C dx fs)/\fs.lookup m=none/\
 t σ H1 fun vs H2=>∀f,jD X σ H2 f->sp (x::vs) (cU f H2) (fun v H'=>Q v (dF f H')) E0
section
variable{k:Nat}{R:Addr->Sp->Prop}{E:XK}{pos:Pos}{o:Expr}{t:TA}
theorem zK{pl:Sem Bool}(he:PE X o ta)(hR:∀C sp,R C sp->cF X.K C/\aR X.prog X.w X.K X.mg X.base CX k C m ps sp)(hr:bT k X.A)(hx:gL CX X E)(ha:PA X (e::es) t)
 (hst:starEach (e::es) X.env=(false,eval e X.env)::starEach es X.env:=by rfl)(hpl:(backTo pos (starEach es X.env)).any (·.1)=false:=by rfl)
 (ht:eval (.Call (.Attribute o m apos) (e::es) [] pos) X.env=(do
  let ov<- eval o X.env
  standAt apos.atName
  let (f,first)<- holding [ov] (getMethod ov m pl)
  callWith pos f first (backTo pos (starEach (e::es) X.env)) (backToKw pos (keywordEach [] X.env))):=by rfl):
 PE X (.Call (.Attribute o m apos) (e::es) [] pos) (a3T R m E ta t):=by
 intro pins s σ H Q I h
 refine W.methodCall_KW (pl:=pl) (aT (he pins s σ H _ I h) ?_) ht
 rintro u s1 ⟨x,H1,I1,rx,C,sp,a,dx,fs,hC,ex,ea,l,q⟩
 obtain⟨c,G⟩:=hR C sp hC
 obtain⟨f,fd,F,hm,hb⟩:=G.ex
 subst ex
 obtain rfl:u=Value.ref a:=rx
 refine rW I1 ea c hm l ?_
 refine W.callWith_K (first:=[.ref a]) (h₀:=X.base) I.ok.mod.kin hm.kp (aT (ha pos pins s1 σ H1 _ I1 q) fun us s2 ⟨vs,H2,I2,r,q2⟩=>⟨I2.kIn,?_⟩) hst hpl
 exact qV (us:=.ref a::us) (vs:=.ref a::vs) F hr hb .nil hx I2 (.cons rfl r) (by rw[List.append_nil];exact q2)
theorem a8y{pl:Sem Bool}(he:PE X o ta)(hR:∀C sp,R C sp->cF X.K C/\aR X.prog X.w X.K X.mg X.base aF k C m ps sp)(hr:bT k X.A)(ha:PA X (e::es) t)(hfn:∀x,X.fn x=true:=by exact fun _=>rfl)
 (hst:starEach (e::es) X.env=(false,eval e X.env)::starEach es X.env:=by rfl)(hpl:(backTo pos (starEach es X.env)).any (·.1)=false:=by rfl)
 (ht:eval (.Call (.Attribute o m apos) (e::es) [] pos) X.env=(do
  let ov<- eval o X.env
  standAt apos.atName
  let (f,first)<- holding [ov] (getMethod ov m pl)
  callWith pos f first (backTo pos (starEach (e::es) X.env)) (backToKw pos (keywordEach [] X.env))):=by rfl):
 PE X (.Call (.Attribute o m apos) (e::es) [] pos) (a5B X R m ta t):=by
 intro pins s σ H Q I h
 refine W.methodCall_KW (pl:=pl) (aT (he pins s σ H _ I h) ?_) ht
 rintro u s1 ⟨x,H1,I1,rx,C,sp,a,dx,fs,hC,ex,ea,l,q⟩
 obtain⟨c,G⟩:=hR C sp hC
 obtain⟨f,fd,F,hm,hb⟩:=G.ex
 subst ex
 obtain rfl:u=Value.ref a:=rx
 refine rW I1 ea c hm l ?_
 refine W.callWith_K (first:=[.ref a]) (h₀:=X.base) I.ok.mod.kin hm.kp (aT (ha pos pins s1 σ H1 _ I1 q) fun us s2 ⟨vs,H2,I2,r,q2⟩=>⟨I2.kIn,?_⟩) hst hpl
 exact a3O (us:=.ref a::us) (vs:=.ref a::vs) hfn F hr hb I2 (.cons rfl r) q2
end
theorem aR.le{k:Nat}(G:aR P w K mg base CX j C m ps sp)(h:j<=k):aR P w K mg base CX k C m ps sp:=by
 obtain⟨f,fd,F,hm,hb⟩:=G.ex
 exact⟨f,fd,F.mono h,hm,hb⟩
theorem a8s:typeLookup (.type "list_reverseiterator") "__len__"=pure none:=by rw[typeLookup_type,builtinLookup_eq_fast];kernel_rfl
theorem a69:typeLookup (.type "list_reverseiterator") "__length_hint__"=pure (some (.builtin "list_reverseiterator.__length_hint__")):=by rw[typeLookup_type,builtinLookup_eq_fast];kernel_rfl
section
theorem a68{r:Addr}{Q:Bool->Shared->Prop}(hT:s.TypeIs (.ref r) "list_reverseiterator")(h:Q false s):wpAny (model prog w) A (Builtin.List.listLengthHint (.ref r)) Q E s:=by
 unfold Builtin.List.listLengthHint
 refine wpAny_bind (wpAny_specialOf hT a8s ?_)
 show wpAny _ A (specialOf (Value.ref r) (Str.ofString "__length_hint__")>>=_) _ _ _
 refine wpAny_bind (wpAny_specialOf hT a69 ?_)
 generalize hid:("list_reverseiterator.__length_hint__":String)=id0
 wp_delta
 rw[show splitId id0=some ("list_reverseiterator","__length_hint__") from by subst hid;decide+kernel]
 subst hid
 refine wpAny_bind (wpAny_isInstance (b:=true) hT (by rw[isSubtype_type];kernel_rfl) ?_)
 exact wpAny_pure h
theorem a4c{R:Result->Shared->Prop}(hh:A.handled=none){I S:Addr}{items:Array Value}(hne:l≠I)(hit:s.heap.IsRevIter I l ((items.size:Int)- 1))(hl:s.heap.IsList l items)(hSI:S≠I)(hSl:S≠l)
 (hS:s.heap.get? S=some {cls:=.type "list",data:=.seq #[]})(hn:items.size<=sizeLine)
 (hR:∀h' tk acc' c',(∀b o,b≠S->b≠I->s.heap.get? b=some o->h'.get? b=some o)->h'.get? S=some {cls:=.type "list",dict:=none,data:=.seq acc' c',slots:= #[]} ->ItemsOf (fun i v=>items[items.size- 1- i]?=some v) acc' items.size->R (.ok (.ret .none)) {s with heap:=h',toks:=tk}):
 wpAny (model prog w) A.in1 (Builtin.«list.__init__» ⟨[.ref S,.ref I],[]⟩)
  (fun fin s'=>match fin with| .done f=>R (.ok f) s'| .again c'=>c'.quiet=true/\codeAny (model prog w) A c' R s') (fun e s'=>R (.error e) s') s:=by
 have W:=Walks.listRev (prog:=prog) (w:=w) (A:=A.in1) hh I l hne items
 have hSf:S∉ [I,l]:=by simp only[List.mem_cons,List.not_mem_nil,or_false,not_or];exact⟨hSI,hSl⟩
 have e0:(items.size:Int)- 1- ((0:Nat):Int)=(items.size:Int)- 1:=by omega
 show wpAny _ A.in1 (do let old<- Builtin.List.listItems (.ref S);Builtin.List.listUpdate (.ref S) (fun _=> #[]);letGo old.toList.reverse;Builtin.List.listExtendWith (.ref S) (.ref I) .none) _ _ s
 refine wpAny_bind ?_
 unfold Builtin.List.listItems
 refine wpAny_bind (wpAny_seqItems hS rfl (wpAny_pure ?_))
 show wpAny _ A.in1 (updateSeq S (fun _=> #[])>>=fun _=>letGo (#[]:Array Value).toList.reverse>>=fun _=>Builtin.List.listExtendWith (.ref S) (.ref I) .none) _ _ s
 refine wpAny_bind (wpAny_updateSeq hS rfl ?_)
 have hS₂:=Heap.get?_update_self (Obj.mapSeq (fun _=>(#[]:Array Value))) hS rfl
 have oth:∀b o,b≠S->s.heap.get? b=some o->(s.heap.update S (Obj.mapSeq (fun _=>(#[]:Array Value)))).get? b=some o:=
  fun b o hb e=>(Heap.get?_update_other _ _ (Ne.symm hb)).trans e
 refine wpAny_bind (wpAny_letGo ?_)
 have hit2:=hit.at (h':=s.heap.update S (Obj.mapSeq (fun _=>(#[]:Array Value)))) fun o e=>oth I o hSI.symm e
 have hl2:=hl.at (h':=s.heap.update S (Obj.mapSeq (fun _=>(#[]:Array Value)))) fun o e=>oth l o hSl.symm e
 unfold Builtin.List.listExtendWith
 refine wpAny_bind (wpAny_typeOf hit2.typeIs ?_)
 have h1:Builtin.List.listSameRef (.ref S) (.ref I)=false:=by simp[Builtin.List.listSameRef,hSI]
 have h2:(Value.type "list_reverseiterator"==Value.type "list")=false:=by decide
 have h3:(Value.type "list_reverseiterator"==Value.type "tuple")=false:=by decide
 simp only[h1,h2,h3,Bool.or_false,Bool.false_eq_true,if_false]
 refine wpAny_bind (wpAny_pyIter_revIter hit2 ?_)
 refine wpAny_bind (wpAny_holding (a68 hit2.typeIs ?_))
 rw[if_neg (by decide)]
 refine wpAny_pure ⟨plainId_quiet F.plain_extend_loop _,codeAny_extend_loopS W.toS hn S hSf .none items.size 0 _ #[] _ rfl (Nat.zero_le _) ⟨Nat.zero_le _,by rw[e0];exact hit2,hl2⟩ hS₂ (ItemsOf.nil _) fun s' acc' c' hm hS' hacc=> ?_⟩
 rw[Moved.eq_with hm]
 refine hR s'.heap s'.toks acc' c' (fun b o hb hbI e=>hm.heap b o (fun hmem=> ?_) (oth b o hb e)) hS' hacc
 rcases List.mem_cons.mp hmem with e'|hmem
 ·exact hb e'
 ·exact hbI (List.mem_singleton.mp hmem)
theorem a3K(hh:A.handled=none){I:Addr}{items:Array Value}(hne:l≠I)(hit:s.heap.IsRevIter I l ((items.size:Int)- 1))(hl:s.heap.IsList l items)(hn:items.size<=sizeLine)
 (hQ:∀h' tk acc' c',(∀b o,b≠I->s.heap.get? b=some o->h'.get? b=some o)->h'.get? s.heap.objs.size=some {cls:=.type "list",dict:=none,data:=.seq acc' c',slots:= #[]} ->ItemsOf (fun i v=>items[items.size- 1- i]?=some v) acc' items.size->Q (.ref s.heap.objs.size) {s with heap:=h',toks:=tk}):
 wpAny (model prog w) A (call (.type "list") [.ref I]) Q E s:=by
 refine callType_codes (Q₁:=fun obj s₁=>obj= .ref s.heap.objs.size/\s₁={s with heap:=s.heap.push {cls:=.type "list",data:=.seq #[]}}) F.called_list (F.typeCall_list_1 _) F.entry_list_init
  (code_list_new _ ⟨rfl,rfl⟩) fun obj s₁ h₁=> ?_
 obtain⟨rfl,rfl⟩:=h₁
 have hS:(s.heap.push {cls:=.type "list",data:=.seq #[]}).get? s.heap.objs.size=some {cls:=.type "list",data:=.seq #[]}:=Heap.get?_push_size _ rfl
 have jP:I<s.heap.objs.size:=let ⟨o,ho,_⟩:=hit;Heap.lt_size ho
 have ltl:l<s.heap.objs.size:=let ⟨o,ho,_⟩:=hl;Heap.lt_size ho
 refine⟨⟨_,hS,rfl⟩,F.args_list_init_2 _ _,a4c (A:=A.in1) hh hne (hit.at fun o e=>Heap.get?_push_of_some _ e) (hl.at fun o e=>Heap.get?_push_of_some _ e) (Nat.ne_of_gt jP) (Nat.ne_of_gt ltl) hS hn fun h' tk acc' c' hk hS' hacc=> ?_⟩
 exact⟨rfl,hQ h' tk acc' c' (fun b o hb e=>hk b o (Nat.ne_of_lt (Heap.lt_size e)) hb (Heap.get?_push_of_some _ e)) hS' hacc⟩
end
def a7V(K:Fg)(te:TE):TE:=fun σ H Q=>te σ H fun x H1=>∃p ys,x= .ref p/\aN K H1 p ys/\∀l,H1 l=none->Q (.ref l) (upd H1 l (.lst ys.reverse))
section
variable{x':Str}{p p' pos:Pos}
theorem a6J(hc:X.calm=true)(he:PE X e te)(hg:Gl X x)(hm:X.mg x=none)(hv:bootBuiltins x=some (.type "list"))(hg':Gl X x')(hm':X.mg x'=none)(hv':bootBuiltins x'=some (.type "reversed"))
 (hn:x≠ "__name__":=by decide)(hdb:(x==("__debug__":Str))=false:=by decide)(hn':x'≠ "__name__":=by decide)(hdb':(x'==("__debug__":Str))=false:=by decide)
 (h1:starEach [e] X.env= [(false,eval e X.env)]:=by rfl)(h2:starEach [.Call (.Name x' p') [e] [] pos'] X.env= [(false,eval (.Call (.Name x' p') [e] [] pos') X.env)]:=by rfl):
 PE X (.Call (.Name x p) [.Call (.Name x' p') [e] [] pos'] [] pos) (a7V X.K te):=by
 intro pins s σ H Q I h
 refine wpAny_Call_Name_kw (qC I hg hm hv ?_ hn hdb)
 refine PyProof.Rows.callWith_type1 ?_ h2 rfl
 rw[h2]
 refine Calls.spliced_cons ?_
 refine wpAny_Call_Name_kw (qC I hg' hm' hv' ?_ hn' hdb')
 refine PyProof.Rows.callWith_type1 ?_ h1 rfl
 rw[h1]
 refine Calls.spliced_cons (aT (he pins s σ H _ I h) ?_)
 rintro u s1 ⟨v,H1,I1,rv,q,ys,ex,hq,k⟩
 subst ex
 cases rv
 refine Calls.spliced_nil ?_
 obtain⟨its,r',pl,hz⟩:=I1.list hq
 have hlen:=r'.length
 refine call_reversed_list pl.isList ?_
 refine Calls.spliced_nil ?_
 have hsz:its.toArray.size=its.length:=by simp
 have kp1:∀b o,s1.heap.get? b=some o->(s1.heap.push (revObj q ((its.toArray.size:Int)- 1))).get? b=some o:=fun b o e=>Heap.get?_push_of_some _ e
 have I2:aD X pins σ H1 {s1 with heap:=s1.heap.push (revObj q ((its.toArray.size:Int)- 1))}:=I1.kept (t':=s1.toks) kp1
 have hD:(s1.heap.push (revObj q ((its.toArray.size:Int)- 1))).get? s1.heap.objs.size=some (revObj q ((its.toArray.size:Int)- 1)):=Heap.get?_push_size _ rfl
 have hit:(s1.heap.push (revObj q ((its.toArray.size:Int)- 1))).IsRevIter s1.heap.objs.size q ((its.toArray.size:Int)- 1):=⟨_,hD,rfl,rfl⟩
 have ltq:q<s1.heap.objs.size:=by obtain⟨o,ho,_⟩:=pl.isList;exact Heap.lt_size ho
 refine a3K (s:={s1 with heap:=s1.heap.push (revObj q ((its.toArray.size:Int)- 1))}) (I2.ok.hd hc) (Nat.ne_of_lt ltq) hit (pl.isList.at fun o e=>kp1 q o e) (by rw[hsz];omega) fun h' tk acc c hk hS hI=> ?_
 have its':acc.toList.length=ys.reverse.length:=by rw[Array.length_toList,hI.1,hsz,List.length_reverse];omega
 have hvals:aX ys.reverse acc.toList:=a0a its' fun j y u e1 e2=>by
  rw[Array.getElem?_toList]at e2
  have e3:=hI.2 j u e2
  have hj:j<ys.length:=by
   have:=(List.getElem?_eq_some_iff.mp e1).1
   simpa using this
  rw[List.getElem?_reverse hj]at e1
  have e4:its[its.length- 1- j]?=some u:=by simpa using e3
  rw[<- hlen]at e4
  obtain⟨u',e5,r5⟩:=aX.get r' e1
  rw[e4]at e5
  cases e5
  exact r5
 let s2:Shared:={s1 with heap:=s1.heap.push (revObj q ((its.toArray.size:Int)- 1))}
 have I2':aD X pins σ (upd H1 s2.heap.objs.size (.lst ys.reverse)) {s2 with heap:=s2.heap.push {cls:=.type "list",dict:=none,data:=.seq acc c,slots:= #[]},toks:=tk}:=by
  refine I2.laid (t':=tk) (o:=.lst ys.reverse) (fun b o e=>Heap.get?_push_of_some _ e) (Nat.le_refl _) ?_
  exact⟨by rw[List.length_reverse];exact hz,acc.toList,c,hvals,by rw[Array.toArray_toList];exact Heap.get?_push_size _ rfl⟩
 have ltD:s1.heap.objs.size<s2.heap.objs.size:=Heap.lt_size hD
 have I3:aD X pins σ (upd H1 s2.heap.objs.size (.lst ys.reverse)) {s1 with heap:=h',toks:=tk}:=by
  refine aD.turned (s:={s2 with heap:=s2.heap.push {cls:=.type "list",dict:=none,data:=.seq acc c,slots:= #[]},toks:=tk}) (it:=s1.heap.objs.size) I2' (fun b o hb e=> ?_) (by rw[aG (Nat.ne_of_lt ltD)];exact I1.hok.fresh (Nat.le_refl _)) ?_ (.inr I1.sz) ?_ ?_
  ·by_cases z:b=s2.heap.objs.size
   ·subst z
    rw[show (s2.heap.push {cls:=.type "list",dict:=none,data:=.seq acc c,slots:= #[]}).get? s2.heap.objs.size=some {cls:=.type "list",dict:=none,data:=.seq acc c,slots:= #[]} from Heap.get?_push_size _ rfl]at e
    rw[<- e]
    exact hS
   ·rcases Heap.get?_push_cases e with⟨z',_⟩|e
    ·exact absurd z' z
    ·exact hk b o hb e
  ·obtain⟨m,⟨o,_,_,ho,_⟩,_⟩:=I1.loc
   exact Nat.ne_of_gt (Heap.lt_size ho)
  ·intro y c e
   obtain⟨v,o,ho,_⟩:=I1.cell y c e
   exact Nat.ne_of_lt (Heap.lt_size ho)
  ·intro pr hp
   exact Nat.ne_of_lt (Heap.lt_size (I1.pin pr hp).1)
 exact⟨.ref s2.heap.objs.size,_,I3,rfl,k _ (I2.hok.fresh (Nat.le_refl _))⟩
end
structure PPw(X:Cx)(pos:Pos)(keys:List (Option Expr))(values:List Expr)(trs:List (TE×TE)):Prop where
 run:PPs X pos keys values trs
structure KDict(P:Params)(K:Fg)(p:Addr):Prop where
 ex:∃(es:Array DictEntry) (n:Nat),K.lookup p=some ⟨.type "dict",none,.dict es n,#[]⟩ /\W.KeysLit P es.toList
 lo:(p==sysModules)=false
structure FnV(P:Program)(w:World)(K:Fg)(mg:Str->Option Value)(base:Heap)(k:Nat)(fa:Addr)(sp:Sp):Prop where
 kp:W.keepIn K (.ref fa)=true
 run:∀(A:Around) (outer:List Env) (s:Shared) (H:Hp) (us:List Value) (vs:List V) (Q:VK) (E:XK),bT k A->kM P w K mg base A outer s H->K.In s.heap->aX vs us->sp vs H Q E->
  codeAny (model P w) A (.call (.ref fa) ⟨us,[]⟩) (CR aF outer P w H s Q E) s
theorem pH(z:Str):∀zs:List Str,gR (.str z) (zs.map V.str)=decide (z∈zs)
 | []=>rfl
 |y::r=>by
  have ih:=pH z r
  unfold gR at ih|-
  rw[List.map_cons,List.any_cons,ih]
  have e:kN (.str y) (.str z)=decide (y=z):=by
   by_cases h:y=z<;>simp[kN,h]
  rw[e,<- Bool.decide_or]
  congr 1
  rw[List.mem_cons]
  exact propext ⟨fun h=>h.imp Eq.symm id,fun h=>h.imp Eq.symm id⟩
theorem nO:∀zs:List Str,(zs.map V.str).all kX=true
 | []=>rfl
 |y::r=>by
  rw[List.map_cons,List.all_cons,nO r]
  rfl
structure kJ(K:Fg)(mg:Str->Option Value)(cls m qual:Str)(st:Stmt)(z:Addr×Addr):Prop where
 ex:∃C f fd,mg cls=some (.ref C)/\kT K m qual st f fd/\W.findIn K (.ref C) m=some (some (.ref f))/\W.isFn K (.ref f)=true/\fd.code= .ref z.1
 hd:W.codeHdIn K z.1 z.2=true
section
theorem a6S{cls:Str}{st:Stmt}{c p:Addr}{osl:Array (Option Value)}{kV:Value}(X:K.In h)(G:h.Ns mainGlobals mg)(n:W.nsIn K mainGlobals cls=some (some (.ref C)))(a:W.findIn K (.ref C) m=some (some (.ref f)))(i:W.isFn K (.ref f)=true)
 (l:K.lookup f=some ⟨oc,od,.func (W.fnOf m qual (iI st) (eC st) (aO st) .none kV doc pm an (.ref c) ct),osl⟩)(hc:W.codeIn K (.ref c) qual=true)(k:W.keepIn K (.ref f)=true)(hd:W.codeHdIn K c p=true):kJ K mg cls m qual st (c,p):=
 ⟨⟨C,f,_,W.mg_of X G n,uK l hc k,a,i,rfl⟩,hd⟩
theorem kJ.known{cls:Str}{st:Stmt}{k:Nat}{z:Addr×Addr}(D:kJ K mg cls m qual st z)(hC:mg cls=some (.ref C))(S:bA N ps (aO st))
 (hb:∀(kV doc pm:Value) (an:Option Addr) (cdv ct:Value) (us:List Value),us.length=ps.length->bindArgs (W.fnOf m qual (iI st) (eC st) (aO st) .none kV doc pm an cdv ct) ⟨us,[]⟩=pure (ps.zip us))
 (len:∀vs H Q E,sp vs H Q E->vs.length=ps.length)
 (hbody:∀(f:Addr) (A:Around) (outer:List Env) (s:Shared) (H:Hp) (vs:List V) (Q:VK) (E:XK),bT k (A.deeper (envOfC qual (aO st) s.heap.objs.size f (.ref z.1)))->sp vs H Q E->
  ∃t,dU (dM aF P w K mg base N qual (aO st) f (.ref z.1) A outer s H E).nox (eC st) t/\t {nx:=fun _ H'=>Q .non H',rt:=Q} (start N vs) H):aR P w K mg base aF (k+ 1) C m ps sp:=by
 obtain⟨C',f,fd,hC',F,ha,hi,hc⟩:=D.ex
 rw[hC]at hC'
 cases hC'
 refine⟨f,fd,?_,⟨ha,hi,F.kp⟩,F.binds hb⟩
 obtain⟨oc,od,kV,doc,pm,an,cdv,ct,osl,rfl,lk,hcd⟩:=F.ex
 have e:cdv= .ref z.1:=hc
 subst e
 refine a0p lk hcd S len fun A outer s H vs Q E hr hsp=> ?_
 obtain⟨t,h,q⟩:=hbody f A outer s H vs Q E hr hsp
 exact⟨t,h.nox,q⟩
end
theorem a5s{l:W.OpenLaw}{n k:Nat}{q:Program}{loose:List Str}{XP:(Str->Option Value)->Heap->Prop}{YP:World->Heap->Prop}{d:DefRec}{K:Params->Fg}{CX:World->eN}{sp:World->List (Addr×Addr)->Sp}
 (hn:l.most=some n)(hn2:n<=sizeLine)(hdf:d.params.defaults= [])(hr:bT k callerA)
 (hY:∀(w:World) (h:Heap),YP w h->(K w.params).In h)
 (F:∀(w:World) (mg:Str->Option Value) (fa:Addr) (h:Heap),YP w h->(K w.params).In h->h.Ns mainGlobals mg->mg d.name=some (.ref fa)->
  W.noTabs (K w.params)=true/\∃tabs:List (Addr×Addr),(∀z∈tabs,a8H q (K w.params) z\/ (W.codeHdIn (K w.params) z.1 z.2=true/\h.get? z.2=some (W.tabObj #[])))/\∃fd:FuncData,(∀(s:Shared) (u:Value),BindsTo s fd ⟨[u],[]⟩ [(x,u)])/\
   ∀base:Heap,(K w.params).In base->base.Ns mainGlobals mg->(∀z∈tabs,jA mg base z.1 z.2)->eY l.prog w (K w.params) mg base (CX w) k fa fd [x] (sp w tabs))
 (hsp:∀(w:World) (tabs:List (Addr×Addr)) (H:Hp) (a:Addr) (ns:List Int),ns.length<=n->rN tabs H->aN (K w.params) H a (ns.map V.int)->sp w tabs [.ref a] H (fun v H'=>v= .bl true/\qQ tabs H') fun _ _ _=>False)
 (hCX:∀(w:World) (H:Hp) (s:Shared) (e:Value) (s':Shared),CX w [] H s (fun _ _ _=>False) e s'->False):
 W.WalkO q loose XP YP l.row.toRowW d [] (fun f vs=>PySem.call f vs):=by
 refine Att.attach_call hn hdf fun w s₀ s₁ mg mb fa o pm cd doc a vs ns G Y ho hd hcd hmg hobj hints hlen hg=> ?_
 have KX:=hY w _ Y
 obtain⟨hnT,tabs,hTb,fd,hb,hF⟩:=F w mg fa _ Y KX G.T.g hmg
 refine a4E KX G.T.g G.T.b G.T.builtins G.T.nolimit hg hobj hints (Nat.le_trans hlen hn2) hr (fun z hz=> ?_) G.T.bmain hF hb (fun H hO hS=>hsp w tabs H a ns hlen hO hS) fun H e s'=>hCX w H s₁ e s'
 rcases hTb z hz with t|⟨t1,t2⟩
 ·obtain⟨y,h1,h2⟩:=t.ex
  obtain⟨d',h1⟩:=Option.isSome_iff_exists.mp h1
  obtain⟨t1,t2⟩:=W.tab_of G.T KX h1 h2
  exact⟨t1,t2,a1O hnT KX t2⟩
 ·exact⟨W.codeHd_of_K KX t1,t2,a1O hnT KX t2⟩
theorem a2V:iK X (.builtin "isinstance") (fun xs H Q=>∃x T t k,xs= [x,.ty T] /\fU X.K H x t/\W.kitOne X.K t (.type T)=some k/\Q (.bl k) H):=by
 intro pins s σ H xs us Q I r h
 obtain⟨x,T,t,k,rfl,ty,e,q⟩:=h
 cases r with
 |cons r1 rr=>
  cases rr with
  |cons r2 rr=>
   cases rr
   cases r2
   exact a4Q I r1 ty e fun tk=>⟨.bl k,H,I.tok tk,rfl,q⟩
structure LentC(X:Cx)(σ:St)(H:Hp)(f:dY):Prop extends jD X σ H f where
 only:∀b o,f b=some o->∃v,o.data= .cell v
section
variable{k:Nat}{p pos:Pos}{o:Expr}{t:TA}{E:XK}
theorem a8A(G:eM X.prog X.w X.K X.mg X.base CX k C ps sp)(hr:bT (k+ 1) X.A)(hm:X.mg x=some (.ref C))(hx:gL CX X E)(hg:Gl X x:=by rfl)(hdb:(x==("__debug__":Str))=false:=by decide):
 PE X (.Call (.Name x p) [] [] pos) (tG C sp [] E mT):=by
 obtain⟨f,fd,F,M,hb⟩:=G.ex
 exact a5n M F hr hg hm hb .nil hx hdb
end
def SetO(P:Program)(w:World)(D:Addr)(S:Str->Bool)(n:Nat):HO:=.ext fun h=>h.SetOf (strKind P w) D S n
end L2
namespace L2
open PySem PySem.W PyProof.Rows
noncomputable def bG {α:Type} (lt:Nat->Nat->Bool):KasT α->α
 | .ret a=>a
 | .ask i j k=>bG lt (k (lt i j))
theorem pQ{α β:Type}{lt:Nat->Nat->Bool}{f:α->KasT β}:∀t:KasT α,bG lt (t.bind f)=bG lt (f (bG lt t))
 | .ret a=>rfl
 | .ask i j k=>pQ (k (lt i j))
def OkK{α:Type}(n:Nat)(R:α->Prop):KasT α->Prop
 | .ret a=>R a
 | .ask i j k=>i<n/\j<n/\∀b,OkK n R (k b)
theorem OkK.bind{α β:Type}{n:Nat}{f:α->KasT β}{R:α->Prop}{R':β->Prop}:∀{t:KasT α},OkK n R t->(∀a,R a->OkK n R' (f a))->OkK n R' (t.bind f)
 | .ret a,h,hf=>hf a h
 | .ask i j k,⟨h1,h2,h3⟩,hf=>⟨h1,h2,fun b=>OkK.bind (h3 b) hf⟩
theorem OkK.wp{α:Type}{n:Nat}{R:α->Prop}{lt:Nat->Nat->Bool}{cmp:Nat->Nat->(Bool->Shared->Prop)->Shared->Prop}{J:Shared->Prop}(hc:∀i j C s,i<n->j<n->J s->(∀s',J s'->C (lt i j) s')->cmp i j C s){Q:α->Shared->Prop}:∀{t:KasT α} {s:Shared},OkK n R t->J s->(∀s',J s'->Q (bG lt t) s')->t.kasWp cmp Q s
 | .ret a,s,_,j,q=>q s j
 | .ask i j k,s,⟨h1,h2,h3⟩,js,q=>hc i j _ s h1 h2 js fun s' js'=>OkK.wp hc (h3 _) js' q
theorem nS{p:Array Nat}(h:i<=j)(hj:j<=p.size)(k:Nat):(kas_rev p i j).getD k 0=if i<=k/\k<j then p.getD (i+ j- 1- k) 0 else p.getD k 0:=by
 have e:=getElem?_mirror (i:=i) hj ((j- i)/ 2) (by omega) k
 unfold kas_rev
 rw[Array.getD_eq_getD_getElem?,e,Array.getD_eq_getD_getElem?,Array.getD_eq_getD_getElem?]
 by_cases h1:i<=k/\k<j
 ·rw[if_pos h1]
  by_cases h2:(i<=k/\k<i+ (j- i)/ 2)\/ (j- (j- i)/ 2<=k/\k<j)
  ·rw[if_pos h2]
  ·rw[if_neg h2]
   have:i+ j- 1- k=k:=by omega
   rw[this]
 ·rw[if_neg h1,if_neg (by omega)]
theorem a3f(p:Array Nat)(i j:Nat):(kas_rev p i j).size=p.size:=mirror_size _ _ _ _
theorem a5Q(p:Array Nat)(i j:Nat):(kas_rev p i j).Perm p:=mirror_perm _ _ _ _
theorem a1D{p:Array Nat}{k l:Nat}(h:l<=k)(hk:k<p.size)(x:Nat):(bubble p k (k- l)).getD x 0=if x=l then p.getD k 0 else if l<x/\x<=k then p.getD (x- 1) 0 else p.getD x 0:=by
 have e:=getElem?_bubble hk (k- l) (by omega) x
 rw[Array.getD_eq_getD_getElem?,e,show k- (k- l)=l by omega]
 simp only[Array.getD_eq_getD_getElem?]
 split
 ·rfl
 ·split<;>rfl
def Bl(n:Nat)(p:Array Nat):Prop:=p.size=n/\∀k,p.getD k 0<n
theorem Bl.rev{n:Nat}{p:Array Nat}(h:Bl n p)(hij:i<=j)(hj:j<=n):Bl n (kas_rev p i j):=by
 refine⟨by rw[a3f];exact h.1,fun k=> ?_⟩
 rw[nS hij (by rw[h.1];exact hj)]
 split<;>exact h.2 _
theorem Bl.bub{n:Nat}{p:Array Nat}(h:Bl n p){k l:Nat}(hl:l<=k)(hk:k<n):Bl n (bubble p k (k- l)):=by
 refine⟨by rw[bubble_size];exact h.1,fun x=> ?_⟩
 rw[a1D hl (by rw[h.1];exact hk)]
 split
 ·exact h.2 _
 ·split<;>exact h.2 _
theorem lM{n:Nat}{p:Array Nat}(h:Bl n p):∀(f m:Nat),OkK n (fun r=>m<=r/\r<=m+ f) (kas_asc p f m)
 |0,m=>⟨Nat.le_refl _,Nat.le_refl _⟩
 |f+ 1,m=>by
  refine⟨h.2 _,h.2 _,fun b=> ?_⟩
  cases b with
  |true=>exact⟨Nat.le_refl _,by omega⟩
  |false=>
   show OkK n _ (kas_asc p f (m+ 1))
   have:=lM h f (m+ 1)
   refine OkK.mono (fun r hr=> ?_) this
   omega
where OkK.mono {α:Type} {n:Nat} {R R':α->Prop} (hR:∀a,R a->R' a):∀{t:KasT α},OkK n R t->OkK n R' t
 | .ret a,h=>hR a h
 | .ask i j k,⟨h1,h2,h3⟩=>⟨h1,h2,fun b=>OkK.mono hR (h3 b)⟩
theorem tY{n:Nat}:∀(f:Nat) (p:Array Nat) (m q:Nat),Bl n p->q+ 1<=m->m+ f<=n->OkK n (fun r=>Bl n r.1/\r.2.2+ 1<=r.2.1/\m<=r.2.1/\r.2.1<=n) (kas_desc f p m q)
 |0,p,m,q,h,hq,hm=>⟨h,hq,Nat.le_refl _,by omega⟩
 |f+ 1,p,m,q,h,hq,hm=>by
  refine⟨h.2 _,h.2 _,fun b=> ?_⟩
  cases b with
  |true=>
   show OkK n _ (if q>0 then kas_desc f (kas_rev p (m- (q+ 1)) m) (m+ 1) 0 else kas_desc f p (m+ 1) 0)
   by_cases h0:q>0
   ·rw[if_pos h0]
    exact lM.OkK.mono (fun r hr=>⟨hr.1,hr.2.1,by omega,hr.2.2.2⟩) (tY f _ (m+ 1) 0 (h.rev (by omega) (by omega)) (by omega) (by omega))
   ·rw[if_neg h0]
    exact lM.OkK.mono (fun r hr=>⟨hr.1,hr.2.1,by omega,hr.2.2.2⟩) (tY f p (m+ 1) 0 h (by omega) (by omega))
  |false=>
   refine⟨h.2 _,h.2 _,fun b=> ?_⟩
   cases b with
   |true=>exact⟨h,hq,Nat.le_refl _,(show m<=n by omega)⟩
   |false=>exact lM.OkK.mono (fun r hr=>⟨hr.1,hr.2.1,by omega,hr.2.2.2⟩) (tY f p (m+ 1) (q+ 1) h (by omega) (by omega))
theorem a11{n m:Nat}{p:Array Nat}(h:Bl n p)(hm:m<=n):OkK n (fun r=>Bl n r.2/\r.1<=n) (kas_tail3 m n p):=
 OkK.bind (lM (h.rev (Nat.zero_le _) hm) _ _) fun r hr=>⟨h.rev (Nat.zero_le _) hm,(show r<=n by omega)⟩
theorem a1e{n m:Nat}{p:Array Nat}(h:Bl n p)(hm:m+ 1<=n):OkK n (fun r=>Bl n r.2/\r.1<=n) (kas_descPart m n p):=by
 refine OkK.bind (tY (n- (m+ 1)) p (m+ 1) 0 h (by omega) (by omega)) fun r hr=> ?_
 obtain⟨h1,h2,h3,h4⟩:=hr
 show OkK n _ (if r.2.2>0 then _ else _)
 split
 ·exact a11 (h1.rev (by omega) h4) h4
 ·exact a11 h1 h4
theorem a4G{n:Nat}{p:Array Nat}(h:Bl n p)(h1:1<=n):OkK n (fun r=>Bl n r.2/\r.1<=n) (kas_count n p):=by
 refine OkK.bind (lM h (n- 1) 1) fun m hm=> ?_
 show OkK n _ (if(m==n)=true then _ else _)
 by_cases e:m=n
 ·rw[if_pos (by simp[e])]
  exact⟨h,(show m<=n by omega)⟩
 rw[if_neg (by simp[e])]
 split
 ·refine⟨h.2 _,h.2 _,fun b=> ?_⟩
  cases b with
  |true=>exact⟨h,(show m<=n by omega)⟩
  |false=>exact a1e (h.rev (Nat.zero_le _) (by omega)) (by omega)
 ·exact a1e h (by omega)
theorem xR{n k:Nat}{p:Array Nat}(h:Bl n p):∀(f l r:Nat),l<=r->OkK n (fun x=>l<=x/\x<=r) (kas_place p k f l r)
 |0,l,r,hl=>⟨Nat.le_refl _,hl⟩
 |f+ 1,l,r,hl=>by
  show OkK n _ (if l>=r then _ else _)
  by_cases e:l>=r
  ·rw[if_pos e];exact⟨Nat.le_refl _,hl⟩
  rw[if_neg e]
  refine⟨h.2 _,h.2 _,fun b=> ?_⟩
  cases b with
  |true=>exact lM.OkK.mono (fun x hx=>by omega) (xR h f l ((l+ r)/ 2) (by omega))
  |false=>exact lM.OkK.mono (fun x hx=>by omega) (xR h f ((l+ r)/ 2+ 1) r (by omega))
theorem a0H{n:Nat}:∀(f:Nat) (p:Array Nat) (k:Nat),Bl n p->k+ f<=n->OkK n (Bl n) (kas_bin f p k)
 |0,p,k,h,_=>h
 |f+ 1,p,k,h,hk=>OkK.bind (xR h k 0 k (Nat.zero_le _)) fun l hl=>a0H f _ (k+ 1) (h.bub hl.2 (by omega)) (by omega)
theorem a6f{n:Nat}(h:0<n):Bl n (List.toArray (List.range n)):=by
 refine⟨by simp,fun k=> ?_⟩
 rw[Array.getD_eq_getD_getElem?]
 by_cases hk:k<n
 ·simp[hk]
 ·simp[hk];exact h
theorem a4l{n:Nat}(h:0<n):OkK n (Bl n) (kas_sort n):=by
 refine OkK.bind (a4G (a6f h) h) fun r hr=> ?_
 show OkK n _ (if r.1<n then _ else _)
 split
 ·exact a0H _ _ _ hr.1 (by omega)
 ·exact hr.1
section
variable{lt:Nat->Nat->Bool}
structure fG(lt:Nat->Nat->Bool):Prop where
 as:∀{i j},lt i j=true->lt j i=false
 tr:∀{i j k},lt j i=false->lt k j=false->lt k i=false
def SK(lt:Nat->Nat->Bool)(i j:Nat):Prop:=lt j i=false/\(lt i j=true\/ i<j)
theorem fG.lt_le(O:fG lt){a b c:Nat}(h1:lt a b=true)(h2:lt c b=false):lt a c=true:=by
 cases e:lt a c with
 |true=>rfl
 |false=>
  have:=O.tr h2 e
  rw[h1]at this;cases this
theorem fG.le_lt(O:fG lt){a b c:Nat}(h1:lt b a=false)(h2:lt b c=true):lt a c=true:=by
 cases e:lt a c with
 |true=>rfl
 |false=>
  have:=O.tr e h1
  rw[h2]at this;cases this
structure Pf(n:Nat)(p:Array Nat)(a:Nat):Prop where
 sz:p.size=n
 pm:p.Perm (List.toArray (List.range n))
 un:∀k,a<=k->k<n->p.getD k 0=k
 pr:∀k,k<a->p.getD k 0<a
def Sd(lt:Nat->Nat->Bool)(p:Array Nat)(a:Nat):Prop:=∀i j,i<j->j<a->SK lt (p.getD i 0) (p.getD j 0)
def Dd(lt:Nat->Nat->Bool)(p:Array Nat)(a:Nat):Prop:=∀i j,i<j->j<a->SK lt (p.getD j 0) (p.getD i 0)
theorem Pf.up{n a:Nat}{p:Array Nat}(h:Pf n p a){b:Nat}(hab:a<=b)(hb:b<=n):Pf n p b:=by
 refine⟨h.sz,h.pm,fun k h1 h2=>h.un k (by omega) h2,fun k hk=> ?_⟩
 rcases Nat.lt_or_ge k a with h1|h1
 ·have:=h.pr k h1;omega
 ·rw[h.un k h1 (by omega)];exact hk
theorem Pf.rev{n a:Nat}{p:Array Nat}(h:Pf n p a)(ha:a<=n)(hi:i<=a):Pf n (kas_rev p i a) a:=by
 refine⟨by rw[a3f];exact h.sz,(a5Q _ _ _).trans h.pm,fun k h1 h2=> ?_,fun k hk=> ?_⟩
 ·rw[nS hi (by rw[h.sz];exact ha),if_neg (by omega)]
  exact h.un k h1 h2
 ·rw[nS hi (by rw[h.sz];exact ha)]
  split
  ·exact h.pr _ (by omega)
  ·exact h.pr _ hk
theorem a0n{p:Array Nat}:∀(f m:Nat),m<=bG lt (kas_asc p f m)/\bG lt (kas_asc p f m)<=m+ f/\(∀k,m<=k->k<bG lt (kas_asc p f m)->lt (p.getD k 0) (p.getD (k- 1) 0)=false)/\(bG lt (kas_asc p f m)<m+ f->lt (p.getD (bG lt (kas_asc p f m)) 0) (p.getD (bG lt (kas_asc p f m)- 1) 0)=true)
 |0,m=>⟨Nat.le_refl _,Nat.le_refl _,fun k h1 h2=>absurd h2 (Nat.not_lt.mpr h1),fun h=>absurd h (Nat.lt_irrefl _)⟩
 |f+ 1,m=>by
  have e:bG lt (kas_asc p (f+ 1) m)=bG lt (if lt (p.getD m 0) (p.getD (m- 1) 0)=true then KasT.ret m else kas_asc p f (m+ 1)):=rfl
  rw[e]
  by_cases h:lt (p.getD m 0) (p.getD (m- 1) 0)=true
  ·rw[if_pos h]
   exact⟨Nat.le_refl _,(show m<=m+ (f+ 1)by omega),fun k h1 h2=>absurd h2 (Nat.not_lt.mpr h1),fun _=>h⟩
  ·rw[if_neg h]
   obtain⟨h1,h2,h3,h4⟩:=a0n (p:=p) f (m+ 1)
   refine⟨by omega,by omega,fun k a b=> ?_,fun a=>h4 (by omega)⟩
   rcases Nat.lt_or_ge m k with c|c
   ·exact h3 k (by omega) b
   ·have:k=m:=by omega
    rw[this]
    cases e2:lt (p.getD m 0) (p.getD (m- 1) 0)with
    |false=>rfl
    |true=>exact absurd e2 h
theorem Sd.asc(O:fG lt){n:Nat}{p:Array Nat}{a:Nat}(hp:Pf n p a)(h:Sd lt p a)(h1:1<=a):∀m,a<=m->m<=n->(∀k,a<=k->k<m->lt (p.getD k 0) (p.getD (k- 1) 0)=false)->Sd lt p m:=by
 intro m hm
 obtain⟨d,rfl⟩:=Nat.exists_eq_add_of_le hm
 clear hm
 induction d with
 |zero=>exact fun _ _=>h
 |succ d ih=>
  intro hn hs i j hij hj
  have ihm:=ih (by omega) fun k x y=>hs k x (by omega)
  rw[show a+ (d+ 1)=(a+ d)+ 1 by omega]at hs hn hj
  have hm:a<=a+ d:=by omega
  generalize a+ d=m at ihm hs hn hj hm
  rcases Nat.lt_or_ge j m with c|c
  ·exact ihm i j hij c
  ·have ej:j=m:=by omega
   subst ej
   have hl:=hs j hm (by omega)
   have hpm:=(hp.up hm (by omega)).pr i (by omega)
   have ej:=hp.un j hm (by omega)
   refine⟨?_,.inr (by rw[ej];exact hpm)⟩
   rcases Nat.lt_or_ge i (j- 1)with d|d
   ·exact O.tr (ihm i (j- 1) d (by omega)).1 hl
   ·have:i=j- 1:=by omega
    rw[this];exact hl
structure Dn(lt:Nat->Nat->Bool)(n:Nat)(p:Array Nat)(m q:Nat):Prop where
 qm:q+ 1<=m
 mn:m<=n
 f:Pf n p (m- (q+ 1))
 d:Dd lt p (m- q)
 e:∀k,m- q<=k->k<m->lt k (k- 1)=false/\lt (k- 1) k=false
theorem Dn.eq(O:fG lt){n:Nat}{p:Array Nat}{m q:Nat}(D:Dn lt n p m q):∀t,m- (q+ 1)<=t->t<m->lt t (m- (q+ 1))=false/\lt (m- (q+ 1)) t=false:=by
 intro t ht
 obtain⟨d,rfl⟩:=Nat.exists_eq_add_of_le ht
 clear ht
 induction d with
 |zero=>
  intro _
  have:lt (m- (q+ 1)) (m- (q+ 1))=false:=by
   cases e:lt (m- (q+ 1)) (m- (q+ 1))with
   |false=>rfl
   |true=>have:=O.as e;rw[e]at this;exact this
  exact⟨this,this⟩
 |succ d ih=>
  intro htm
  have h1:=ih (by omega)
  have qm:=D.qm
  have h2:=D.e (m- (q+ 1)+ (d+ 1)) (by omega) htm
  rw[show m- (q+ 1)+ (d+ 1)- 1=m- (q+ 1)+ d by omega]at h2
  exact⟨O.tr h1.1 h2.1,O.tr h2.2 h1.2⟩
theorem Dn.flush(O:fG lt){n:Nat}{p:Array Nat}{m q:Nat}(D:Dn lt n p m q){p':Array Nat}(hp:p'=if q>0 then kas_rev p (m- (q+ 1)) m else p):Pf n p' m/\Dd lt p' m/\lt (p'.getD (m- 1) 0) (m- 1)=false/\lt (m- 1) (p'.getD (m- 1) 0)=false:=by
 have qm:=D.qm
 have mn:=D.mn
 have fm:=D.f.up (show m- (q+ 1)<=m by omega) mn
 by_cases h0:q>0
 ·rw[if_pos h0]at hp
  subst hp
  have g:∀k,(kas_rev p (m- (q+ 1)) m).getD k 0=if m- (q+ 1)<=k/\k<m then p.getD (m- (q+ 1)+ m- 1- k) 0 else p.getD k 0:=nS (by omega) (by rw[D.f.sz];exact mn)
  have u:∀k,m- (q+ 1)<=k->k<m->(kas_rev p (m- (q+ 1)) m).getD k 0=m- (q+ 1)+ m- 1- k:=fun k h1 h2=>by
   rw[g,if_pos ⟨h1,h2⟩,D.f.un _ (by omega) (by omega)]
  refine⟨fm.rev mn (by omega),fun i j hij hj=> ?_,?_⟩
  ·rcases Nat.lt_or_ge j (m- (q+ 1))with c|c
   ·rw[g,if_neg (by omega),g,if_neg (by omega)]
    exact D.d i j hij (by omega)
   ·rw[u j c hj]
    rcases Nat.lt_or_ge i (m- (q+ 1))with d|d
    ·rw[g,if_neg (by omega)]
     have s:=D.d i (m- (q+ 1)) d (by omega)
     rw[D.f.un (m- (q+ 1)) (Nat.le_refl _) (by omega)]at s
     have pi:=D.f.pr i d
     have l:lt (m- (q+ 1)) (p.getD i 0)=true:=by
      rcases s.2 with x|x
      ·exact x
      ·omega
     have e:=D.eq O (m- (q+ 1)+ m- 1- j) (by omega) (by omega)
     exact⟨O.as (O.le_lt e.2 l),.inl (O.le_lt e.2 l)⟩
    ·rw[u i d (by omega)]
     have e1:=D.eq O (m- (q+ 1)+ m- 1- j) (by omega) (by omega)
     have e2:=D.eq O (m- (q+ 1)+ m- 1- i) (by omega) (by omega)
     exact⟨O.tr e1.2 e2.1,.inr (by omega)⟩
  ·rw[u (m- 1) (by omega) (by omega),show m- (q+ 1)+ m- 1- (m- 1)=m- (q+ 1)by omega]
   have e:=D.eq O (m- 1) (by omega) (by omega)
   exact⟨e.2,e.1⟩
 ·rw[if_neg h0]at hp
  subst hp
  have q0:q=0:=by omega
  subst q0
  have d:=D.d
  rw[Nat.sub_zero]at d
  have um:=D.f.un (m- 1) (by omega) (by omega)
  rw[um]
  have e:=D.eq O (m- 1) (by omega) (by omega)
  exact⟨fm,d,e.1,e.2⟩
theorem uG(O:fG lt){n:Nat}:∀(f:Nat) (p:Array Nat) (m q:Nat),Dn lt n p m q->m+ f=n->Dn lt n (bG lt (kas_desc f p m q)).1 (bG lt (kas_desc f p m q)).2.1 (bG lt (kas_desc f p m q)).2.2
 |0,p,m,q,D,_=>D
 |f+ 1,p,m,q,D,hf=>by
  have qm:=D.qm
  have mn:=D.mn
  have um:=D.f.un m (by omega) (by omega)
  have ul:=D.f.un (m- 1) (by omega) (by omega)
  have e:bG lt (kas_desc (f+ 1) p m q)=bG lt (if lt (p.getD m 0) (p.getD (m- 1) 0)=true then(if q>0 then kas_desc f (kas_rev p (m- (q+ 1)) m) (m+ 1) 0 else kas_desc f p (m+ 1) 0) else .ask (p.getD (m- 1) 0) (p.getD m 0) fun d=>if d=true then .ret (p,m,q) else kas_desc f p (m+ 1) (q+ 1)):=rfl
  rw[e,um,ul]
  by_cases h:lt m (m- 1)=true
  ·rw[if_pos h]
   have key:∀p',(p'=if q>0 then kas_rev p (m- (q+ 1)) m else p)->Dn lt n p' (m+ 1) 0:=fun p' hp=>by
    obtain⟨a1,a2,a3,a4⟩:=D.flush O hp
    refine⟨by omega,by omega,by rw[Nat.zero_add,Nat.add_sub_cancel];exact a1,fun i j hij hj=> ?_,fun k h1 h2=>by omega⟩
    rcases Nat.lt_or_ge j m with c|c
    ·exact a2 i j hij c
    ·have ej:j=m:=by omega
     subst ej
     rw[a1.un j (Nat.le_refl _) (by omega)]
     have l0:lt j (p'.getD (j- 1) 0)=true:=O.lt_le h a3
     have l:lt j (p'.getD i 0)=true:=by
      rcases Nat.lt_or_ge i (j- 1)with d|d
      ·exact O.lt_le l0 (a2 i (j- 1) d (by omega)).1
      ·have:i=j- 1:=by omega
       rw[this];exact l0
     exact⟨O.as l,.inl l⟩
   by_cases h0:q>0
   ·rw[if_pos h0]
    exact uG O f _ (m+ 1) 0 (key _ (by rw[if_pos h0])) (by omega)
   ·rw[if_neg h0]
    exact uG O f _ (m+ 1) 0 (key _ (by rw[if_neg h0])) (by omega)
  ·rw[if_neg h]
   have e2:bG lt (.ask (m- 1) m fun d=>if d=true then KasT.ret (p,m,q) else kas_desc f p (m+ 1) (q+ 1))=bG lt (if lt (m- 1) m=true then KasT.ret (p,m,q) else kas_desc f p (m+ 1) (q+ 1)):=rfl
   rw[e2]
   by_cases h2:lt (m- 1) m=true
   ·rw[if_pos h2];exact D
   ·rw[if_neg h2]
    refine uG O f p (m+ 1) (q+ 1) ⟨by omega,by omega,by rw[show m+ 1- (q+ 1+ 1)=m- (q+ 1)by omega];exact D.f,by rw[show m+ 1- (q+ 1)=m- q by omega];exact D.d,fun k a b=> ?_⟩ (by omega)
    rcases Nat.lt_or_ge k m with c|c
    ·exact D.e k (by omega) c
    ·have:k=m:=by omega
     rw[this]
     exact⟨Bool.eq_false_iff.mpr h,Bool.eq_false_iff.mpr h2⟩
theorem a8d(O:fG lt){n m:Nat}{p:Array Nat}(hp:Pf n p m)(hd:Dd lt p m)(h1:1<=m)(hm:m<=n):Pf n (bG lt (kas_tail3 m n p)).2 (bG lt (kas_tail3 m n p)).1/\Sd lt (bG lt (kas_tail3 m n p)).2 (bG lt (kas_tail3 m n p)).1/\1<=(bG lt (kas_tail3 m n p)).1/\(bG lt (kas_tail3 m n p)).1<=n:=by
 unfold kas_tail3
 rw[pQ]
 have f:=hp.rev hm (Nat.zero_le _)
 have s:Sd lt (kas_rev p 0 m) m:=fun i j hij hj=>by
  rw[nS (Nat.zero_le _) (by rw[hp.sz];exact hm),if_pos ⟨Nat.zero_le _,by omega⟩,nS (Nat.zero_le _) (by rw[hp.sz];exact hm),if_pos ⟨Nat.zero_le _,hj⟩]
  exact hd _ _ (by omega) (by omega)
 obtain⟨a1,a2,a3,_⟩:=a0n (lt:=lt) (p:=kas_rev p 0 m) (n- m) m
 show Pf n (kas_rev p 0 m) (bG lt (kas_asc (kas_rev p 0 m) (n- m) m))/\Sd lt (kas_rev p 0 m) (bG lt (kas_asc (kas_rev p 0 m) (n- m) m))/\_
 exact⟨f.up a1 (by omega),s.asc O f h1 _ a1 (by omega) a3,(show 1<=bG lt (kas_asc (kas_rev p 0 m) (n- m) m)by omega),(show bG lt (kas_asc (kas_rev p 0 m) (n- m) m)<=n by omega)⟩
theorem a1W(O:fG lt){n m:Nat}{p:Array Nat}(D:Dn lt n p (m+ 1) 0)(hm:m+ 1<=n):Pf n (bG lt (kas_descPart m n p)).2 (bG lt (kas_descPart m n p)).1/\Sd lt (bG lt (kas_descPart m n p)).2 (bG lt (kas_descPart m n p)).1/\1<=(bG lt (kas_descPart m n p)).1/\(bG lt (kas_descPart m n p)).1<=n:=by
 unfold kas_descPart
 rw[pQ]
 have D':=uG O (n- (m+ 1)) p (m+ 1) 0 D (by omega)
 generalize bG lt (kas_desc (n- (m+ 1)) p (m+ 1) 0)=r at D'
 obtain⟨p',m',q'⟩:=r
 have D':Dn lt n p' m' q':=D'
 have e:(if q'>0 then kas_tail3 m' n (kas_rev p' (m'- (q'+ 1)) m') else kas_tail3 m' n p')=kas_tail3 m' n (if q'>0 then kas_rev p' (m'- (q'+ 1)) m' else p'):=by split<;>rfl
 show Pf n (bG lt (if q'>0 then kas_tail3 m' n (kas_rev p' (m'- (q'+ 1)) m') else kas_tail3 m' n p')).2 _/\_
 rw[e]
 obtain⟨a1,a2,_⟩:=D'.flush O rfl
 exact a8d O a1 a2 (by have:=D'.qm;omega) D'.mn
theorem a6x{n:Nat}:Pf n (List.toArray (List.range n)) 0:=by
 refine⟨by simp,Array.Perm.refl _,fun k _ hk=> ?_,fun k hk=>by omega⟩
 rw[Array.getD_eq_getD_getElem?]
 simp[hk]
theorem a7s(O:fG lt){n:Nat}(h1:1<=n):Pf n (bG lt (kas_count n (List.toArray (List.range n)))).2 (bG lt (kas_count n (List.toArray (List.range n)))).1/\Sd lt (bG lt (kas_count n (List.toArray (List.range n)))).2 (bG lt (kas_count n (List.toArray (List.range n)))).1/\1<=(bG lt (kas_count n (List.toArray (List.range n)))).1/\(bG lt (kas_count n (List.toArray (List.range n)))).1<=n:=by
 unfold kas_count
 rw[pQ]
 have f0:Pf n (List.toArray (List.range n)) 0:=a6x
 generalize List.toArray (List.range n)=p at f0
 have f1:=f0.up (show 0<=1 by decide) h1
 have s1:Sd lt p 1:=fun i j hij hj=>by omega
 obtain⟨a1,a2,a3,a4⟩:=a0n (lt:=lt) (p:=p) (n- 1) 1
 generalize bG lt (kas_asc p (n- 1) 1)=m at a1 a2 a3 a4
 have sm:=s1.asc O f1 (Nat.le_refl _) m a1 (by omega) a3
 have fm:=f1.up a1 (by omega)
 have g:∀k,k<n->p.getD k 0=k:=fun k hk=>f0.un k (Nat.zero_le _) hk
 by_cases e:m=n
 ·rw[if_pos (by simp[e])]
  exact⟨fm,sm,a1,(show m<=n by omega)⟩
 rw[if_neg (by simp[e])]
 have hl:=a4 (by omega)
 rw[g m (by omega),g (m- 1) (by omega)]at hl
 by_cases hm:m>1
 ·rw[if_pos hm]
  have e2:∀T,bG lt (.ask (p.getD 0 0) (p.getD (m- 1) 0) fun c=>if c=true then KasT.ret (m,p) else T)=bG lt (if lt (p.getD 0 0) (p.getD (m- 1) 0)=true then KasT.ret (m,p) else T):=fun T=>rfl
  rw[e2,g 0 (by omega),g (m- 1) (by omega)]
  by_cases hc:lt 0 (m- 1)=true
  ·rw[if_pos hc]
   exact⟨fm,sm,a1,(show m<=n by omega)⟩
  ·rw[if_neg hc]
   have hc:lt 0 (m- 1)=false:=Bool.eq_false_iff.mpr hc
   have all:∀k,k<m->lt k 0=false/\lt 0 k=false:=fun k hk=>by
    have l0:lt k 0=false:=by
     rcases Nat.eq_zero_or_pos k with h0|h0
     ·subst h0
      cases e:lt 0 0 with
      |false=>rfl
      |true=>have:=O.as e;rw[e]at this;exact this
     ·have:=(sm 0 k h0 hk).1
      rw[g k (by omega),g 0 (by omega)]at this
      exact this
    refine⟨l0,?_⟩
    rcases Nat.lt_or_ge k (m- 1)with d|d
    ·have:=(sm k (m- 1) d (by omega)).1
     rw[g k (by omega),g (m- 1) (by omega)]at this
     exact O.tr this hc
    ·have:k=m- 1:=by omega
     rw[this];exact hc
   have gr:∀k,k<m->(kas_rev p 0 m).getD k 0=m- 1- k:=fun k hk=>by
    rw[nS (Nat.zero_le _) (by rw[f0.sz];omega),if_pos ⟨Nat.zero_le _,hk⟩,g _ (by omega)]
    omega
   have fr:=fm.rev (by omega) (Nat.zero_le m)
   refine a1W O ⟨by omega,by omega,by rw[Nat.zero_add,Nat.add_sub_cancel];exact fr,fun i j hij hj=> ?_,fun k h1 h2=>by omega⟩ (by omega)
   rcases Nat.lt_or_ge j m with c|c
   ·rw[gr j c,gr i (by omega)]
    have e1:=all (m- 1- j) (by omega)
    have e2:=all (m- 1- i) (by omega)
    exact⟨O.tr e1.2 e2.1,.inr (by omega)⟩
   ·have ej:j=m:=by omega
    subst ej
    rw[fr.un j (Nat.le_refl _) (by omega),gr i (by omega)]
    have e1:=all (j- 1) (by omega)
    have e2:=all (j- 1- i) (by omega)
    have l:lt j (j- 1- i)=true:=O.lt_le (O.lt_le hl e1.2) e2.1
    exact⟨O.as l,.inl l⟩
 ·rw[if_neg hm]
  have em:m=1:=by omega
  subst em
  refine a1W O ⟨by omega,by omega,f1,fun i j hij hj=> ?_,fun k h1 h2=>by omega⟩ (by omega)
  have ei:i=0:=by omega
  have ej:j=1:=by omega
  subst ei ej
  rw[g 1 (by omega),g 0 (by omega)]
  exact⟨O.as hl,.inl hl⟩
theorem vX(O:fG lt){p:Array Nat}{k:Nat}(hs:Sd lt p k):∀(f l r:Nat),l<=r->r<=k->r- l<=f->(∀j,j<l->lt (p.getD k 0) (p.getD j 0)=false)->(∀j,r<=j->j<k->lt (p.getD k 0) (p.getD j 0)=true)->
 bG lt (kas_place p k f l r)<=k/\(∀j,j<bG lt (kas_place p k f l r)->lt (p.getD k 0) (p.getD j 0)=false)/\∀j,bG lt (kas_place p k f l r)<=j->j<k->lt (p.getD k 0) (p.getD j 0)=true
 |0,l,r,h1,h2,h3,h4,h5=>by
  have:l=r:=by omega
  subst this
  exact⟨h2,h4,h5⟩
 |f+ 1,l,r,h1,h2,h3,h4,h5=>by
  have e:bG lt (kas_place p k (f+ 1) l r)=bG lt (if l>=r then KasT.ret l else .ask (p.getD k 0) (p.getD ((l+ r)/ 2) 0) fun c=>if c=true then kas_place p k f l ((l+ r)/ 2) else kas_place p k f ((l+ r)/ 2+ 1) r):=rfl
  rw[e]
  by_cases hlr:l>=r
  ·rw[if_pos hlr]
   have:l=r:=by omega
   subst this
   exact⟨h2,h4,h5⟩
  rw[if_neg hlr]
  have e2:bG lt (.ask (p.getD k 0) (p.getD ((l+ r)/ 2) 0) fun c=>if c=true then kas_place p k f l ((l+ r)/ 2) else kas_place p k f ((l+ r)/ 2+ 1) r)=bG lt (if lt (p.getD k 0) (p.getD ((l+ r)/ 2) 0)=true then kas_place p k f l ((l+ r)/ 2) else kas_place p k f ((l+ r)/ 2+ 1) r):=rfl
  rw[e2]
  by_cases hc:lt (p.getD k 0) (p.getD ((l+ r)/ 2) 0)=true
  ·rw[if_pos hc]
   refine vX O hs f l ((l+ r)/ 2) (by omega) (by omega) (by omega) h4 fun j a b=> ?_
   rcases Nat.lt_or_ge ((l+ r)/ 2) j with d|d
   ·exact O.lt_le hc (hs _ j d b).1
   ·have:j=(l+ r)/ 2:=by omega
    rw[this];exact hc
  ·rw[if_neg hc]
   have hc:lt (p.getD k 0) (p.getD ((l+ r)/ 2) 0)=false:=Bool.eq_false_iff.mpr hc
   refine vX O hs f ((l+ r)/ 2+ 1) r (by omega) h2 (by omega) (fun j a=> ?_) h5
   rcases Nat.lt_or_ge j ((l+ r)/ 2)with d|d
   ·cases e3:lt (p.getD k 0) (p.getD j 0)with
    |false=>rfl
    |true=>
     have:=O.lt_le e3 (hs j ((l+ r)/ 2) d (by omega)).1
     rw[hc]at this;cases this
   ·have:j=(l+ r)/ 2:=by omega
    rw[this];exact hc
theorem a0r(O:fG lt){n:Nat}:∀(f:Nat) (p:Array Nat) (k:Nat),Pf n p k->Sd lt p k->k+ f=n->Pf n (bG lt (kas_bin f p k)) n/\Sd lt (bG lt (kas_bin f p k)) n
 |0,p,k,hp,hs,hk=>by
  have:k=n:=by omega
  subst this
  exact⟨hp,hs⟩
 |f+ 1,p,k,hp,hs,hk=>by
  have e:bG lt (kas_bin (f+ 1) p k)=bG lt (kas_bin f (bubble p k (k- bG lt (kas_place p k k 0 k))) (k+ 1)):=pQ _
  rw[e]
  obtain⟨b1,b2,b3⟩:=vX O hs k 0 k (Nat.zero_le _) (Nat.le_refl _) (by omega) (fun j h=>by omega) (fun j h1 h2=>by omega)
  generalize bG lt (kas_place p k k 0 k)=l at b1 b2 b3
  have g:∀x,(bubble p k (k- l)).getD x 0=if x=l then p.getD k 0 else if l<x/\x<=k then p.getD (x- 1) 0 else p.getD x 0:=a1D b1 (by rw[hp.sz];omega)
  have uk:=hp.un k (Nat.le_refl _) (by omega)
  refine a0r O f _ (k+ 1) ⟨by rw[bubble_size];exact hp.sz,(bubble_perm _ _ _).trans hp.pm,fun x h1 h2=> ?_,fun x hx=> ?_⟩ (fun i j hij hj=> ?_) (by omega)
  ·rw[g,if_neg (by omega),if_neg (by omega)]
   exact hp.un x (by omega) h2
  ·rw[g]
   split
   ·rw[uk];omega
   ·split
    ·have:=hp.pr (x- 1) (by omega);omega
    ·have:=hp.pr x (by omega);omega
  ·rw[g i,g j]
   by_cases c1:i=l
   ·rw[if_pos c1,if_neg (by omega),if_pos (by omega)]
    have l1:=b3 (j- 1) (by omega) (by omega)
    exact⟨O.as l1,.inl l1⟩
   rw[if_neg c1]
   by_cases c2:j=l
   ·rw[if_pos c2,if_neg (by omega)]
    have:=hp.pr i (by omega)
    exact⟨b2 i (by omega),.inr (by rw[uk];exact this)⟩
   rw[if_neg c2]
   by_cases c3:l<i/\i<=k
   ·rw[if_pos c3,if_pos (by omega)]
    exact hs (i- 1) (j- 1) (by omega) (by omega)
   rw[if_neg c3]
   by_cases c4:l<j/\j<=k
   ·rw[if_pos c4]
    rcases Nat.lt_or_ge i (j- 1)with d|d
    ·exact hs i (j- 1) d (by omega)
    ·omega
   ·rw[if_neg c4]
    exact hs i j hij (by omega)
theorem a6p(O:fG lt){n:Nat}(h:0<n):(bG lt (kas_sort n)).size=n/\(bG lt (kas_sort n)).Perm (List.toArray (List.range n))/\Sd lt (bG lt (kas_sort n)) n:=by
 unfold kas_sort
 rw[pQ]
 obtain⟨a1,a2,a3,a4⟩:=a7s O h
 generalize bG lt (kas_count n (List.toArray (List.range n)))=r at a1 a2 a3 a4
 by_cases hr:r.1<n
 ·rw[if_pos hr]
  have:max r.1 1=r.1:=by omega
  rw[this]
  obtain⟨b1,b2⟩:=a0r O (n- r.1) r.2 r.1 a1 a2 (by omega)
  exact⟨b1.sz,b1.pm,b2⟩
 ·rw[if_neg hr]
  have:r.1=n:=by omega
  rw[this]at a1 a2
  exact⟨a1.sz,a1.pm,a2⟩
end
end L2
namespace L2
open PySem PySem.Spec PySem.W PyProof.Rows
section
structure vC(prog:Program)(w:World)(A:Around)(s:Shared)(vs:List Value)(κ:SortKind)(lt:Nat->Nat->Bool):Prop where
 kind:2<=vs.length->∀(h':Heap) (tk:Nat),(∀b o,s.heap.get? b=some o->h'.get? b=some o)->∀Q':SortKind->Shared->Prop,(∀tk',Q' κ {s with heap:=h',toks:=tk'})->wpAny (model prog w) A (keyKind' vs.toArray) Q' (fun _ _=>False) {s with heap:=h',toks:=tk}
 ask:∀(h':Heap) (tk:Nat),(∀b o,s.heap.get? b=some o->h'.get? b=some o)->∀(i j:Nat) (C:Bool->Shared->Prop),i<vs.length->j<vs.length->(∀tk',C (lt i j) {s with heap:=h',toks:=tk'})->kas_ask prog w A κ vs i j C {s with heap:=h',toks:=tk}
theorem a8Q{vs:List Value}{n:Nat}{κ:SortKind}{lt:Nat->Nat->Bool}{P:PySem.Fin->Shared->Prop}(ho:s.heap.get? a=some (seqObj "list" vs.toArray n))(h64:vs.length<64)(O:fG lt){h0:Heap}(k0:∀b o,h0.get? b=some o->b≠a/\s.heap.get? b=some o)(C:vC prog w A {s with heap:=h0} vs κ lt)
 (hP:∀(h':Heap) (tk:Nat) (p:Array Nat) (e:Nat),p.size=vs.length->p.Perm (List.toArray (List.range vs.length))->Sd lt p vs.length->h'.get? a=some (seqObj "list" (List.toArray (p.toList.map fun i=>vs.getD i Value.none)) e)->(∀b o,b≠a->s.heap.get? b=some o->h'.get? b=some o)->P (.done (.ret .none)) {s with heap:=h',toks:=tk}):
 wpAny (model prog w) A (Builtin.«list.sort» ⟨[.ref a],[]⟩) P E s:=by
 have ha:a<s.heap.objs.size:=Heap.lt_size ho
 have s1:=Heap.SameBut.update s.heap a (Obj.mapSeq fun _=>(#[]:Array Value))
 obtain⟨e1,ho1⟩:∃e1,(s.heap.update a (Obj.mapSeq fun _=>(#[]:Array Value))).get? a=some (seqObj "list" #[] e1):=⟨_,get?_update_seq ho fun _=> #[]⟩
 have keep:∀b o,b≠a->s.heap.get? b=some o->(((s.heap.update a (Obj.mapSeq fun _=>(#[]:Array Value))).push (seqObj "tuple" vs.toArray 0)).push (seqObj "list" #[] 0)).get? b=some o:=fun b o n q=>Heap.get?_push_of_some _ (Heap.get?_push_of_some _ ((s1.2 b n).trans q))
 have oa:(((s.heap.update a (Obj.mapSeq fun _=>(#[]:Array Value))).push (seqObj "tuple" vs.toArray 0)).push (seqObj "list" #[] 0)).get? a=some (seqObj "list" #[] e1):=Heap.get?_push_of_some _ (Heap.get?_push_of_some _ ho1)
 rw[list_sort_plain]
 refine wpAny_bind (listItems_at ho rfl ?_)
 refine wpAny_bind (listUpdate_at ho rfl ?_ (by rw[List.size_toArray,sizeLine_eq];omega) (Nat.zero_le _))
 refine wpAny_bind (seqEpoch_at ho1 rfl ?_)
 refine wpAny_bind (wpAny_newTuple ?_ (by show vs.length<=_;rw[sizeLine_eq];omega))
 refine wpAny_bind (wpAny_newList ?_ (Nat.zero_le _))
 refine wpAny_holding ?_
 show wpAny (model prog w) A _ P E {s with heap:=((s.heap.update a (Obj.mapSeq fun _=>(#[]:Array Value))).push (seqObj "tuple" vs.toArray 0)).push (seqObj "list" #[] 0)}
 generalize ((s.heap.update a (Obj.mapSeq fun _=>(#[]:Array Value))).push (seqObj "tuple" vs.toArray 0)).push (seqObj "list" #[] 0)=h1 at keep oa|-
 dsimp only
 have fin:∀(st':SortSt) (tk:Nat) (p:Array Nat),p.size=vs.length->p.Perm (List.toArray (List.range vs.length))->Sd lt p vs.length->(arrOf st').map (·.2)=List.toArray (p.toList.map fun i=>vs.getD i Value.none)->failedOf st'=none->
  wpAny (model prog w) A (do
   let touched:=(<- seqEpoch a) !=e1
   Builtin.List.listUpdate (.ref a) fun _=>(arrOf st').map (·.2)
   if let some e:=failedOf st' then rule "list.sort.comparison-raised";throw e
   if touched then rule "list.sort.modified";raiseError "ValueError" "list modified during sort"
   ret .none) P E {s with heap:=h1,toks:=tk}:=fun st' tk p z1 z2 z3 hout hf=>by
  have hsz:(List.toArray (p.toList.map fun i=>vs.getD i Value.none)).size=vs.length:=by rw[List.size_toArray,List.length_map,Array.length_toList,z1]
  rw[hout]
  have s2:=Heap.SameBut.update h1 a (Obj.mapSeq fun _=>List.toArray (p.toList.map fun i=>vs.getD i Value.none))
  obtain⟨c2,hc2⟩:∃c2,(h1.update a (Obj.mapSeq fun _=>List.toArray (p.toList.map fun i=>vs.getD i Value.none))).get? a=some (seqObj "list" (List.toArray (p.toList.map fun i=>vs.getD i Value.none)) c2):=⟨_,get?_update_seq oa fun _=>List.toArray (p.toList.map fun i=>vs.getD i Value.none)⟩
  refine wpAny_bind (seqEpoch_at (s:={s with heap:=h1,toks:=tk}) oa rfl ?_)
  refine wpAny_bind (listUpdate_at (s:={s with heap:=h1,toks:=tk}) oa rfl ?_ (Nat.zero_le _) (Nat.le_trans (Nat.le_of_eq hsz) (by rw[sizeLine_eq];omega)))
  rw[hf]
  simp only[bne_self_eq_false,Bool.false_eq_true,if_false]
  refine wpAny_pure (hP _ tk p c2 z1 z2 z3 hc2 fun b o n q=>(s2.2 b n).trans (keep b o n q))
 by_cases h2:vs.toArray.size<2
 ·rw[if_pos h2,if_pos h2]
  have hl:vs.length<2:=by rw[List.size_toArray]at h2;exact h2
  refine wpAny_bind (wpAny_pure ?_)
  refine wpAny_bind (wpAny_pure ?_)
  refine fin _ s.toks (List.toArray (List.range vs.length)) (by simp) (Array.Perm.refl _) (fun i j hij hj=>by omega) ?_ rfl
  show((vs.toArray.zip vs.toArray).map (·.2))=_
  match vs,hl with
  | [],_=>simp
  | [v],_=>simp
 ·rw[if_neg h2,if_neg h2]
  have h2:2<=vs.length:=by rw[List.size_toArray]at h2;omega
  have kk:∀b o,h0.get? b=some o->h1.get? b=some o:=fun b o q=>keep b o (k0 b o q).1 (k0 b o q).2
  refine wpAny_bind (wpAny_mono (C.kind h2 h1 s.toks kk (fun κ' s'=>κ'=κ/\∃tk,s'={s with heap:=h1,toks:=tk}) fun tk'=>⟨rfl,tk',rfl⟩) ?_ fun _ _ e=>e.elim)
  rintro κ' s' ⟨rfl,tk,rfl⟩
  have est:SortSt.mk' κ' (vs.toArray.zip vs.toArray) #[] 7 none=kas_st κ' (pairsOf vs) (List.toArray (List.range vs.length)):=by
   have e:=kas_range (pairsOf vs)
   rw[pairsOf_size]at e
   show SortSt.mk' κ' (pairsOf vs) #[] 7 none=SortSt.mk' κ' ((List.toArray (List.range vs.length)).map (kas_item (pairsOf vs))) #[] 7 none
   rw[e]
  have ask:(kas_sort vs.length).kasWp (kas_ask prog w A κ' vs) (fun p s'=>p=bG lt (kas_sort vs.length)/\∃tk,s'={s with heap:=h1,toks:=tk}) {s with heap:=h1,toks:=tk}:=by
   refine OkK.wp (J:=fun s'=>∃tk,s'={s with heap:=h1,toks:=tk}) (lt:=lt) (n:=vs.length) (fun i j C' s' hi hj js hC=> ?_) (a4l (by omega)) ⟨tk,rfl⟩ fun s' js=>⟨rfl,js⟩
   obtain⟨tk2,rfl⟩:=js
   exact C.ask h1 tk2 kk i j C' hi hj fun tk3=>hC _ ⟨tk3,rfl⟩
  rw[kas_ask_eq]at ask
  have run:=kas_runs (E:=E) (Q:=fun _ st' s'=>∃p:Array Nat,p.size=vs.length/\arrOf st'=p.map (kas_item (pairsOf vs))/\failedOf st'=none/\p=bG lt (kas_sort vs.length)/\∃tk,s'={s with heap:=h1,toks:=tk})
   h2 h64 (fun p' st' s' a1 a2 a3 a4=>⟨p',a1,a2,a3,a4⟩) ask
  rw[<- est]at run
  refine wpAny_bind (wpAny_mono run ?_ fun _ _ e=>e)
  rintro⟨⟨⟩,st'⟩ s' ⟨p,hp,har,hf,hrun,tk3,rfl⟩
  have hout:(arrOf st').map (·.2)=List.toArray (p.toList.map fun i=>vs.getD i Value.none):=by
   apply Array.toList_inj.mp
   rw[har,Array.map_map,Array.toList_map]
   exact List.map_congr_left fun i _=>by show(kas_item (pairsOf vs) i).2=_;rw[kas_item_eq]
  obtain⟨b1,b2,b3⟩:=a6p O (n:=vs.length) (by omega)
  exact fin st' tk3 p hp (by rw[hrun];exact b2) (by rw[hrun];exact b3) hout hf
theorem a5d{vs:List Value}{κ:SortKind}{lt:Nat->Nat->Bool}(hl:s.heap.IsList l vs.toArray)(h64:vs.length<64)(O:fG lt)(C:vC prog w A.in1.in1 s vs κ lt)
 (hQ:∀(h':Heap) (tk:Nat) (p:Array Nat) (D:Addr) (e:Nat),s.heap.objs.size<=D->p.size=vs.length->p.Perm (List.toArray (List.range vs.length))->Sd lt p vs.length->h'.get? D=some (seqObj "list" (List.toArray (p.toList.map fun i=>vs.getD i Value.none)) e)->(∀b o,s.heap.get? b=some o->h'.get? b=some o)->Q (.ref D) {s with heap:=h',toks:=tk}):
 wpAny (model prog w) A (call (.builtin "sorted") [.ref l]) Q E s:=by
 refine Calls.call_function_entry kind_sorted plain_sorted entry_sorted (args_sorted1 _) ?_
 unfold Builtin.«sorted»
 refine wpAny_bind (m:=checkCount "sorted" 1 1 _) (wpAny_pure ?_)
 refine wpAny_bind (collect_list hl ?_ (by rw[sizeLine_eq];omega))
 refine wpAny_bind (wpAny_newList ?_ (by rw[sizeLine_eq];omega))
 have hsz:((s.heap.push (seqObj "list" #[] 0)).update s.heap.objs.size (Obj.mapSeq (· ++ vs.toArray))).objs.size=s.heap.objs.size+ 1:=by
  rw[Heap.size_update,size_push']
 have hoL:(((s.heap.push (seqObj "list" #[] 0)).update s.heap.objs.size (Obj.mapSeq (· ++ vs.toArray))).push (seqObj "list" vs.toArray 0)).get? (s.heap.objs.size+ 1)=some (seqObj "list" vs.toArray 0):=by
  rw[<- hsz];exact Heap.get?_push_size _ rfl
 have keep:∀b o,s.heap.get? b=some o->(((s.heap.push (seqObj "list" #[] 0)).update s.heap.objs.size (Obj.mapSeq (· ++ vs.toArray))).push (seqObj "list" vs.toArray 0)).get? b=some o:=fun b o q=>by
  have hlt:b<s.heap.objs.size:=Heap.lt_size q
  rw[Heap.get?_push_ne _ _ _ (by rw[hsz];exact Nat.ne_of_lt (Nat.lt_succ_of_lt hlt)),Heap.get?_update_ne _ _ _ _ (Nat.ne_of_lt hlt),Heap.get?_push_ne _ _ _ (Nat.ne_of_lt hlt)]
  exact q
 show wpAny _ _ _ _ _ {s with heap:=((s.heap.push (seqObj "list" #[] 0)).update s.heap.objs.size (Obj.mapSeq (· ++ vs.toArray))).push (seqObj "list" vs.toArray 0)}
 rw[hsz]
 generalize ((s.heap.push (seqObj "list" #[] 0)).update s.heap.objs.size (Obj.mapSeq (· ++ vs.toArray))).push (seqObj "list" vs.toArray 0)=h1 at hoL keep|-
 refine wpAny_bind (wpAny_holding (wpAny_call_entry slot_list_sort ⟨_,hoL,rfl⟩ entry_list_sort ?body (args_list_sort _)))
 case body=>
  refine a8Q (s:={s with heap:=h1}) (h0:=s.heap) hoL h64 O (fun b o q=>⟨Nat.ne_of_lt (Nat.lt_succ_of_lt (Heap.lt_size q)),keep b o q⟩) C fun h' tk p e z1 z2 z3 z4 z5=> ?_
  exact⟨_,rfl,wpAny_pure ⟨_,rfl,hQ h' tk p _ e (Nat.le_succ _) z1 z2 z3 z4 fun b o q=>z5 b o (Nat.ne_of_lt (Nat.lt_succ_of_lt (Heap.lt_size q))) (keep b o q)⟩⟩
end
noncomputable def jP (ns:List Int) (i j:Nat):Bool:=decide (ns.getD i 0<ns.getD j 0)
theorem a5a(ns:List Int):fG (jP ns):=by
 refine⟨fun{i j} h=> ?_,fun{i j k} h1 h2=> ?_⟩
 ·unfold jP at h|-
  rw[decide_eq_true_eq]at h
  rw[decide_eq_false_iff_not];omega
 ·unfold jP at h1 h2|-
  rw[decide_eq_false_iff_not]at h1 h2|-;omega
section
theorem a0d:∀{ys:List V} {us:List Value} {i:Nat},aX ys us->i<ys.length->aZ (ys.getD i .non) (us.getD i Value.none)
 |_,_,0,.cons h _,_=>h
 |_,_,i+ 1,.cons _ t,h=>by simpa using a0d t (Nat.lt_of_succ_lt_succ h)
theorem a3A{ys:List V}{us:List Value}(r:aX ys us):∀{is:List Nat},(∀i∈is,i<ys.length)->aX (is.map fun i=>ys.getD i .non) (is.map fun i=>us.getD i Value.none)
 | [],_=> .nil
 |i::is,h=> .cons (a0d r (h i List.mem_cons_self)) (a3A r fun j hj=>h j (List.mem_cons_of_mem _ hj))
theorem sH{p:Array Nat}{n:Nat}(h:p.Perm (List.toArray (List.range n)))(hi:i∈p.toList):i<n:=by
 have:=h.toList.mem_iff.mp hi
 simpa using this
theorem a5x{κ:SortKind}{R:List V->Hp->(Nat->Nat->Bool)->Prop}(hR:∀(pins:List (Addr×Obj)) (s:Shared) (σ:St) (H:Hp) (ys:List V) (us:List Value) (lt:Nat->Nat->Bool),aD X pins σ H s->aX ys us->R ys H lt->vC X.prog X.w X.A.in1.in1 s us κ lt):
 iK X (.builtin "sorted") (fun xs H Q=>∃(l:Addr) (ys:List V) (lt:Nat->Nat->Bool),xs= [.ref l] /\aN X.K H l ys/\ys.length<64/\fG lt/\R ys H lt/\∀(D:Addr) (p:Array Nat),H D=none->p.size=ys.length->p.Perm (List.toArray (List.range ys.length))->Sd lt p ys.length->Q (.ref D) (upd H D (.lst (p.toList.map fun i=>ys.getD i .non)))):=by
 intro pins s σ H xs us Q I r h
 obtain⟨l,ys,lt,rfl,hq,h64,O,hr,q⟩:=h
 obtain⟨u,rfl,ru⟩:=r.one
 cases ru
 obtain⟨its,rv,pl,hz⟩:=I.list hq
 have hl:ys.length=its.length:=rv.length
 refine a5d pl.isList (by omega) O (hR pins s σ H ys its lt I rv hr) fun h' tk p D e hD z1 z2 z3 z4 z5=> ?_
 have hDn:H D=none:=I.hok.fresh hD
 rw[<- hl]at z1 z2 z3
 refine⟨.ref D,_,I.laid (t':=tk) (o:=.lst (p.toList.map fun i=>ys.getD i .non)) z5 hD ?_,rfl,q D p hDn z1 z2 z3⟩
 have lp:p.toList.length=ys.length:=by rw[Array.length_toList,z1]
 exact⟨by rw[List.length_map,lp];exact Nat.le_trans (Nat.le_of_lt h64) (by rw[sizeLine_eq];decide),_,e,a3A rv fun i hi=>sH z2 hi,z4⟩
end
theorem a74:bootBuiltins "sorted"=some (.builtin "sorted"):=by kernel_rfl
section
open PySem.SeqAt
open PySem.AutoSeq1 (wpAny_loadPart')
open PySem.MeetsSeq PySem.MeetsSeq2 PySem.MeetsSeq3
theorem a1h{ns:List Int}{x:Int}(h:ns[i]?=some x):ns.drop i=x::ns.drop (i+ 1):=by
 obtain⟨h1,h2⟩:=List.getElem?_eq_some_iff.mp h
 rw[<- h2]
 exact List.drop_eq_getElem_cons h1
end
section
theorem a8e{Q:Bool->Shared->Prop}(h:Q true s):wpAny (model prog w) A (eqBool u u) Q E s:=by
 unfold eqBool
 refine wpAny_holding ?_
 show wpAny _ _ (if(u==u)=true then _ else _) Q E s
 rw[if_pos (by simp)]
 exact wpAny_bind (wpAny_rule (wpAny_pure h))
end
def oA(K:Fg)(H:Hp):List V->List Int->Prop:=Paired fun x m=>∃a v,x= .ref a/\bU K H a [.int m,v]
theorem a12{K:Fg}{H:Hp}:∀{ys:List V} {ms:List Int} {i:Nat},oA K H ys ms->i<ys.length->∃a v,ys.getD i .non= .ref a/\bU K H a [.int (ms.getD i 0),v]
 |_,_,0,.cons h _,_=>h
 |_,_,i+ 1,.cons _ t,h=>by simpa using a12 t (Nat.lt_of_succ_lt_succ h)
section
theorem a1s(I:aD X pins σ H s){m:Int}{v:V}(h:bU X.K H a [.int m,v]):∃(o:Obj) (t:Tok) (u:Value) (n:Nat),s.heap.get? a=some o/\o.cls= .type "tuple" /\o.data= .seq #[.int m t,u] n:=by
 obtain⟨its,rv,⟨o,ho,hc,n,hd⟩,_⟩:=I.tuple h
 obtain⟨p,u,rfl,rp,ru⟩:=rv.two
 obtain⟨t,rfl⟩:=rp
 exact⟨o,t,u,n,ho,hc,hd⟩
theorem a21{pins:List (Addr×Obj)}{s:Shared}{σ:St}{H:Hp}(I:aD X pins σ H s){h':Heap}(kk:∀b o,s.heap.get? b=some o->h'.get? b=some o):∀{ys:List V} {us:List Value} {ms:List Int},aX ys us->oA X.K H ys ms->∃fs,KatTups h' us fs/\IntsAre fs ms/\fs.length=us.length
 |_,_,_,.nil,.nil=>⟨[],.nil,.nil,rfl⟩
 |_,_,_,.cons r t,.cons h hs=>by
  obtain⟨a,v,rfl,h⟩:=h
  cases r
  obtain⟨o,tk,u,n,ho,hc,hd⟩:=a1s I h
  obtain⟨fs,h1,h2,h3⟩:=a21 I kk t hs
  exact⟨_::fs,.cons (kk _ _ ho) hc hd rfl h1,.cons _ tk h2,by simp[h3]⟩
theorem a3c:∀{vs:List Value} {ns:List Int} {v:Value},IntsAre vs ns->v∈vs->∃n t,v= .int n t
 |_,_,_,.cons n t r,h=>by
  rcases List.mem_cons.mp h with rfl|h
  ·exact⟨n,t,rfl⟩
  ·exact a3c r h
theorem a4t(I:aD X pins σ H s)(r:aX ys us){ms:List Int}(nd:ms.Nodup)(h:oA X.K H ys ms):vC X.prog X.w X.A.in1.in1 s us (tuples' true) (jP ms):=by
 have hl:ys.length=us.length:=r.length
 have hm:ys.length=ms.length:=Paired.length h
 have key:∀i,i<us.length->∃a o t u n,us.getD i Value.none= .ref a/\s.heap.get? a=some o/\o.cls= .type "tuple" /\o.data= .seq #[.int (ms.getD i 0) t,u] n:=fun i hi=>by
  obtain⟨a,v,e1,e2⟩:=a12 h (i:=i) (by omega)
  have rr:=a0d r (i:=i) (by omega)
  rw[e1]at rr
  obtain⟨o,t,u,n,e3,e4,e5⟩:=a1s I e2
  exact⟨a,o,t,u,n,rr,e3,e4,e5⟩
 refine⟨fun h2 h' tk kk Q' hq=> ?_,fun h' tk kk i j C hi hj hC=> ?_⟩
 ·obtain⟨fs,h1,h3,h4⟩:=a21 I kk r h
  refine kat_kind (T:=.type "int") (s:={s with heap:=h',toks:=tk}) h1 (by omega) (fun v hv=> ?_) (by decide) (hq tk)
  obtain⟨n,t,rfl⟩:=a3c h3 hv
  exact .now
 ·obtain⟨a,o,t,u,n,e1,e2,_,e3⟩:=key i hi
  unfold kas_ask
  by_cases e:i=j
  ·subst e
   rw[e1]
   refine kat_lt (kk _ _ e2) e3 (kk _ _ e2) e3 (kat_cons (wpAny_eqBool_int ?_))
   rw[beq_self_eq_true]
   refine kat_yes (kat_cons (a8e (kat_yes (kat_nil ?_))))
   have:=hC tk
   unfold jP at this
   rw[decide_eq_false (Int.lt_irrefl _)]at this
   simpa using this
  ·obtain⟨b,o',t',u',n',f1,f2,_,f3⟩:=key j hj
   rw[e1,f1]
   have ne:ms.getD i 0≠ms.getD j 0:=fun y=>by
    rw[List.getD_eq_getElem?_getD,List.getD_eq_getElem?_getD,List.getElem?_eq_getElem (show i<ms.length by omega),List.getElem?_eq_getElem (show j<ms.length by omega)]at y
    exact e ((List.getElem_inj nd).mp y)
   refine kat_lt (kk _ _ e2) e3 (kk _ _ f2) f3 (kat_cons (wpAny_eqBool_int ?_))
   rw[show (ms.getD i 0==ms.getD j 0)=false by simpa using ne]
   exact kat_no (oneLt_int (hC tk))
theorem a4j:iK X (.builtin "sorted") (fun xs H Q=>∃(l:Addr) (ys:List V) (lt:Nat->Nat->Bool),xs= [.ref l] /\aN X.K H l ys/\ys.length<64/\fG lt/\(∃ms:List Int,ms.Nodup/\oA X.K H ys ms/\lt=jP ms)/\∀(D:Addr) (p:Array Nat),H D=none->p.size=ys.length->p.Perm (List.toArray (List.range ys.length))->Sd lt p ys.length->Q (.ref D) (upd H D (.lst (p.toList.map fun i=>ys.getD i .non)))):=
 a5x (R:=fun ys H lt=>∃ms:List Int,ms.Nodup/\oA X.K H ys ms/\lt=jP ms) (κ:=tuples' true) fun pins s σ H ys us lt I r ⟨ms,e0,e1,e2⟩=>by
  subst e2
  exact a4t I r e0 e1
end
end L2
namespace L2
open PySem PySem.Spec PyProof.Rows
section
theorem na{a:Str}(h:W.findIn K (.ref C) a=some none):cB K C a:=h
theorem a2d{a b:Str}{p:Addr}{t0 t1:Tok}{m:Nat}{sl':Array (Option Value)}(X:K.In h)(G:h.Ns mainGlobals mg)(i:W.nsIn K mainGlobals x=some (some (.ref p)))(j:K.lookup p=some ⟨.type "tuple",od,.seq #[Value.str a t0,Value.str b t1] m,sl'⟩):∃p,mg x=some (.ref p)/\∀H,bU K H p [V.str a,V.str b]:=
 ⟨p,W.mg_of X G i,fun H=> .inr ⟨_,_,_,j,rfl,rfl,sl (by simp),.cons ⟨_,rfl⟩ (.cons ⟨_,rfl⟩ .nil)⟩⟩
theorem a8S{cls:Str}{st:Stmt}{c p:Addr}{wo:Value}{wd:Option Addr}{osl ws:Array (Option Value)}{kV:Value}{vs:Array Value}(X:K.In h)(G:h.Ns mainGlobals mg)(n:W.nsIn K mainGlobals cls=some (some (.ref C)))(a:W.findIn K (.ref C) m=some (some (.ref f)))(i:W.isFn K (.ref f)=true)
 (l:K.lookup f=some ⟨oc,od,.func (W.fnOf m qual (iI st) (eC st) (aO st) .none kV doc pm an (.ref c) ct),osl⟩)(hc:W.codeIn K (.ref c) qual=true)(k:W.keepIn K (.ref f)=true)(w:K.lookup c=some ⟨wo,wd,.fields vs,ws⟩)(t:vs[11]?=some (.ref p))(hd:W.codeHdIn K c p=true):kJ K mg cls m qual st (c,p):=a6S X G n a i l hc k hd
end
end L2
namespace My
open PySem L2
def aV(i:Nat):Stmt:=PySem.Challenge.pw_lazycols_k26_cut_off.main.body.getD i (.Pass ⟨0,0,0,0⟩)
abbrev a08:Stmt:=aV 16
abbrev a29:Stmt:=aV 17
abbrev a18:Stmt:=aV 18
abbrev a2H:Stmt:=aV 19
abbrev a1f:Stmt:=aV 20
abbrev a2E:Stmt:=aV 21
abbrev a1o:Stmt:=aV 25
abbrev a27:Stmt:=aV 26
abbrev a2e:Stmt:=aV 27
abbrev a2J:Stmt:=aV 28
abbrev a3q:Stmt:=aV 36
abbrev a1l:Stmt:=aV 37
abbrev a24:Stmt:=aV 46
abbrev a0K:Stmt:=aV 47
abbrev a3i:Stmt:=aV 48
abbrev a2x:Stmt:=aV 49
abbrev vE:Stmt:=aV 53
abbrev a2B:Stmt:=aV 54
abbrev a0q:Stmt:=aV 55
abbrev kK:Stmt:=aV 56
abbrev a1X:Stmt:=aV 57
abbrev gY:Stmt:=aV 58
abbrev a2i:Stmt:=bQ (aV 29) 0
abbrev a3B:Stmt:=bQ (aV 29) 1
abbrev a5A:Stmt:=bQ (aV 29) 2
abbrev a34:Stmt:=bQ (aV 29) 3
abbrev tH:Stmt:=bQ (aV 29) 4
abbrev a3L:Stmt:=bQ (aV 29) 5
abbrev a2X:Stmt:=bQ (aV 29) 6
abbrev a2y:Stmt:=bQ (aV 29) 7
abbrev a0X:Stmt:=bQ (aV 29) 11
abbrev a3D:Stmt:=bQ (aV 29) 13
abbrev a0W:Stmt:=bQ (aV 31) 0
abbrev a2t:Stmt:=bQ (aV 31) 1
abbrev a0v:Stmt:=bQ (aV 31) 2
abbrev a1U:Stmt:=bQ (aV 31) 3
abbrev a0A:Stmt:=bQ (aV 31) 4
abbrev sK:Stmt:=bQ (aV 31) 5
abbrev a1G:Stmt:=bQ (aV 32) 0
abbrev a1F:Stmt:=bQ (aV 32) 1
abbrev a1S:Stmt:=bQ (aV 33) 0
abbrev a1Y:Stmt:=bQ (aV 33) 1
abbrev a2K:Stmt:=bQ (aV 34) 0
abbrev a19:Stmt:=bQ (aV 34) 1
abbrev a3e:Stmt:=bQ (aV 41) 0
abbrev a2g:Stmt:=bQ (aV 41) 1
abbrev a1c:Stmt:=bQ (aV 42) 0
abbrev a07:Stmt:=bQ (aV 42) 1
abbrev zP:Stmt:=bQ (aV 42) 2
abbrev gO:Stmt:=bQ (aV 42) 3
abbrev a3h:Stmt:=bQ (aV 42) 4
abbrev a1d:Stmt:=bQ (aV 42) 5
abbrev a2m:Stmt:=bQ (aV 43) 0
abbrev a2S:Stmt:=bQ (aV 43) 1
abbrev a3j:Stmt:=bQ (aV 43) 2
abbrev a0P:Stmt:=bQ (aV 43) 3
abbrev a0T:Stmt:=bQ (aV 43) 4
abbrev a5w:Stmt:=bQ (aV 43) 8
abbrev a4I:Stmt:=bQ (aV 43) 9
abbrev a7I:Stmt:=bQ (aV 43) 11
abbrev a0J:Stmt:=bQ (aV 43) 12
abbrev a3G:Stmt:=bQ (aV 43) 16
abbrev a1H:Stmt:=bQ (aV 43) 17
abbrev a2o:Stmt:=bQ (aV 43) 18
abbrev a28:Stmt:=bQ (aV 43) 19
abbrev a2a:Stmt:=bQ (aV 43) 20
abbrev a3r:Stmt:=bQ (aV 43) 21
abbrev a1K:Stmt:=bQ (aV 43) 22
abbrev a1M:Stmt:=bQ (aV 50) 0
abbrev vG:Stmt:=bQ (aV 50) 1
abbrev a2I:Stmt:=bQ (aV 51) 0
abbrev rS:Stmt:=bQ (aV 51) 1
abbrev qO:Stmt:=bQ (aV 51) 2
structure dR(K:Fg)(mg:Str->Option Value)(C:Addr):Prop where
 c:mg "Table"=some (.ref C)
 cl:cF K C
 mks:W.makesIn K C=true
 kc:W.keepIn K (.ref C)=true
 hc:W.findIn K (.ref C) "__class__"=some (some (.builtin "object.__class__"))
 n_row_numbers:cB K C "row_numbers"
 n_fresh_number:cB K C "fresh_number"
 n_kept:cB K C "kept"
 m_init:bM K C "__init__" "Table.__init__" a2i
 m_many:bM K C "many" "Table.many" a3B
 m_numbers:bM K C "numbers" "Table.numbers" a5A
 m_columns:bM K C "columns" "Table.columns" a34
 m_give:bM K C "give" "Table.give" tH
 m_drop:bM K C "drop" "Table.drop" a3L
 m_put:bM K C "put" "Table.put" a2X
 m_at:bM K C "at" "Table.at" a2y
 m_number_at:bM K C "number_at" "Table.number_at" a0X
 m_check_column:bM K C "check_column" "Table.check_column" a3D
structure cV(K:Fg)(mg:Str->Option Value)(C:Addr):Prop where
 c:mg "Board"=some (.ref C)
 cl:cF K C
 mks:W.makesIn K C=true
 kc:W.keepIn K (.ref C)=true
 hc:W.findIn K (.ref C) "__class__"=some (some (.builtin "object.__class__"))
 n_given:cB K C "given"
 n_rules:cB K C "rules"
 n_memory:cB K C "memory"
 n_order:cB K C "order"
 m_init:bM K C "__init__" "Board.__init__" a0W
 m_has_column:bM K C "has_column" "Board.has_column" a2t
 m_content:bM K C "content" "Board.content" a0v
 m_set_column:bM K C "set_column" "Board.set_column" a1U
 m_empty_column:bM K C "empty_column" "Board.empty_column" a0A
 m_outcome:bM K C "outcome" "Board.outcome" sK
structure uR(K:Fg)(mg:Str->Option Value)(C:Addr):Prop where
 c:mg "TableTold"=some (.ref C)
 cl:cF K C
 mks:W.makesIn K C=true
 kc:W.keepIn K (.ref C)=true
 hc:W.findIn K (.ref C) "__class__"=some (some (.builtin "object.__class__"))
 n_boards:cB K C "boards"
 n_name:cB K C "name"
 n_size:cB K C "size"
 m_init:bM K C "__init__" "TableTold.__init__" a1G
 m_take:bM K C "take" "TableTold.take" a1F
structure oZ(K:Fg)(mg:Str->Option Value)(C:Addr):Prop where
 c:mg "ColumnSet"=some (.ref C)
 cl:cF K C
 mks:W.makesIn K C=true
 kc:W.keepIn K (.ref C)=true
 hc:W.findIn K (.ref C) "__class__"=some (some (.builtin "object.__class__"))
 n_board:cB K C "board"
 n_column:cB K C "column"
 n_after:cB K C "after"
 n_before:cB K C "before"
 m_init:bM K C "__init__" "ColumnSet.__init__" a1S
 m_take:bM K C "take" "ColumnSet.take" a1Y
structure rB(K:Fg)(mg:Str->Option Value)(C:Addr):Prop where
 c:mg "ValuePut"=some (.ref C)
 cl:cF K C
 mks:W.makesIn K C=true
 kc:W.keepIn K (.ref C)=true
 hc:W.findIn K (.ref C) "__class__"=some (some (.builtin "object.__class__"))
 n_board:cB K C "board"
 n_column:cB K C "column"
 n_place:cB K C "place"
 n_after:cB K C "after"
 n_before:cB K C "before"
 m_init:bM K C "__init__" "ValuePut.__init__" a2K
 m_take:bM K C "take" "ValuePut.take" a19
structure nJ(K:Fg)(mg:Str->Option Value)(C:Addr):Prop where
 c:mg "Trial"=some (.ref C)
 cl:cF K C
 mks:W.makesIn K C=true
 kc:W.keepIn K (.ref C)=true
 hc:W.findIn K (.ref C) "__class__"=some (some (.builtin "object.__class__"))
 n_finder:cB K C "finder"
 n_looked:cB K C "looked"
 n_lacking:cB K C "lacking"
 m_init:bM K C "__init__" "Trial.__init__" a3e
 m_look:bM K C "look" "Trial.look" a2g
structure eT(K:Fg)(mg:Str->Option Value)(C:Addr):Prop where
 c:mg "Finder"=some (.ref C)
 cl:cF K C
 mks:W.makesIn K C=true
 kc:W.keepIn K (.ref C)=true
 hc:W.findIn K (.ref C) "__class__"=some (some (.builtin "object.__class__"))
 n_boards:cB K C "boards"
 n_found:cB K C "found"
 n_looked:cB K C "looked"
 m_init:bM K C "__init__" "Finder.__init__" a1c
 m_value_of:bM K C "value_of" "Finder.value_of" a07
 m_attempt:bM K C "attempt" "Finder.attempt" zP
 m_gathered:bM K C "gathered" "Finder.gathered" gO
 m_settle:bM K C "settle" "Finder.settle" a3h
 m_knows:bM K C "knows" "Finder.knows" a1d
structure gA(K:Fg)(mg:Str->Option Value)(C:Addr):Prop where
 c:mg "Sheet"=some (.ref C)
 cl:cF K C
 mks:W.makesIn K C=true
 kc:W.keepIn K (.ref C)=true
 hc:W.findIn K (.ref C) "__class__"=some (some (.builtin "object.__class__"))
 n_boards:cB K C "boards"
 n_changes:cB K C "changes"
 n_finder:cB K C "finder"
 m_init:bM K C "__init__" "Sheet.__init__" a2m
 m_table:bM K C "table" "Sheet.table" a2S
 m_give:bM K C "give" "Sheet.give" a3j
 m_rule:bM K C "rule" "Sheet.rule" a0P
 m_put:bM K C "put" "Sheet.put" a0T
 m_tables:bM K C "tables" "Sheet.tables" a5w
 m_columns:bM K C "columns" "Sheet.columns" a4I
 m_many:bM K C "many" "Sheet.many" a7I
 m_cell:bM K C "cell" "Sheet.cell" a0J
 m_make:bM K C "make" "Sheet.make" a3G
 m_board_of:bM K C "board_of" "Sheet.board_of" a1H
 m_board_with:bM K C "board_with" "Sheet.board_with" a2o
 m_board_for:bM K C "board_for" "Sheet.board_for" a28
 m_check_cell:bM K C "check_cell" "Sheet.check_cell" a2a
 m_check_leans:bM K C "check_leans" "Sheet.check_leans" a3r
 m_check_ring:bM K C "check_ring" "Sheet.check_ring" a1K
structure uC(K:Fg)(mg:Str->Option Value)(C:Addr):Prop where
 c:mg "Rule"=some (.ref C)
 cl:cF K C
 mks:W.makesIn K C=true
 kc:W.keepIn K (.ref C)=true
 hc:W.findIn K (.ref C) "__class__"=some (some (.builtin "object.__class__"))
 n_function:cB K C "function"
 m_init:bM K C "__init__" "Rule.__init__" a1M
 v_init:ClsM K C "__init__"
 m_reckon:bM K C "reckon" "Rule.reckon" vG
structure lE(K:Fg)(mg:Str->Option Value)(C:Addr):Prop where
 c:mg "Cells"=some (.ref C)
 cl:cF K C
 mks:W.makesIn K C=true
 kc:W.keepIn K (.ref C)=true
 hc:W.findIn K (.ref C) "__class__"=some (some (.builtin "object.__class__"))
 n_function:cB K C "function"
 n_names:cB K C "names"
 m_init:bM K C "__init__" "Cells.__init__" a2I
 m_leans:bM K C "leans" "Cells.leans" rS
 m_gather:bM K C "gather" "Cells.gather" qO
 m_reckon:bM K C "reckon" "Rule.reckon" vG
 isl:W.kitOne K (.ref C) (.type "list")=some false
 own:W.mroIn K C (.type "object")=some true/\W.specialIn K (.builtin "object.__class__") "__get__"=some (some (.builtin "getset_descriptor.__get__"))/\W.takesIn K (.builtin "object.__class__")=some true
structure bC(K:Fg)(mg:Str->Option Value):Prop where
 len:mg "len"=none
 isinstance:mg "isinstance"=none
 int:mg "int"=none
 bool:mg "bool"=none
 str:mg "str"=none
 all:mg "all"=none
 range:mg "range"=none
 abs:mg "abs"=none
 list:mg "list"=none
 tuple:mg "tuple"=none
 sorted:mg "sorted"=none
 reversed:mg "reversed"=none
 ValueError:mg "ValueError"=none
 g_LETTERS:∃t,mg "LETTERS"=some (.str ("abcdefghijklmnopqrstuvwxyz":Str) t)
 g_MOST_LETTERS:∃t,mg "MOST_LETTERS"=some (.int 8 t)
 g_ODD:∃p,mg "ODD"=some (.ref p)/\∀H,bU K H p [V.str ("fault":Str),V.str ("odd":Str)]
 g_MOST_ROWS:∃t,mg "MOST_ROWS"=some (.int 30 t)
 g_MOST_COLUMNS:∃t,mg "MOST_COLUMNS"=some (.int 8 t)
 g_MOST_TABLES:∃t,mg "MOST_TABLES"=some (.int 4 t)
 g_UNKNOWN:∃p,mg "UNKNOWN"=some (.ref p)/\∀H,bU K H p [V.str ("fault":Str),V.str ("unknown":Str)]
 g_MOST_NAMES:∃t,mg "MOST_NAMES"=some (.int 6 t)
 d_is_whole:eE K mg "is_whole" a08
 d_is_number:eE K mg "is_number" a29
 d_is_name:eE K mg "is_name" a18
 d_is_fault:eE K mg "is_fault" a2H
 d_is_value:eE K mg "is_value" a1f
 d_settled:eE K mg "settled" a2E
 d_check_size:eE K mg "check_size" a1o
 d_check_place:eE K mg "check_place" a27
 d_check_value:eE K mg "check_value" a2e
 d_check_values:eE K mg "check_values" a2J
 d_ring_from:eE K mg "ring_from" a3q
 d_way_to:eE K mg "way_to" a1l
 d_check_name:eE K mg "check_name" a24
 d_checked_names:eE K mg "checked_names" a0K
 d_each_once:eE K mg "each_once" a3i
 d_look_in_turn:eE K mg "look_in_turn" a2x
 d_law_mixed:eE K mg "_law_mixed" vE
 d_law_answer:eE K mg "_law_answer" a2B
 d_law_noted:eE K mg "_law_noted" a0q
 d_law_function:eE K mg "_law_function" kK
 d_law_due:eE K mg "_law_due" a1X
 d_law:eE K mg "law" gY
 notabs:W.noTabs K=true
 t_Table:∃C,dR K mg C
 t_Board:∃C,cV K mg C
 t_TableTold:∃C,uR K mg C
 t_ColumnSet:∃C,oZ K mg C
 t_ValuePut:∃C,rB K mg C
 t_Trial:∃C,nJ K mg C
 t_Finder:∃C,eT K mg C
 t_Sheet:∃C,gA K mg C
 t_Rule:∃C,uC K mg C
 t_Cells:∃C,lE K mg C
structure Tbs(h:Heap)(K:Fg)(mg:Str->Option Value):Prop where
 bs:∃z_law_function z_Finder_gathered:Addr×Addr,mY K mg "_law_function" kK z_law_function/\kJ K mg "Finder" "gathered" "Finder.gathered" gO z_Finder_gathered/\z_law_function.2≠z_Finder_gathered.2/\h.get? z_Finder_gathered.2=some (W.tabObj #[])
abbrev rO:Str:= "abcdefghijklmnopqrstuvwxyz"
def jN(c:Nat):Bool:= !(Builtin.Str.occurrences rO ⟨#[c]⟩ 0 rO.length 1).isEmpty
def lL(t:Str):Bool:=decide ((1:Int)<=t.length)&&decide ((t.length:Int)<=8)&&t.cps.toList.all jN
noncomputable def mM:PyData->Bool
 | .int _=>true
 |_=>false
def jE:PyData->Bool
 | .int i=>decide ((if i<0 then-i else i)<10^ (60:Int).toNat)
 |_=>false
def fJ:PyData->Bool
 | .str t=>lL t
 |_=>false
def iB:PyData->Bool
 | .tuple [.str z,d]=>decide (z= "fault")&&fJ d
 |_=>false
def iR(d:PyData):Bool:=jE d||iB d
def vB(d:PyData):Prop:=∀t,d= .str t->t.length<=1000
def jI(d:PyData):Prop:=∀ds,d= .tuple ds->∀e∈ds,vB e
theorem lG{t:Str}(h:t.length<=1000):vB (.str t):=fun z e=>by cases e;exact h
theorem a8I(h:gI d≠ .tup):jI d:=fun z e=>by subst e;exact absurd rfl h
theorem a7v(h:∀e∈ds,vB e):jI (.tuple ds):=fun z e=>by cases e;exact h
section
inductive qY(K:Fg)(vs:List V)(H:Hp)(Q:VK)(E':XK):Prop
 |mk (x:_) (d:_):(vs= [x])->(Dt K H x d)->(Q (.bl (mM d)) H)->qY K vs H Q E'
theorem a5Z:bA ["thing"] ["thing"] (aO a08):={}
theorem yR(T:bC K mg):bH P w K mg base aF 1 "is_whole" ["thing"] (qY K):=by
 refine T.d_is_whole.known a5Z (fun _ _ _ _ _ _ us hl=>fK (fun _=>rfl) us hl) (fun vs H Q E h=> ?_) (fun f cdv A outer s H vs Q E hr h=> ?_)
 ·obtain⟨x,a,rfl,_⟩:=h
  rfl
 ·obtain⟨x,d,rfl,hd,q⟩:=h
  refine⟨_,(aL (bN (pC (dQ mI rfl T.isinstance kG (aA (pv 0) (aA (jW T.int a8F) aI))) (oJ (a72 (dQ mI rfl T.isinstance kG (aA (pv 0) (aA (jW T.bool a4S) aI)))))))),?_⟩
  refine⟨_,rfl,x,"int",d,_,rfl,hd,a6Z K _,_,rfl,?_⟩
  refine cW (fun h1=> ?_) (fun h1=> ?_)
  ·refine⟨_,rfl,x,"bool",d,_,rfl,hd,a6P K _,_,rfl,?_⟩
   have e:(!decide (gI d=Kd.bl))=mM d:=by cases d<;>simp[gI,mM]at h1|-
   show Q (.bl (!decide (gI d=Kd.bl))) H
   rw[e]
   exact q
  ·have e:false=mM d:=by cases d<;>simp[gI,mM]at h1|-
   show Q (.bl false) H
   rw[e]
   exact q
inductive kF(K:Fg)(vs:List V)(H:Hp)(Q:VK)(E':XK):Prop
 |mk (x:_) (d:_):(vs= [x])->(Dt K H x d)->(vB d)->(∀H',aH H H'->Q (.bl (fJ d)) H')->kF K vs H Q E'
theorem a63:bA ["thing"] ["thing"] (aO a18):={}
theorem lR(T:bC K mg):bH P w K mg base aF 1 "is_name" ["thing"] (kF K):=by
 refine T.d_is_name.known a63 (fun _ _ _ _ _ _ us hl=>fK (fun _=>rfl) us hl) (fun vs H Q E h=> ?_) (fun f cdv A outer s H vs Q E hr h=> ?_)
 ·obtain⟨x,a,rfl,_⟩:=h
  rfl
 ·obtain⟨x,d,rfl,hd,hsh,q⟩:=h
  refine⟨_,(aK (bL (PW.pt (iY (eV (eF (dQ mI rfl T.isinstance kG (aA (pv 0) (aA (jW T.str a3z) aI))) (fun _=>rfl))) (jM (eV (zY qU qU bD (dQ jJ rfl T.len iE (aA (pv 0) aI)) (pZ T.g_MOST_LETTERS)))))) (aL (bN qG)) bO)
   (aL (bN (dQ (a05 rfl) rfl T.all a2R (aA (oP xL rfl rfl (by decide) (a41 (pv 0)) (fun _ _ _ _ _=>mD) (fun _ _ _ _ _=>(tO a8R (pv 0) (a5S T.g_LETTERS) (by with_unfolding_all rfl)))) aI))))),?_⟩
  refine⟨_,rfl,x,"str",d,_,rfl,hd,a2D K _,_,rfl,?_⟩
  by_cases hk:gI d= .str
  ·obtain⟨t,rfl⟩:∃t,d= .str t:=by cases d<;>simp[gI]at hk|-
   cases hd
   have ht:t.length<=1000:=hsh t rfl
   refine bI ?_
   refine⟨_,rfl,_,_,rfl,⟨sl ht,rfl⟩,_,_,rfl,rfl,_,rfl,?_⟩
   refine cW (fun h1=> ?_) (fun h1=> ?_)
   ·refine⟨_,_,rfl,rfl,_,rfl,?_⟩
    refine cW (fun h2=> ?_) (fun h2=> ?_)
    ·have e:fJ (.str t)=false:=by
      show lL t=false
      unfold lL
      have:decide ((t.length:Int)<=8)=false:=by simpa using h2
      rw[this,Bool.and_false,Bool.false_and]
     rw[<- e]
     exact q H (aH.refl H)
    ·have h8:t.cps.size<=8:=by
      have:(t.length:Int)<=8:=by simpa using h2
      show t.length<=8
      omega
     refine⟨_,rfl,t,rfl,fun D hD=> ?_⟩
     refine a6R (x:=t) (fun i ys H2=>ys=(t.cps.toList.take i).map (fun c=>V.bl (jN c))/\aH H H2) ⟨rfl,aH.new hD⟩ ?_ ?_
     ·rintro i c ys H2 hc h2D ⟨rfl,s2⟩
      have hi:i<t.cps.size:=(Array.getElem?_eq_some_iff.mp hc).1
      refine⟨_,rfl,_,_,rfl,rfl,h2D,?_,?_,s2.on hD⟩
      ·rw[List.length_map,List.length_take,Array.length_toList]
       exact cY (by omega)
      ·rw[List.take_add_one,List.map_append,Array.getElem?_toList,hc]
       rfl
     ·rintro ys H2 h2D ⟨rfl,s2⟩
      refine⟨D,t.cps.toList.map jN,rfl,aN.of ?_,?_⟩
      ·rw[h2D,List.take_of_length_le (by simp),List.map_map]
       rfl
      ·have e:fJ (.str t)=(t.cps.toList.map jN).all id:=by
        show lL t=_
        unfold lL
        have e1:decide ((1:Int)<=t.length)=true:=h1
        have e2:decide ((t.length:Int)<=8)=true:=by simpa using h2
        rw[e1,e2,Bool.true_and,Bool.true_and,List.all_map]
        rfl
       rw[<- e]
       exact q H2 s2
   ·refine⟨_,rfl,?_⟩
    refine cQ ?_
    have e:fJ (.str t)=false:=by
     show lL t=false
     unfold lL
     have:decide ((1:Int)<=t.length)=false:=by simpa using h1
     rw[this,Bool.false_and,Bool.false_and]
    rw[<- e]
    exact q H (aH.refl H)
  ·rw[decide_eq_false hk]
   refine cQ (cQ ?_)
   have e:fJ d=false:=by cases d<;>simp[gI]at hk<;>rfl
   rw[<- e]
   exact q H (aH.refl H)
inductive wZ(K:Fg)(vs:List V)(H:Hp)(Q:VK)(E':XK):Prop
 |mk (x:_) (d:_):(vs= [x])->(Dt K H x d)->(Q (.bl (jE d)) H)->wZ K vs H Q E'
theorem a6U:bA ["thing"] ["thing"] (aO a29):={}
theorem a6E(T:bC K mg):bH P w K mg base aF 2 "is_number" ["thing"] (wZ K):=by
 have G_is_whole:bH P w K mg base aF 1 "is_whole" ["thing"] (qY K):=yR T
 refine T.d_is_number.known a6U (fun _ _ _ _ _ _ us hl=>fK (fun _=>rfl) us hl) (fun vs H Q E h=> ?_) (fun f cdv A outer s H vs Q E hr h=> ?_)
 ·obtain⟨x,a,rfl,_⟩:=h
  rfl
 ·obtain⟨x,d,rfl,hd,q⟩:=h
  refine⟨_,(aL (bN (pC (bV G_is_whole hr.mn aS (aA (pv 0) aI)) (oJ (tO a0m (dQ a36 rfl T.abs a5g (aA (pv 0) aI)) (cG a7o bD bD) (cX _)))))),?_⟩
  refine⟨_,rfl,x,d,rfl,hd,_,rfl,?_⟩
  refine cW (fun h1=> ?_) (fun h1=> ?_)
  ·obtain⟨i,rfl⟩:∃i,d= .int i:=by cases d<;>simp[mM]at h1|-
   cases hd
   exact⟨_,rfl,i,rfl,_,_,rfl,rfl,⟨by decide,by decide,by decide⟩,_,_,rfl,rfl,q⟩
  ·have e:jE d=false:=by cases d<;>simp[mM]at h1<;>rfl
   show Q (.bl false) H
   rw[<- e]
   exact q
inductive vL(K:Fg)(vs:List V)(H:Hp)(Q:VK)(E':XK):Prop
 |mk (x:_) (d:_):(vs= [x])->(Dt K H x d)->(jI d)->(∀H',aH H H'->Q (.bl (iB d)) H')->vL K vs H Q E'
theorem a5Y:bA ["thing"] ["thing"] (aO a2H):={}
theorem a3R(h:ds.length≠2):iB (.tuple ds)=false:=by
 match ds,h with
 | [],_=>rfl
 | [a],_=>cases a<;>rfl
 | [a,b],h=>exact absurd rfl h
 |a::b::c::r,_=>cases a<;>rfl
theorem a0E(T:bC K mg):bH P w K mg base aF 2 "is_fault" ["thing"] (vL K):=by
 have G_is_name:bH P w K mg base aF 1 "is_name" ["thing"] (kF K):=lR T
 refine T.d_is_fault.known a5Y (fun _ _ _ _ _ _ us hl=>fK (fun _=>rfl) us hl) (fun vs H Q E h=> ?_) (fun f cdv A outer s H vs Q E hr h=> ?_)
 ·obtain⟨x,a,rfl,_⟩:=h
  rfl
 ·obtain⟨x,d,rfl,hd,hsh,q⟩:=h
  refine⟨_,(aK (bL (PW.pt (iY (eV (eF (dQ mI rfl T.isinstance kG (aA (pv 0) (aA (jW T.tuple a0z) aI))) (fun _=>rfl))) (jM (cN a20 (dQ jJ rfl T.len iE (aA (pv 0) aI)) bD (cX _))))) (aL (bN qG)) bO)
   (aL (bN (pC (dQ mI rfl T.isinstance kG (aA (cM eX (pv 0) bD (fun _ _=>rfl)) (aA (jW T.str a3z) aI))) (pC (tO mO (cM eX (pv 0) bD (fun _ _=>rfl)) fX (cX _)) (oJ (bV G_is_name hr.mn aS (aA (cM eX (pv 0) bD (fun _ _=>rfl)) aI)))))))),?_⟩
  refine⟨_,rfl,x,"tuple",d,_,rfl,hd,a3k K _,_,rfl,?_⟩
  by_cases hk:gI d= .tup
  ·obtain⟨ds,rfl⟩:∃ds,d= .tuple ds:=by cases d<;>simp[gI]at hk|-
   cases hd with
   | @tup a xs _ hq hall=>
    refine bI ?_
    refine⟨_,rfl,_,_,rfl,.inr ⟨_,hq,rfl⟩,rfl,_,rfl,?_⟩
    have hl:=hall.length
    refine cW (fun h1=> ?_) (fun h1=> ?_)
    ·have h1':xs.length≠2:=by
      intro z
      rw[z]at h1
      exact absurd h1 (by decide)
     have e:=a3R (ds:=ds) (by rw[<- hl];exact h1')
     rw[<- e]
     exact q H (aH.refl H)
    ·have h1':xs.length=2:=by
      have z:¬(!decide (V.int (xs.length:Int)=V.int 2))=true:=h1
      have z2:(xs.length:Int)=2:=by simpa using z
      omega
     match xs,ds,hall,h1',hl with
     | [y,z],_,.cons (d:=d1) h2 (.cons (d:=d2) h3 .nil),_,_=>
      have a0:cI [y,z] 0=some y:=rfl
      have a1:cI [y,z] 1=some z:=rfl
      refine⟨_,rfl,_,_,_,_,rfl,rfl,hq,a0,y,"str",d1,_,rfl,h2,a2D K _,_,rfl,?_⟩
      refine cW (fun h4=> ?_) (fun h4=> ?_)
      ·obtain⟨t,rfl⟩:∃t,d1= .str t:=by cases d1<;>simp[gI]at h4|-
       cases h2
       refine⟨_,rfl,_,_,_,_,rfl,rfl,hq,a0,rfl,_,rfl,?_⟩
       refine cW (fun h5=> ?_) (fun h5=> ?_)
       ·have h5':t= "fault":=by
         have z5:V.str t=V.str "fault":=by simpa using h5
         exact V.str.inj z5
        refine⟨_,rfl,_,_,_,_,rfl,rfl,hq,a1,z,d2,rfl,h3,hsh _ rfl _ (List.mem_cons_of_mem _ List.mem_cons_self),fun H' s'=> ?_⟩
        ·have e:iB (.tuple [.str t,d2])=fJ d2:=by
          show(decide (t= "fault")&&fJ d2)=fJ d2
          rw[decide_eq_true h5',Bool.true_and]
         rw[<- e]
         exact q H' s'
       ·have h5':t≠ "fault":=fun z5=>h5 (by rw[z5];rfl)
        have e:iB (.tuple [.str t,d2])=false:=by
         show(decide (t= "fault")&&fJ d2)=false
         rw[decide_eq_false h5',Bool.false_and]
        show Q (.bl false) H
        rw[<- e]
        exact q H (aH.refl H)
      ·have e:iB (.tuple [d1,d2])=false:=by cases d1<;>simp[gI]at h4<;>rfl
       show Q (.bl false) H
       rw[<- e]
       exact q H (aH.refl H)
  ·rw[decide_eq_false hk]
   refine cQ (cQ ?_)
   have e:iB d=false:=by cases d<;>simp[gI]at hk<;>rfl
   rw[<- e]
   exact q H (aH.refl H)
inductive rA(K:Fg)(vs:List V)(H:Hp)(Q:VK)(E':XK):Prop
 |mk (x:_) (d:_):(vs= [x])->(Dt K H x d)->(jI d)->(∀H',aH H H'->Q (.bl (iR d)) H')->rA K vs H Q E'
theorem a71:bA ["thing"] ["thing"] (aO a1f):={}
theorem zZ(T:bC K mg):bH P w K mg base aF 3 "is_value" ["thing"] (rA K):=by
 have G_is_number:bH P w K mg base aF 2 "is_number" ["thing"] (wZ K):=a6E T
 have G_is_fault:bH P w K mg base aF 2 "is_fault" ["thing"] (vL K):=a0E T
 refine T.d_is_value.known a71 (fun _ _ _ _ _ _ us hl=>fK (fun _=>rfl) us hl) (fun vs H Q E h=> ?_) (fun f cdv A outer s H vs Q E hr h=> ?_)
 ·obtain⟨x,a,rfl,_⟩:=h
  rfl
 ·obtain⟨x,d,rfl,hd,hsh,q⟩:=h
  refine⟨_,(aL (bN (a7Z (bV G_is_number hr.mn aS (aA (pv 0) aI)) (oJ (bV G_is_fault hr.mn aS (aA (pv 0) aI)))))),?_⟩
  refine⟨_,rfl,x,d,rfl,hd,_,rfl,?_⟩
  refine cW (fun h1=> ?_) (fun h1=> ?_)
  ·have e:iR d=true:=by unfold iR;rw[h1,Bool.true_or]
   show Q (.bl true) H
   rw[<- e]
   exact q H (aH.refl H)
  ·refine⟨_,rfl,x,d,rfl,hd,hsh,fun H' s'=> ?_⟩
   have e:iR d=iB d:=by
    unfold iR
    have:jE d=false:=by simpa using h1
    rw[this,Bool.false_or]
   rw[<- e]
   exact q H' s'
end
def Nl(t:Str):Prop:=1<=t.length/\t.length<=8/\∀c∈t.cps.toList,c∈rO.cps.toList
theorem Nl.name{t:Str}(h:Nl t):lL t=true:=by
 unfold lL
 have a1:decide ((1:Int)<=t.length)=true:=by rw[decide_eq_true_eq];have:=h.1;omega
 have a2:decide ((t.length:Int)<=8)=true:=by rw[decide_eq_true_eq];have:=h.2.1;omega
 have a3:t.cps.toList.all jN=true:=by
  rw[List.all_eq_true]
  intro c hc
  have:∀c∈rO.cps.toList,jN c=true:=by decide+kernel
  exact this c (h.2.2 c hc)
 rw[a1,a2,a3]
 rfl
theorem Nl.lay{z:Str}(h:Nl z):PyData.canLay0 (.str z)=true:=by
 obtain⟨⟨l⟩⟩:=z
 have:∀c∈rO.cps.toList,c<128:=by decide+kernel
 exact a6K fun c hc=>this c (h.2.2 c hc)
theorem wH{p:Str×Str}(h1:Nl p.1)(h2:Nl p.2):(gX p).canLay0=true:=by
 show PyData.canLayAll0 [.str p.1,.str p.2]=true
 show(PyData.canLay0 (.str p.1)&&(PyData.canLay0 (.str p.2)&&true))=true
 rw[h1.lay,h2.lay]
 rfl
theorem a1a:∀{ps:List (Str×Str)},(∀p∈ps,Nl p.1/\Nl p.2)->(PyData.list (ps.map gX)).canLay0=true
 | [],_=>rfl
 |p::ps,h=>by
  show((gX p).canLay0&&PyData.canLayAll0 (ps.map gX))=true
  have e:PyData.canLayAll0 (ps.map gX)=true:=a1a fun q hq=>h q (List.mem_cons_of_mem _ hq)
  rw[e,wH (h p List.mem_cons_self).1 (h p List.mem_cons_self).2]
  rfl
section
inductive wN(vs:List V)(H:Hp)(Q:VK)(E':XK):Prop
 |mk (z:Str):(vs= [.str z])->(Nl z)->(∀H',aH H H'->Q .non H')->wN vs H Q E'
theorem a7f:bA ["name"] ["name"] (aO a24):={}
theorem a6G(T:bC K mg):bH P w K mg base aF 2 "check_name" ["name"] wN:=by
 have G_is_name:bH P w K mg base aF 1 "is_name" ["thing"] (kF K):=lR T
 refine T.d_check_name.known a7f (fun _ _ _ _ _ _ us hl=>fK (fun _=>rfl) us hl) (fun vs H Q E h=> ?_) (fun f cdv A outer s H vs Q E hr h=> ?_)
 ·obtain⟨z,rfl,_⟩:=h
  rfl
 ·obtain⟨z,rfl,hz,q⟩:=h
  refine⟨_,(aL (bL (eV (eF (bV G_is_name hr.mn aS (aA (pv 0) aI)) (fun _=>rfl))) (aL cE) bO)),?_⟩
  have h8:=hz.2.1
  refine⟨_,rfl,_,_,rfl,.str z,lG (by omega),fun H' s'=>⟨_,rfl,?_⟩⟩
  rw[show fJ (.str z)=true from hz.name]
  exact bI (q H' s')
inductive wC(K:Fg)(vs:List V)(H:Hp)(Q:VK)(E':XK):Prop
 |mk (a:Addr) (zs:List Str):(vs= [.ref a])->(aN K H a (zs.map V.str))->(zs.length<=6)->((∀z∈zs,Nl z))->(∀H' l,aH H H'->H l=none->H' l=some (.lst (zs.map V.str))->Q (.ref l) H')->wC K vs H Q E'
theorem uI{K:Fg}{H:Hp}:∀zs:List Str,dI K H (zs.map V.str) (zs.map PyData.str)
 | []=> .nil
 |z::zs=> .cons (.str z) (uI zs)
theorem a0R:bA ["names","name"] ["names"] (aO a0K):={}
theorem a6h(T:bC K mg):bH P w K mg base aF 3 "checked_names" ["names"] (wC K):=by
 have G_check_name:bH P w K mg base aF 2 "check_name" ["name"] wN:=a6G T
 refine T.d_checked_names.known a0R (fun _ _ _ _ _ _ us hl=>fK (fun _=>rfl) us hl) (fun vs H Q E h=> ?_) (fun f cdv A outer s H vs Q E hr h=> ?_)
 ·obtain⟨a,zs,rfl,_⟩:=h
  rfl
 ·obtain⟨a,zs,rfl,hq,h6,hz,q⟩:=h
  refine⟨_,(aK (bL (PW.pt (iY (eV (eF (dQ mI rfl T.isinstance kG (aA (pv 0) (aA (jW T.list jR) aI))) (fun _=>rfl))) (jM (cN a0B (dQ jJ rfl T.len iE (aA (pv 0) aI)) (pZ T.g_MOST_NAMES) (cX _))))) (aL cE) bO)
   (aK (kH PassesOwn.never rfl (kA (pv 0)) (fT (i:=1) a0R.nd rfl (Or.inl rfl)) (aL (cA (bV G_check_name hr.mn aS (aA (pv 1) aI)))))
   (aL (bN (mV rH rfl T.list jR (aA (pv 0) aI)))))),?_⟩
  refine⟨_,rfl,_,"list",_,_,rfl,Dt.lst hq (uI zs),a0k K _,_,rfl,bI ?_⟩
  refine⟨_,rfl,_,_,rfl,.inl ⟨_,hq,rfl⟩,_,_,rfl,rfl,_,rfl,?_⟩
  rw[List.length_map,decide_eq_false (by omega)]
  refine bI ?_
  refine⟨_,rfl,a,rfl,⟨_,hq⟩,?_⟩
  refine oY (K:=K) (a:=a) (xs:=zs.map V.str) (fun i σ H2=>∃o,σ= [some (.ref a),o] /\aH H H2) ⟨_,rfl,aH.refl H⟩ (fun i σ H2 _ ⟨_,_,s2⟩=>s2.seq hq) ?_ ?_
  ·rintro i x σ H2 hx ⟨o,rfl,s2⟩
   rw[List.getElem?_map]at hx
   cases e:zs[i]? with
   |none=>rw[e]at hx;cases hx
   |some z=>
    rw[e]at hx
    cases hx
    exact⟨_,rfl,z,rfl,hz z (List.mem_of_getElem? e),fun H3 s3=>⟨_,rfl,s2.trans s3⟩⟩
  ·rintro σ H2 ⟨o,rfl,s2⟩
   refine⟨_,rfl,a,_,rfl,.inl (s2.seq hq),fun l hl=> ?_⟩
   have hl':H l=none:=by
    cases e:H l with
    |none=>rfl
    |some u=>rw[s2 _ _ e]at hl;cases hl
   exact q _ l (s2.trans (aH.new hl)) hl' aJ
theorem vU:bA ["spots","found","spot"] ["spots"] (aO a3i):={}
end
def kP(r:Addr)(n:Int)(d:Addr):List (Str×V):=[("row_numbers",V.ref r),("fresh_number",V.int n),("kept",V.ref d)]
theorem a1w(r:Addr)(n:Int)(d:Addr):(kP r n d).lookup ("row_numbers":Str)=some (.ref r):=rfl
theorem flds_fresh(r:Addr)(n:Int)(d:Addr):(kP r n d).lookup ("fresh_number":Str)=some (.int n):=by
 show(match (("fresh_number":Str)==("row_numbers":Str))with|true=>some (V.ref r)|false=>_)=_
 rw[show (("fresh_number":Str)==("row_numbers":Str))=false by decide+kernel]
 rfl
theorem pI(r:Addr)(n:Int)(d:Addr):(kP r n d).lookup ("kept":Str)=some (.ref d):=by
 show(match (("kept":Str)==("row_numbers":Str))with|true=>some (V.ref r)|false=>(match (("kept":Str)==("fresh_number":Str))with|true=>some (V.int n)|false=>_))=_
 rw[show (("kept":Str)==("row_numbers":Str))=false by decide+kernel,show(("kept":Str)==("fresh_number":Str))=false by decide+kernel]
 rfl
theorem gN{r:Addr}{n:Int}{d:Addr}(h:(m==("row_numbers":Str)||m==("fresh_number":Str)||m==("kept":Str))=false:=by decide+kernel):(kP r n d).lookup m=none:=by
 simp only[Bool.or_eq_false_iff]at h
 obtain⟨⟨h1,h2⟩,h3⟩:=h
 show(match (m==("row_numbers":Str))with|true=>some (V.ref r)|false=>(match (m==("fresh_number":Str))with|true=>some (V.int n)|false=>(match (m==("kept":Str))with|true=>some (V.ref d)|false=>none)))=none
 rw[h1,h2,h3]
theorem a6B(r:Addr)(n:Int)(d:Addr):aM "kept" (.ref d) (aM "fresh_number" (.int n) (aM "row_numbers" (.ref r) []))=kP r n d:=by
 show aM "kept" (.ref d) (if("row_numbers":Str)= "fresh_number" then _ else _)=_
 rw[if_neg (by decide+kernel)]
 show(if("row_numbers":Str)= "kept" then _ else _::(if("fresh_number":Str)= "kept" then _ else _))=_
 rw[if_neg (by decide+kernel),if_neg (by decide+kernel)]
 rfl
structure iC(C:Addr)(H:Hp)(p r d:Addr)(xs:List V)(n:Int)(kvs:List (aB×V)):Prop where
 at_:∃dx,H p=some (.ins C dx (kP r n d))
 rows:H r=some (.lst xs)
 kept:H d=some (.dK kvs)
theorem iC.same{p r d:Addr}{n:Int}(T:iC C H p r d xs n kvs)(s:aH H H'):iC C H' p r d xs n kvs:=by
 obtain⟨dx,h⟩:=T.at_
 exact⟨⟨dx,s _ _ h⟩,s _ _ T.rows,s _ _ T.kept⟩
def Pv(K:Fg)(H:Hp)(v:V)(d:PyData):Prop:=(∃i,v= .int i/\d= .int i/\jE (.int i)=true)\/ ∃a y,v= .ref a/\H a=some (.tup [.str ("fault":Str),.str y])/\d= .tuple [.str "fault",.str y] /\Nl y
def Vd(d:PyData):Prop:=(∃i,d= .int i/\jE (.int i)=true)\/ ∃y,d= .tuple [.str "fault",.str y] /\Nl y
theorem Pv.dt{v:V}(h:Pv K H v d):Dt K H v d:=by
 rcases h with⟨i,rfl,rfl,_⟩|⟨a,y,rfl,h,rfl,_⟩
 ·exact .int i
 ·exact .tup (bU.of h) (.cons (.str _) (.cons (.str _) .nil))
theorem Pv.vd{v:V}(h:Pv K H v d):Vd d:=by
 rcases h with⟨i,rfl,rfl,hb⟩|⟨a,y,rfl,h,rfl,hy⟩
 ·exact .inl ⟨i,rfl,hb⟩
 ·exact .inr ⟨y,rfl,hy⟩
def bS(H H':Hp):Prop:=∀a xs,H a=some (.tup xs)->H' a=some (.tup xs)
theorem bS.of(s:aH H H'):bS H H':=fun a xs e=>s _ _ e
theorem bS.upd{o':HO}(h:H l=some o)(n:∀xs,o≠ .tup xs):bS H (L2.upd H l o'):=fun a xs e=>by
 rw[aG (fun z=>by rw[z,h]at e;exact n _ (Option.some.inj e))]
 exact e
theorem Pv.keep{v:V}(s:bS H H')(h:Pv K H v d):Pv K H' v d:=by
 rcases h with h|⟨a,y,rfl,h,rfl,hy⟩
 ·exact .inl h
 ·exact .inr ⟨a,y,rfl,s _ _ h,rfl,hy⟩
theorem Pv.same{v:V}(h:Pv K H v d)(s:aH H H'):Pv K H' v d:=h.keep (bS.of s)
theorem Vd.short(h:Vd d):jI d/\iR d=true:=by
 rcases h with⟨i,rfl,hb⟩|⟨y,rfl,hy⟩
 ·refine⟨a8I (by intro z;cases z),?_⟩
  show(jE (.int i)||iB (.int i))=true
  rw[hb];rfl
 ·have l8:=hy.2.1
  refine⟨a7v (by
   intro e he
   simp only[List.mem_cons,List.not_mem_nil,or_false]at he
   rcases he with rfl|rfl
   ·exact lG (by decide)
   ·exact lG (by omega)),?_⟩
  show(jE _||iB (.tuple [.str "fault",.str y]))=true
  rw[show iB (.tuple [.str "fault",.str y])=true by
   show(decide (("fault":Str)= "fault")&&fJ (.str y))=true
   rw[decide_eq_true rfl,Bool.true_and]
   exact Nl.name hy,Bool.or_true]
theorem Vd.lay(h:Vd d):d.canLay0=true/\d.depth<=62:=by
 rcases h with⟨i,rfl,hb⟩|⟨z,rfl,hz⟩
 ·exact⟨rfl,(show 0<=62 by decide)⟩
 ·refine⟨?_,(show 1<=62 by decide)⟩
  have lz:=Nl.lay hz
  have l1:PyData.canLay0 (.str ("fault":Str))=true:=by decide+kernel
  simp only[PyData.canLay0,PyData.canLayAll0,Bool.and_true,Bool.and_eq_true]at l1 lz|-
  exact⟨l1,lz⟩
def dE(K:Fg)(H:Hp):List V->List PyData->Prop:=Paired (Pv K H)
theorem dE.keep{K:Fg}{H H':Hp}(s:bS H H'):∀{xs:List V} {ds:List PyData},dE K H xs ds->dE K H' xs ds
 |_,_,.nil=> .nil
 |_,_,.cons h t=> .cons (h.keep s) (dE.keep s t)
theorem dE.dt{K:Fg}{H:Hp}:∀{xs:List V} {ds:List PyData},dE K H xs ds->dI K H xs ds
 |_,_,.nil=> .nil
 |_,_,.cons h t=> .cons h.dt (dE.dt t)
theorem dE.vd{K:Fg}{H:Hp}:∀{xs:List V} {ds:List PyData},dE K H xs ds->∀d∈ds,Vd d
 |_,_,.nil,_,h=>by cases h
 |_,_,.cons h t,d,hd=>by
  rcases List.mem_cons.mp hd with rfl|hd
  ·exact h.vd
  ·exact dE.vd t d hd
section
inductive uN(vs:List V)(H:Hp)(Q:VK)(E':XK):Prop
 |mk (m:Nat):(vs= [.int (m:Int)])->(m<=30)->(Q .non H)->uN vs H Q E'
theorem a7Q:bA ["many"] ["many"] (aO a1o):={}
theorem a1v(T:bC K mg):bH P w K mg base aF 2 "check_size" ["many"] uN:=by
 have G_is_whole:bH P w K mg base aF 1 "is_whole" ["thing"] (qY K):=yR T
 refine T.d_check_size.known a7Q (fun _ _ _ _ _ _ us hl=>fK (fun _=>rfl) us hl) (fun vs H Q E h=> ?_) (fun f cdv A outer s H vs Q E hr h=> ?_)
 ·obtain⟨m,rfl,_⟩:=h
  rfl
 ·obtain⟨m,rfl,hm,q⟩:=h
  refine⟨_,(aL (bL (PW.pt (iY (eV (eF (bV G_is_whole hr.mn aS (aA (pv 0) aI)) (fun _=>rfl))) (jM (eV (zY qU qU bD (pv 0) (pZ T.g_MOST_ROWS)))))) (aL cE) bO)),?_⟩
  refine⟨_,rfl,_,.int (m:Int),rfl,.int _,_,rfl,bI ?_⟩
  refine⟨_,rfl,_,_,rfl,rfl,_,rfl,?_⟩
  rw[decide_eq_true (show(0:Int)<=(m:Int)by omega)]
  refine cQ ⟨_,_,rfl,rfl,_,rfl,?_⟩
  rw[decide_eq_true (show(m:Int)<=30 by omega)]
  exact bI q
inductive oI(vs:List V)(H:Hp)(Q:VK)(E':XK):Prop
 |mk (p m:Nat):(vs= [.int (p:Int),.int (m:Int)])->(p<m)->(Q .non H)->oI vs H Q E'
theorem a4x:bA ["place","places"] ["place","places"] (aO a27):={}
theorem tX(T:bC K mg):bH P w K mg base aF 2 "check_place" ["place","places"] oI:=by
 have G_is_whole:bH P w K mg base aF 1 "is_whole" ["thing"] (qY K):=yR T
 refine T.d_check_place.known a4x (fun _ _ _ _ _ _ us hl=>dZ (fun _ _=>rfl) us hl) (fun vs H Q E h=> ?_) (fun f cdv A outer s H vs Q E hr h=> ?_)
 ·obtain⟨p,m,rfl,_⟩:=h
  rfl
 ·obtain⟨p,m,rfl,hm,q⟩:=h
  refine⟨_,(aL (bL (PW.pt (iY (eV (eF (bV G_is_whole hr.mn aS (aA (pv 0) aI)) (fun _=>rfl))) (jM (eV (zY qU a0m bD (pv 0) (pv 1)))))) (aL cE) bO)),?_⟩
  refine⟨_,rfl,_,.int (p:Int),rfl,.int _,_,rfl,bI ?_⟩
  refine⟨_,rfl,_,_,rfl,rfl,_,rfl,?_⟩
  rw[decide_eq_true (show(0:Int)<=(p:Int)by omega)]
  refine cQ ⟨_,rfl,_,_,rfl,rfl,_,rfl,?_⟩
  rw[decide_eq_true (show(p:Int)<(m:Int)by omega)]
  exact bI q
inductive wW(K:Fg)(vs:List V)(H:Hp)(Q:VK)(E':XK):Prop
 |mk (v:_) (d:_):(vs= [v])->(Pv K H v d)->(∀H',aH H H'->Q .non H')->wW K vs H Q E'
theorem a8u:bA ["value"] ["value"] (aO a2e):={}
theorem a3Q(T:bC K mg):bH P w K mg base aF 4 "check_value" ["value"] (wW K):=by
 have G_is_value:bH P w K mg base aF 3 "is_value" ["thing"] (rA K):=zZ T
 refine T.d_check_value.known a8u (fun _ _ _ _ _ _ us hl=>fK (fun _=>rfl) us hl) (fun vs H Q E h=> ?_) (fun f cdv A outer s H vs Q E hr h=> ?_)
 ·obtain⟨v,d,rfl,_⟩:=h
  rfl
 ·obtain⟨v,d,rfl,hv,q⟩:=h
  refine⟨_,(aL (bL (eV (eF (bV G_is_value hr.mn aS (aA (pv 0) aI)) (fun _=>rfl))) (aL cE) bO)),?_⟩
  refine⟨_,rfl,v,d,rfl,hv.dt,hv.vd.short.1,fun H' s'=>⟨_,rfl,?_⟩⟩
  rw[hv.vd.short.2]
  exact bI (q _ s')
inductive tS(K:Fg)(vs:List V)(H:Hp)(Q:VK)(E':XK):Prop
 |mk (a:Addr) (xs:List V) (ds:List PyData):(vs= [.ref a,.int (xs.length:Int)])->(aN K H a xs)->(dE K H xs ds)->(xs.length<=1000)->(∀H',aH H H'->Q .non H')->tS K vs H Q E'
theorem a4i:bA ["values","many"] ["values","many"] (aO a2J):={}
theorem a3g(T:bC K mg):bH P w K mg base aF 4 "check_values" ["values","many"] (tS K):=by
 have G_is_value:bH P w K mg base aF 3 "is_value" ["thing"] (rA K):=zZ T
 refine T.d_check_values.known a4i (fun _ _ _ _ _ _ us hl=>dZ (fun _ _=>rfl) us hl) (fun vs H Q E h=> ?_) (fun f cdv A outer s H vs Q E hr h=> ?_)
 ·obtain⟨a,xs,ds,rfl,_⟩:=h
  rfl
 ·obtain⟨a,xs,ds,rfl,hq,hp,l1000,q⟩:=h
  have hl:xs.length=ds.length:=Paired.length hp
  refine⟨_,(aL (bL (PW.pt (iY (eV (eF (dQ mI rfl T.isinstance kG (aA (pv 0) (aA (jW T.list jR) aI))) (fun _=>rfl))) (iY (cN a20 (dQ jJ rfl T.len iE (aA (pv 0) aI)) (pv 1) (cX _)) (jM (eV (eF (dQ (a05 rfl) rfl T.all a2R (aA (oP xL rfl rfl (by decide) (kA (pv 0)) (fun _ _ _ _ _=>mD) (fun _ _ _ _ _=>(bV G_is_value hr.mn aS (aA (pv 0) aI)))) aI)) (fun _=>rfl))))))) (aL cE) bO)),?_⟩
  refine⟨_,rfl,_,"list",.list ds,_,rfl,.lst hq hp.dt,a0k K _,_,rfl,bI ?_⟩
  refine⟨_,rfl,_,_,rfl,.inl ⟨_,hq,rfl⟩,_,rfl,rfl,_,rfl,?_⟩
  rw[decide_eq_true rfl]
  refine bI ⟨_,rfl,a,rfl,⟨_,hq⟩,fun D hD=> ?_⟩
  refine sV (K:=K) (a:=a) (xs:=xs) (fun i ys H2=>ys=(List.replicate i (V.bl true))/\aH H H2) ⟨rfl,aH.new hD⟩ (fun i ys H2 _ ⟨_,s2⟩=>s2.seq hq) ?_ ?_
  ·rintro i v ys H2 hv h2D ⟨rfl,s2⟩
   obtain⟨e,he,hde⟩:=hp.dt.get hv
   have ve:=hp.vd e (List.mem_of_getElem? he)
   have hi:i<xs.length:=(List.getElem?_eq_some_iff.mp hv).1
   refine⟨_,rfl,v,e,rfl,hde.same s2,ve.short.1,fun H3 s3=>⟨s3 _ _ h2D,?_,?_,?_⟩⟩
   ·rw[List.length_replicate]
    exact cY (by omega)
   ·rw[ve.short.2,List.replicate_succ']
   ·exact(s2.trans s3).on hD
  ·rintro ys H2 h2D ⟨rfl,s2⟩
   refine⟨D,List.replicate xs.length true,rfl,aN.of (by rw[h2D,List.map_replicate]),_,rfl,?_⟩
   rw[show (List.replicate xs.length true).all id=true by rw[List.all_eq_true];intro b hb;exact(List.mem_replicate.mp hb).2]
   exact bI (q _ s2)
inductive yT(K:Fg)(C:Addr)(vs:List V)(H:Hp)(Q:VK)(E':XK):Prop
 |mk (p dx:Addr) (m:Nat):(vs= [.ref p,.int (m:Int)])->(H p=some (.ins C dx []))->(m<=30)->(∀H' r e,iC C H' p r e (eJ 0 m) (m:Int) [] ->H r=none->H e=none->r≠e->(∀b o,H b=some o->b≠p->H' b=some o)->Q .non H')->yT K C vs H Q E'
theorem a51:bA ["self","many"] ["self","many"] (aO a2i):={}
theorem a6m(T:bC K mg)(Y:dR K mg C):eM P w K mg base aF 3 C ["self","many"] (yT K C):=by
 have G_check_size:bH P w K mg base aF 2 "check_size" ["many"] uN:=a1v T
 refine(Y.m_init.known a51 (fun _ _ _ _ _ _ us hl=>dZ (fun _ _=>rfl) us hl) (fun vs H Q E h=> ?_) (fun f cdv A outer s H vs Q E hr h=> ?_)).init Y.mks Y.kc
 ·obtain⟨p,dx,m,rfl,_⟩:=h
  rfl
 ·obtain⟨p,dx,m,rfl,hp,hm,q1⟩:=h
  refine⟨_,(aK (cA (bV G_check_size hr.mn aS (aA (pv 1) aI)))
   (aK (cR (pv 0) (mV (a4u rfl) rfl T.list jR (aA (mV a45 rfl T.range a49 (aA (pv 1) aI)) aI)) rfl)
   (aK (cR (pv 0) (dQ jJ rfl T.len iE (aA (aW (pv 0) rfl) aI)) rfl)
   (aL (cR (pv 0) qN rfl))))),?_⟩
  refine⟨_,rfl,m,rfl,hm,?_⟩
  refine⟨_,rfl,(m:Int),rfl,fun g hg=>⟨g,0,(m:Int),rfl,aJ,by omega,by omega,by omega,by omega,by omega,fun r hr0=> ?_⟩⟩
  have ngp:p≠g:=bE hp hg
  have hgr:r≠g:=fun z=>by rw[z,aJ]at hr0;cases hr0
  have hr':H r=none:=by rw[aG hgr]at hr0;exact hr0
  have npr:p≠r:=bE hp hr'
  rw[Int.sub_zero,Int.toNat_natCast]
  refine⟨_,rfl,p,C,dx,[],rfl,(by rw[aG npr,aG ngp];exact hp),Y.cl,Y.n_row_numbers,(by show 0<1000;decide),?_⟩
  refine⟨_,rfl,p,C,dx,_,_,rfl,aJ,Y.cl,Y.n_row_numbers,rfl,_,_,rfl,.inl ⟨_,aN.of (by rw[aG npr.symm,aJ]),rfl⟩,?_⟩
  refine⟨_,rfl,p,C,dx,_,rfl,aJ,Y.cl,Y.n_fresh_number,(by show 1<1000;decide),?_⟩
  intro e he
  have npe:p≠e:=fun z=>by rw[<- z,aJ]at he;cases he
  have nre:r≠e:=fun z=>by rw[<- z,aG npr.symm,aG npr.symm,aJ]at he;cases he
  have nge:g≠e:=fun z=>by rw[<- z,aG ngp.symm,aG ngp.symm,aG hgr.symm,aJ]at he;cases he
  have he':H e=none:=by rw[aG npe.symm,aG npe.symm,aG nre.symm,aG nge.symm]at he;exact he
  refine⟨_,rfl,p,C,dx,_,rfl,(by rw[aG npe];exact aJ),Y.cl,Y.n_kept,(by show(aM "fresh_number" _ (aM "row_numbers" _ [])).length<1000;show(if("row_numbers":Str)= "fresh_number" then _ else _:List (Str×V)).length<1000;rw[if_neg (by decide+kernel)];show 2<1000;decide),?_⟩
  refine q1 _ r e ⟨⟨dx,?_⟩,?_,?_⟩ hr' he' nre fun b o hb hbp=> ?_
  ·rw[aJ]
   refine congrArg (fun l=>some (HO.ins C dx l)) ?_
   have:=a6B r (eJ 0 m).length e
   rw[pR]at this|-
   exact this
  ·rw[aG npr.symm,aG nre,aG npr.symm,aG npr.symm,aJ]
  ·rw[aG npe.symm,aJ]
  ·rw[aG hbp,aG (bE hb he'),aG hbp,aG hbp,aG (bE hb hr'),aG (bE hb hg)]
   exact hb
inductive lD(C:Addr)(vs:List V)(H:Hp)(Q:VK)(E':XK):Prop
 |mk (p:_) (r:_) (d:_) (xs:_) (n:_) (kvs:_):(vs= [.ref p])->(iC C H p r d xs n kvs)->(Q (.int xs.length) H)->lD C vs H Q E'
theorem a7w:bA ["self"] ["self"] (aO a3B):={}
theorem mW(T:bC K mg)(Y:dR K mg C):aR P w K mg base aF 1 C "many" ["self"] (lD C):=by
 refine Y.m_many.known a7w (fun _ _ _ _ _ _ us hl=>fK (fun _=>rfl) us hl) (fun vs H Q E h=> ?_) (fun f cdv A outer s H vs Q E hr h=> ?_)
 ·obtain⟨p,r,d,xs,n,kvs,rfl,_⟩:=h
  rfl
 ·obtain⟨p,r,d,xs,n,kvs,rfl,⟨⟨dx,hp⟩,hr',hd⟩,q⟩:=h
  refine⟨_,(aL (bN (dQ jJ rfl T.len iE (aA (aW (pv 0) rfl) aI)))),?_⟩
  exact⟨_,rfl,p,C,dx,_,_,rfl,hp,Y.cl,Y.n_row_numbers,a1w _ _ _,_,_,rfl,.inl ⟨_,aN.of hr',rfl⟩,q⟩
inductive sN(C:Addr)(vs:List V)(H:Hp)(Q:VK)(E':XK):Prop
 |mk (p:_) (r:_) (d:_) (xs:_) (n:_) (kvs:_) (t:_) (v:_):(vs= [.ref p,.str t])->(iC C H p r d xs n kvs)->(Nl t)->(aE kvs (.inr t:aB)=some v)->(∀H',aH H H'->Q .non H')->sN C vs H Q E'
theorem a7P:bA ["self","column"] ["self","column"] (aO a3D):={}
theorem a1T(T:bC K mg)(Y:dR K mg C):aR P w K mg base aF 2 C "check_column" ["self","column"] (sN C):=by
 have G_is_name:bH P w K mg base aF 1 "is_name" ["thing"] (kF K):=lR T
 refine Y.m_check_column.known a7P (fun _ _ _ _ _ _ us hl=>dZ (fun _ _=>rfl) us hl) (fun vs H Q E h=> ?_) (fun f cdv A outer s H vs Q E hr h=> ?_)
 ·obtain⟨p,r,d,xs,n,kvs,t,v,rfl,_⟩:=h
  rfl
 ·obtain⟨p,r,d,xs,n,kvs,t,v,rfl,TA,ht,hv,q⟩:=h
  refine⟨_,(aL (bL (PW.pt (iY (eV (eF (bV G_is_name hr.mn aS (aA (pv 1) aI)) (fun _=>rfl))) (jM (iN (lJ (dO hr) (pv 1) (aW (pv 0) rfl)))))) (aL cE) bO)),?_⟩
  have h8:=ht.2.1
  refine⟨_,rfl,_,.str t,rfl,.str t,lG (by omega),fun H' s'=>⟨_,rfl,?_⟩⟩
  rw[show fJ (.str t)=true from ht.name]
  obtain⟨⟨dx,h1⟩,_,h3⟩:=TA.same s'
  refine bI ⟨_,rfl,_,rfl,p,C,dx,_,_,rfl,h1,Y.cl,Y.n_kept,pI _ _ _,d,_,rfl,bW.k (k:=Sum.inr t) h3,_,rfl,?_⟩
  rw[hv]
  exact bI (q _ s')
inductive uE(C:Addr)(vs:List V)(H:Hp)(Q:VK)(E':XK):Prop
 |mk (p:_) (r:_) (d:_) (xs:_) (n:_) (kvs:_) (t:_) (l:_) (ys:_) (i:Nat) (v:V):(vs= [.ref p,.str t,.int (i:Int)])->(iC C H p r d xs n kvs)->(Nl t)->(aE kvs (.inr t:aB)=some (.ref l))->(H l=some (.lst ys))->(i<xs.length)->(cI ys (i:Int)=some v)->(∀H',aH H H'->Q v H')->uE C vs H Q E'
theorem a8l:bA ["self","column","place"] ["self","column","place"] (aO a2y):={}
theorem a3m(T:bC K mg)(Y:dR K mg C):aR P w K mg base aF 3 C "at" ["self","column","place"] (uE C):=by
 have G_check_column:aR P w K mg base aF 2 C "check_column" ["self","column"] (sN C):=a1T T Y
 have G_check_place:bH P w K mg base aF 2 "check_place" ["place","places"] oI:=tX T
 have G_many:aR P w K mg base aF 1 C "many" ["self"] (lD C):=mW T Y
 refine Y.m_at.known a8l (fun _ _ _ _ _ _ us hl=>gM (fun _ _ _=>rfl) us hl) (fun vs H Q E h=> ?_) (fun f cdv A outer s H vs Q E hr h=> ?_)
 ·obtain⟨p,r,d,xs,n,kvs,t,l,ys,i,v,rfl,_⟩:=h
  rfl
 ·obtain⟨p,r,d,xs,n,kvs,t,l,ys,i,v,rfl,TA,ht,hv,hl,hi,ha,q⟩:=h
  refine⟨_,(aK (cA (cC (pv 0) Y.cl G_check_column hr.mn aS (aA (pv 1) aI)))
   (aK (cA (bV G_check_place hr.mn aS (aA (pv 2) (aA (mH (pv 0) Y.cl G_many hr.mn aS) aI))))
   (aL (bN (cM iD (fD (dO hr) (aW (pv 0) rfl) (pv 1) (fun _ _=>rfl)) (pv 2) (fun _ _=>rfl)))))),?_⟩
  obtain⟨⟨dx,h1⟩,h2,h3⟩:=id TA
  refine⟨_,rfl,p,dx,_,rfl,h1,gN,_,rfl,p,r,d,xs,n,kvs,t,_,rfl,TA,ht,hv,fun H1 s1=> ?_⟩
  refine⟨_,rfl,_,rfl,p,dx,_,rfl,s1 _ _ h1,gN,p,r,d,xs,n,kvs,rfl,TA.same s1,i,xs.length,rfl,hi,?_⟩
  exact⟨_,rfl,p,C,dx,_,_,rfl,s1 _ _ h1,Y.cl,Y.n_kept,pI _ _ _,_,rfl,d,.ref l,rfl,hv▸bW.k (k:=Sum.inr t) (s1 _ _ h3),_,rfl,l,_,_,v,rfl,rfl,aN.of (s1 _ _ hl),ha,q _ s1⟩
inductive wG(C:Addr)(vs:List V)(H:Hp)(Q:VK)(E':XK):Prop
 |mk (p:_) (r:_) (d:_) (xs:_) (n:_) (kvs:_) (i:Nat) (v:V):(vs= [.ref p,.int (i:Int)])->(iC C H p r d xs n kvs)->(i<xs.length)->(cI xs (i:Int)=some v)->(Q v H)->wG C vs H Q E'
theorem a31:bA ["self","place"] ["self","place"] (aO a0X):={}
theorem a6g(T:bC K mg)(Y:dR K mg C):aR P w K mg base aF 3 C "number_at" ["self","place"] (wG C):=by
 have G_check_place:bH P w K mg base aF 2 "check_place" ["place","places"] oI:=tX T
 have G_many:aR P w K mg base aF 1 C "many" ["self"] (lD C):=mW T Y
 refine Y.m_number_at.known a31 (fun _ _ _ _ _ _ us hl=>dZ (fun _ _=>rfl) us hl) (fun vs H Q E h=> ?_) (fun f cdv A outer s H vs Q E hr h=> ?_)
 ·obtain⟨p,r,d,xs,n,kvs,i,v,rfl,_⟩:=h
  rfl
 ·obtain⟨p,r,d,xs,n,kvs,i,v,rfl,TA,hi,ha,q⟩:=h
  refine⟨_,(aK (cA (bV G_check_place hr.mn aS (aA (pv 1) (aA (mH (pv 0) Y.cl G_many hr.mn aS) aI))))
   (aL (bN (cM iD (aW (pv 0) rfl) (pv 1) (fun _ _=>rfl))))),?_⟩
  obtain⟨⟨dx,h1⟩,h2,h3⟩:=id TA
  refine⟨_,rfl,_,rfl,p,dx,_,rfl,h1,gN,p,r,d,xs,n,kvs,rfl,TA,i,xs.length,rfl,hi,?_⟩
  exact⟨_,rfl,p,C,dx,_,_,rfl,h1,Y.cl,Y.n_row_numbers,a1w _ _ _,_,rfl,r,_,_,v,rfl,rfl,aN.of h2,ha,q⟩
inductive zN(K:Fg)(C:Addr)(vs:List V)(H:Hp)(Q:VK)(E':XK):Prop
 |mk (p:_) (r:_) (d:_) (xs:_) (n:_) (kvs:_) (t:_) (l:_) (ys:_) (i:Nat) (v:V) (dv:PyData):(vs= [.ref p,.str t,.int (i:Int),v])->(iC C H p r d xs n kvs)->(Nl t)->(aE kvs (.inr t:aB)=some (.ref l))->(H l=some (.lst ys))->(i<xs.length)->(i<ys.length)->(Pv K H v dv)->(∀H',aH H H'->Q .non (upd H' l (.lst (ys.set i v))))->zN K C vs H Q E'
theorem a5j:bA ["self","column","place","value"] ["self","column","place","value"] (aO a2X):={}
theorem a52(T:bC K mg)(Y:dR K mg C):aR P w K mg base aF 5 C "put" ["self","column","place","value"] (zN K C):=by
 have G_check_column:aR P w K mg base aF 2 C "check_column" ["self","column"] (sN C):=a1T T Y
 have G_check_place:bH P w K mg base aF 2 "check_place" ["place","places"] oI:=tX T
 have G_check_value:bH P w K mg base aF 4 "check_value" ["value"] (wW K):=a3Q T
 have G_many:aR P w K mg base aF 1 C "many" ["self"] (lD C):=mW T Y
 refine Y.m_put.known a5j (fun _ _ _ _ _ _ us hl=>jG (fun _ _ _ _=>rfl) us hl) (fun vs H Q E h=> ?_) (fun f cdv A outer s H vs Q E hr h=> ?_)
 ·obtain⟨p,r,d,xs,n,kvs,t,l,ys,i,v,dv,rfl,_⟩:=h
  rfl
 ·obtain⟨p,r,d,xs,n,kvs,t,l,ys,i,v,dv,rfl,TA,ht,hv,hl,hi,hj,hpv,q⟩:=h
  refine⟨_,(aK (cA (cC (pv 0) Y.cl G_check_column hr.mn aS (aA (pv 1) aI)))
   (aK (cA (bV G_check_place hr.mn aS (aA (pv 2) (aA (mH (pv 0) Y.cl G_many hr.mn aS) aI))))
   (aK (cA (bV G_check_value hr.mn aS (aA (pv 3) aI)))
   (aL (sP (pv 3) (zU (fD (dO hr) (aW (pv 0) rfl) (pv 1) (fun _ _=>rfl)) (pv 2) yX (fun _=>rfl))))))),?_⟩
  obtain⟨⟨dx,h1⟩,h2,h3⟩:=id TA
  refine⟨_,rfl,p,dx,_,rfl,h1,gN,_,rfl,p,r,d,xs,n,kvs,t,_,rfl,TA,ht,hv,fun H1 s1=> ?_⟩
  refine⟨_,rfl,_,rfl,p,dx,_,rfl,s1 _ _ h1,gN,p,r,d,xs,n,kvs,rfl,TA.same s1,i,xs.length,rfl,hi,?_⟩
  refine⟨_,rfl,v,dv,rfl,hpv.same s1,fun H2 s2=> ?_⟩
  have s12:=s1.trans s2
  have hx:gP ys.length (i:Int)=some i:=by rw[uF (by omega) (by omega),Int.toNat_natCast]
  exact⟨_,rfl,_,rfl,p,C,dx,_,_,rfl,s12 _ _ h1,Y.cl,Y.n_kept,pI _ _ _,_,rfl,d,.ref l,rfl,hv▸bW.k (k:=Sum.inr t) (s12 _ _ h3),_,rfl,l,ys,_,i,rfl,rfl,s12 _ _ hl,hx,q _ s12⟩
inductive a0g(K:Fg)(C:Addr)(vs:List V)(H:Hp)(Q:VK)(E':XK):Prop
 |mk (p:_) (r:_) (d:_) (xs:_) (n:_) (kvs:_) (t:_) (a:_) (ys:_) (ds:_):(vs= [.ref p,.str t,.ref a])->(iC C H p r d xs n kvs)->(Nl t)->(((aE kvs (.inr t:aB)).isSome=true\/ kvs.length<8))->(kvs.length<=1000)->(aN K H a ys)->(dE K H ys ds)->(ys.length=xs.length)->(ys.length<=1000)->(∀H' l,aH H H'->H' l=none->Q .non (upd (upd H' l (.lst ys)) d (.dK (aQ kvs (.inr t:aB) (.ref l)))))->a0g K C vs H Q E'
theorem a73:bA ["self","column","values"] ["self","column","values"] (aO tH):={}
theorem a78(T:bC K mg)(Y:dR K mg C):aR P w K mg base aF 5 C "give" ["self","column","values"] (a0g K C):=by
 have G_is_name:bH P w K mg base aF 1 "is_name" ["thing"] (kF K):=lR T
 have G_check_values:bH P w K mg base aF 4 "check_values" ["values","many"] (tS K):=a3g T
 have G_many:aR P w K mg base aF 1 C "many" ["self"] (lD C):=mW T Y
 refine Y.m_give.known a73 (fun _ _ _ _ _ _ us hl=>gM (fun _ _ _=>rfl) us hl) (fun vs H Q E h=> ?_) (fun f cdv A outer s H vs Q E hr h=> ?_)
 ·obtain⟨p,r,d,xs,n,kvs,t,a,ys,ds,rfl,_⟩:=h
  rfl
 ·obtain⟨p,r,d,xs,n,kvs,t,a,ys,ds,rfl,TA,ht,hc,hk,hs,hp,hl,l1000,q⟩:=h
  have cJ:∃t',dU (dM aF P w K mg base ["self","column","values"] "Table.give" (aO tH) f cdv A outer s H E).nox ((eC tH).drop 2) t'/\
   ∀(H1:Hp),aH H H1->t' {nx:=fun _ H'=>Q .non H',rt:=Q} [some (.ref p),some (.str t),some (.ref a)] H1:=by
   refine⟨_,(aK (cA (bV G_check_values hr.mn aS (aA (pv 2) (aA (mH (pv 0) Y.cl G_many hr.mn aS) aI))))
    (aL (iT (dO hr) (aW (pv 0) rfl) (pv 1) (mV rH rfl T.list jR (aA (pv 2) aI)) rfl))),fun H1 s1=> ?_⟩
   obtain⟨⟨dx,h1⟩,h2,h3⟩:=TA.same s1
   refine⟨_,rfl,_,rfl,p,dx,_,rfl,h1,gN,p,r,d,xs,n,kvs,rfl,TA.same s1,a,ys,ds,(by rw[hl];rfl),s1.seq hs,hp.keep (bS.of s1),l1000,fun H2 s2=> ?_⟩
   have s12:=s1.trans s2
   refine⟨_,rfl,a,ys,rfl,.inl (s12.seq hs),fun l hl=> ?_⟩
   have c1:aH H2 (upd H2 l (.lst ys)):=aH.new hl
   refine⟨_,rfl,p,C,dx,_,_,rfl,c1 _ _ (s2 _ _ h1),Y.cl,Y.n_kept,pI _ _ _,_,rfl,d,_,rfl,gC.k (k:=Sum.inr t) (c1 _ _ (s2 _ _ h3)) (cY hk),?_⟩
   exact q H2 l s12 hl
  obtain⟨t2,ht2,r2⟩:=cJ
  refine⟨_,(aK (bL (eV (eF (bV G_is_name hr.mn aS (aA (pv 1) aI)) (fun _=>rfl))) (aL cE) bO)
   (aK (bL (PW.pt (oQ (iN (lJ (dO hr) (pv 1) (aW (pv 0) rfl))) (oV (cN xM (dQ a1R rfl T.len iE (aA (aW (pv 0) rfl) aI)) (pZ T.g_MOST_COLUMNS) (cX _))))) (aL cE) bO)
   ht2)),?_⟩
  have h8:=ht.2.1
  refine⟨_,rfl,_,.str t,rfl,.str t,lG (by omega),fun H1 s1=>⟨_,rfl,?_⟩⟩
  rw[show fJ (.str t)=true from ht.name]
  obtain⟨⟨dx,h2⟩,_,h3⟩:=TA.same s1
  refine bI ⟨_,rfl,_,rfl,p,C,dx,_,_,rfl,h2,Y.cl,Y.n_kept,pI _ _ _,d,_,rfl,bW.k (k:=Sum.inr t) h3,_,rfl,?_⟩
  cases e:aE kvs (Sum.inr t:aB)with
  |some v=>exact bI (bI (r2 H1 s1))
  |none=>
   have hc':kvs.length<8:=by
    rcases hc with hc|hc
    ·rw[e]at hc;cases hc
    ·exact hc
   refine cQ ⟨_,rfl,p,C,dx,_,_,rfl,h2,Y.cl,Y.n_kept,pI _ _ _,d,kvs,rfl,h3,_,_,rfl,rfl,_,rfl,?_⟩
   rw[decide_eq_false (show¬(kvs.length:Int)>=8 by omega)]
   exact bI (r2 H1 s1)
end
theorem iM(s:aH H H')(h:H' a=none):H a=none:=by
 cases e:H a with
 |none=>rfl
 |some o=>rw[s _ _ e]at h;cases h
def aY(p:Addr)(H H':Hp):Prop:=∀b o,b≠p->H b=some o->H' b=some o
theorem aY.of{p:Addr}(s:aH H H'):aY p H H':=fun b o _ e=>s b o e
theorem aY.trans{p:Addr}(a:aY p H H1)(b:aY p H1 H2):aY p H H2:=fun c o n e=>b c o n (a c o n e)
theorem uS{p dy:Addr}{fs gs:List (Str×V)}(h:H p=some (.ins C dx fs))(g:H b=some (.ins D dy gs))(n:fs.length≠gs.length):p≠b:=fun z=>by
 rw[z,g]at h
 cases h
 exact n rfl
structure BM where
 b:Addr
 g:Addr
 r:Addr
 e:Addr
 ru:Addr
 me:Addr
 od:Addr
 xs:List V
 n:Int
 kvs:List (aB×V)
 rus:List (aB×V)
 mes:List (aB×V)
 ord:List Str
variable{tabs:List (Str×My.BM)}
def jF(g ru me od:Addr):List (Str×V):=[("given",V.ref g),("rules",V.ref ru),("memory",V.ref me),("order",V.ref od)]
theorem dJ(g ru me od:Addr):(jF g ru me od).lookup ("given":Str)=some (.ref g)/\(jF g ru me od).lookup ("rules":Str)=some (.ref ru)/\(jF g ru me od).lookup ("memory":Str)=some (.ref me)/\(jF g ru me od).lookup ("order":Str)=some (.ref od):=⟨rfl,rfl,rfl,rfl⟩
theorem nH{g ru me od:Addr}(h:(m==("given":Str)||m==("rules":Str)||m==("memory":Str)||m==("order":Str))=false:=by decide+kernel):(jF g ru me od).lookup m=none:=by
 simp only[Bool.or_eq_false_iff]at h
 obtain⟨⟨⟨h1,h2⟩,h3⟩,h4⟩:=h
 unfold jF
 simp[List.lookup,h1,h2,h3,h4]
theorem a3Z(g ru me od:Addr):aM "order" (.ref od) (aM "memory" (.ref me) (aM "rules" (.ref ru) (aM "given" (.ref g) [])))=jF g ru me od:=by
 rfl
structure cD(CB CT:Addr)(H:Hp)(B:BM):Prop where
 at_:∃dx,H B.b=some (.ins CB dx (jF B.g B.ru B.me B.od))
 tab:iC CT H B.g B.r B.e B.xs B.n B.kvs
 rul:H B.ru=some (.dK B.rus)
 mem:H B.me=some (.dK B.mes)
 ord:H B.od=some (.lst (B.ord.map V.str))
theorem cD.same{B:BM}(h:cD CB CT H B)(s:aH H H'):cD CB CT H' B:=
 ⟨let ⟨dx,e⟩:=h.at_;⟨dx,s _ _ e⟩,h.tab.same s,s _ _ h.rul,s _ _ h.mem,s _ _ h.ord⟩
def BM.foot(B:BM):List Addr:=[B.b,B.g,B.r,B.e,B.ru,B.me,B.od]
structure BM.sep(B:BM):Prop where
 ro:B.r≠B.od
 eu:B.e≠B.ru
 em:B.e≠B.me
 um:B.ru≠B.me
section
inductive xJ(CB CT:Addr)(vs:List V)(H:Hp)(Q:VK)(E':XK):Prop
 |mk (p dx:Addr) (m:Nat):(vs= [.ref p,.int (m:Int)])->(H p=some (.ins CB dx []))->(m<=30)->(∀H' g r e ru me od,cD CB CT H' ⟨p,g,r,e,ru,me,od,eJ 0 m,(m:Int),[],[],[],[]⟩ ->BM.sep ⟨p,g,r,e,ru,me,od,eJ 0 m,(m:Int),[],[],[],[]⟩ ->(∀x∈ [g,r,e,ru,me,od],H x=none)->(∀b o,H b=some o->b≠p->H' b=some o)->Q .non H')->xJ CB CT vs H Q E'
theorem a4y:bA ["self","many"] ["self","many"] (aO a0W):={}
theorem a8n(T:bC K mg)(Y:cV K mg CB)(Z:dR K mg CT):eM P w K mg base aF 5 CB ["self","many"] (xJ CB CT):=by
 have GI:eM P w K mg base aF 3 CT ["self","many"] (yT K CT):=a6m T Z
 refine(Y.m_init.known a4y (fun _ _ _ _ _ _ us hl=>dZ (fun _ _=>rfl) us hl) (fun vs H Q E h=> ?_) (fun f cdv A outer s H vs Q E hr h=> ?_)).init Y.mks Y.kc
 ·obtain⟨p,dx,m,rfl,_⟩:=h
  rfl
 ·obtain⟨p,dx,m,rfl,hp,hm,q⟩:=h
  refine⟨_,(aK (cR (pv 0) (jX GI hr Z.c aS (aA (pv 1) aI)) rfl)
   (aK (cR (pv 0) qN rfl)
   (aK (cR (pv 0) qN rfl)
   (aL (cR (pv 0) (gW aI) rfl))))),?_⟩
  refine⟨_,rfl,?_⟩
  intro g dg hg hdg ne
  refine⟨g,dg,m,rfl,aJ,hm,fun H1 r e TA hr1 he1 nre b1=>⟨rfl,?_⟩⟩
  have s1:aH H H1:=fun b o z=>b1 b o (by rw[aG (bE z hg),aG (bE z hdg)];exact z) (bE z hg)
  have npg:p≠g:=bE hp hg
  have hr0:H r=none:=by
   by_cases z:r=g
   ·rw[z];exact hg
   ·by_cases z2:r=dg
    ·rw[z2];exact hdg
    ·rw[aG z,aG z2]at hr1;exact hr1
  have he0:H e=none:=by
   by_cases z:e=g
   ·rw[z];exact hg
   ·by_cases z2:e=dg
    ·rw[z2];exact hdg
    ·rw[aG z,aG z2]at he1;exact he1
  obtain⟨⟨dt,ht⟩,hrr,hee⟩:=TA
  refine⟨_,rfl,p,CB,dx,[],rfl,s1 _ _ hp,Y.cl,Y.n_given,(by show 0<1000;decide),?_⟩
  have u2:∀b o,b≠p->H1 b=some o->upd H1 p (.ins CB dx (aM "given" (.ref g) [])) b=some o:=fun b o n z=>by rw[aG n];exact z
  have p2:upd H1 p (.ins CB dx (aM "given" (.ref g) [])) p=some (.ins CB dx (aM "given" (.ref g) [])):=aJ
  have n2:∀b,upd H1 p (.ins CB dx (aM "given" (.ref g) [])) b=none->H1 b=none/\b≠p:=fun b z=>by
   have:b≠p:=fun y=>by rw[y,aJ]at z;cases z
   rw[aG this]at z
   exact⟨z,this⟩
  generalize upd H1 p (.ins CB dx (aM "given" (.ref g) []))=H2 at u2 p2 n2|-
  have b1':∀b,H1 b=none->H b=none:=fun b z=>by
   cases e9:H b with
   |none=>rfl
   |some o=>rw[s1 _ _ e9]at z;cases z
  refine fun ru hru=> ?_
  have s3:=aH.new (o:=.dK []) hru
  have h3:upd H2 ru (.dK []) ru=some (.dK []):=aJ
  have n3:∀b,upd H2 ru (.dK []) b=none->H2 b=none/\b≠ru:=fun b z=>by
   have:b≠ru:=fun y=>by rw[y,aJ]at z;cases z
   rw[aG this]at z
   exact⟨z,this⟩
  refine⟨_,rfl,p,CB,dx,_,rfl,s3 _ _ p2,Y.cl,Y.n_rules,(by show 1<1000;decide),?_⟩
  have hru2:=n2 _ hru
  generalize upd H2 ru (.dK [])=H3 at s3 h3 n3|-
  have u4:∀b o,b≠p->H3 b=some o->upd H3 p (.ins CB dx (aM "rules" (.ref ru) (aM "given" (.ref g) []))) b=some o:=fun b o n z=>by rw[aG n];exact z
  have p4:upd H3 p (.ins CB dx (aM "rules" (.ref ru) (aM "given" (.ref g) []))) p=some (.ins CB dx (aM "rules" (.ref ru) (aM "given" (.ref g) []))):=aJ
  have n4:∀b,upd H3 p (.ins CB dx (aM "rules" (.ref ru) (aM "given" (.ref g) []))) b=none->H3 b=none/\b≠p:=fun b z=>by
   have:b≠p:=fun y=>by rw[y,aJ]at z;cases z
   rw[aG this]at z
   exact⟨z,this⟩
  generalize upd H3 p (.ins CB dx (aM "rules" (.ref ru) (aM "given" (.ref g) [])))=H4 at u4 p4 n4|-
  refine fun me hme=> ?_
  have s5:=aH.new (o:=.dK []) hme
  have h5:upd H4 me (.dK []) me=some (.dK []):=aJ
  have n5:∀b,upd H4 me (.dK []) b=none->H4 b=none/\b≠me:=fun b z=>by
   have:b≠me:=fun y=>by rw[y,aJ]at z;cases z
   rw[aG this]at z
   exact⟨z,this⟩
  refine⟨_,rfl,p,CB,dx,_,rfl,s5 _ _ p4,Y.cl,Y.n_memory,(by show 2<1000;decide),?_⟩
  have hme4:=n4 _ hme
  have hme3:=n3 _ hme4.1
  have hme2:=n2 _ hme3.1
  generalize upd H4 me (.dK [])=H5 at s5 h5 n5|-
  have u6:∀b o,b≠p->H5 b=some o->upd H5 p (.ins CB dx (aM "memory" (.ref me) (aM "rules" (.ref ru) (aM "given" (.ref g) [])))) b=some o:=fun b o n z=>by rw[aG n];exact z
  have p6:upd H5 p (.ins CB dx (aM "memory" (.ref me) (aM "rules" (.ref ru) (aM "given" (.ref g) [])))) p=some (.ins CB dx (aM "memory" (.ref me) (aM "rules" (.ref ru) (aM "given" (.ref g) [])))):=aJ
  have n6:∀b,upd H5 p (.ins CB dx (aM "memory" (.ref me) (aM "rules" (.ref ru) (aM "given" (.ref g) [])))) b=none->H5 b=none/\b≠p:=fun b z=>by
   have:b≠p:=fun y=>by rw[y,aJ]at z;cases z
   rw[aG this]at z
   exact⟨z,this⟩
  generalize upd H5 p (.ins CB dx (aM "memory" (.ref me) (aM "rules" (.ref ru) (aM "given" (.ref g) []))))=H6 at u6 p6 n6|-
  refine⟨sl,fun od hod=> ?_⟩
  have s7:=aH.new (o:=.lst []) hod
  have h7:upd H6 od (.lst []) od=some (.lst []):=aJ
  refine⟨_,rfl,p,CB,dx,_,rfl,s7 _ _ p6,Y.cl,Y.n_order,(by show 3<1000;decide),?_⟩
  have hod6:=n6 _ hod
  have hod5:=n5 _ hod6.1
  have hod4:=n4 _ hod5.1
  have hod3:=n3 _ hod4.1
  have hod2:=n2 _ hod3.1
  generalize upd H6 od (.lst [])=H7 at s7 h7|-
  have up:∀b o,b≠p->H1 b=some o->upd H7 p (.ins CB dx (aM "order" (.ref od) (aM "memory" (.ref me) (aM "rules" (.ref ru) (aM "given" (.ref g) []))))) b=some o:=fun b o n z=>by
   rw[aG n]
   exact s7 _ _ (u6 _ _ n (s5 _ _ (u4 _ _ n (s3 _ _ (u2 _ _ n z)))))
  have p9:upd H7 p (.ins CB dx (aM "order" (.ref od) (aM "memory" (.ref me) (aM "rules" (.ref ru) (aM "given" (.ref g) []))))) p=some (.ins CB dx (jF g ru me od)):=by rw[aJ,a3Z]
  have npr:r≠p:=fun z=>by rw[z,hp]at hr0;cases hr0
  have npe:e≠p:=fun z=>by rw[z,hp]at he0;cases he0
  have o7:upd H7 p (.ins CB dx (aM "order" (.ref od) (aM "memory" (.ref me) (aM "rules" (.ref ru) (aM "given" (.ref g) []))))) od=some (.lst []):=by rw[aG hod6.2];exact h7
  have m7:upd H7 p (.ins CB dx (aM "order" (.ref od) (aM "memory" (.ref me) (aM "rules" (.ref ru) (aM "given" (.ref g) []))))) me=some (.dK []):=by
   rw[aG hme4.2]
   exact s7 _ _ (u6 _ _ hme4.2 h5)
  have r7:upd H7 p (.ins CB dx (aM "order" (.ref od) (aM "memory" (.ref me) (aM "rules" (.ref ru) (aM "given" (.ref g) []))))) ru=some (.dK []):=by
   rw[aG hru2.2]
   exact s7 _ _ (u6 _ _ hru2.2 (s5 _ _ (u4 _ _ hru2.2 h3)))
  generalize upd H7 p (.ins CB dx (aM "order" (.ref od) (aM "memory" (.ref me) (aM "rules" (.ref ru) (aM "given" (.ref g) [])))))=H9 at up p9 o7 m7 r7|-
  refine q H9 g r e ru me od ⟨⟨dx,p9⟩,⟨⟨dt,up _ _ npg.symm ht⟩,up _ _ npr hrr,up _ _ npe hee⟩,r7,m7,o7⟩ ⟨?_,?_,?_,?_⟩ ?_ fun b o z n=>up _ _ n (s1 _ _ z)
  ·exact bE hrr hod2.1
  ·exact bE hee hru2.1
  ·exact bE hee hme2.1
  ·exact fun z=>hme3.2 z.symm
  ·intro x hx
   simp only[List.mem_cons,List.not_mem_nil,or_false]at hx
   rcases hx with rfl|rfl|rfl|rfl|rfl|rfl
   ·exact hg
   ·exact hr0
   ·exact he0
   ·exact b1' _ hru2.1
   ·exact b1' _ hme2.1
   ·exact b1' _ hod2.1
inductive uD(CB CT:Addr)(vs:List V)(H:Hp)(Q:VK)(E':XK):Prop
 |mk (B:BM) (t:Str):(vs= [.ref B.b,.str t])->(cD CB CT H B)->(Nl t)->(∀H',aH H H'->Q (.bl (decide (t∈B.ord))) H')->uD CB CT vs H Q E'
theorem a6N:bA ["self","column"] ["self","column"] (aO a2t):={}
theorem a3I(T:bC K mg)(Y:cV K mg CB):aR P w K mg base aF 2 CB "has_column" ["self","column"] (uD CB CT):=by
 have G_is_name:bH P w K mg base aF 1 "is_name" ["thing"] (kF K):=lR T
 refine Y.m_has_column.known a6N (fun _ _ _ _ _ _ us hl=>dZ (fun _ _=>rfl) us hl) (fun vs H Q E h=> ?_) (fun f cdv A outer s H vs Q E hr h=> ?_)
 ·obtain⟨B,t,rfl,_⟩:=h
  rfl
 ·obtain⟨B,t,rfl,hB,ht,q⟩:=h
  refine⟨_,(aL (bN (pC (bV G_is_name hr.mn aS (aA (pv 1) aI)) (oJ (tO xD (pv 1) (aW (pv 0) rfl) (by with_unfolding_all rfl)))))),?_⟩
  have h8:=ht.2.1
  refine⟨_,rfl,_,.str t,rfl,.str t,lG (by omega),fun H' s'=>⟨_,rfl,?_⟩⟩
  rw[show fJ (.str t)=true from ht.name]
  obtain⟨⟨dx,h1⟩,_,_,_,h5⟩:=hB.same s'
  refine cQ ⟨_,rfl,_,rfl,B.b,CB,dx,_,_,rfl,h1,Y.cl,Y.n_order,(dJ _ _ _ _).2.2.2,B.od,_,rfl,.inl (aN.of h5),rfl,nO _,?_⟩
  rw[show (if false=true then !gR (.str t) (B.ord.map V.str) else gR (.str t) (B.ord.map V.str))=decide (t∈B.ord)by rw[if_neg Bool.false_ne_true,pH]]
  exact q _ s'
def pJ(B:BM)(t:Str):Prop:=aE B.rus (.inr t:aB)=none/\t∉B.ord
inductive pL(CB CT:Addr)(vs:List V)(H:Hp)(Q:VK)(E':XK):Prop
 |mk (B:BM) (t:Str):(vs= [.ref B.b,.str t])->(cD CB CT H B)->(pJ B t)->(Q .non H)->pL CB CT vs H Q E'
theorem a64:bA ["self","column"] ["self","column"] (aO a0v):={}
theorem a4d(T:bC K mg)(Y:cV K mg CB):aR P w K mg base aF 2 CB "content" ["self","column"] (pL CB CT):=by
 refine Y.m_content.known a64 (fun _ _ _ _ _ _ us hl=>dZ (fun _ _=>rfl) us hl) (fun vs H Q E h=> ?_) (fun f cdv A outer s H vs Q E hr h=> ?_)
 ·obtain⟨B,t,rfl,_⟩:=h
  rfl
 ·obtain⟨B,t,rfl,hB,⟨n1,n2⟩,q⟩:=h
  refine⟨_,(aK (bL (iN (nV (dO hr) (pv 1) (aW (pv 0) rfl))) (aL cE) bO)
   (aK (bL (cN xD (pv 1) (aW (pv 0) rfl) (by with_unfolding_all rfl)) (aL cE) bO)
   (aL (bN fZ)))),?_⟩
  obtain⟨⟨dx,h1⟩,_,h3,_,h5⟩:=id hB
  refine⟨_,rfl,_,rfl,B.b,CB,dx,_,_,rfl,h1,Y.cl,Y.n_rules,(dJ _ _ _ _).2.1,B.ru,_,rfl,bW.k (k:=Sum.inr t) h3,_,rfl,?_⟩
  rw[n1]
  refine bI ⟨_,rfl,_,rfl,B.b,CB,dx,_,_,rfl,h1,Y.cl,Y.n_order,(dJ _ _ _ _).2.2.2,B.od,_,rfl,.inl (aN.of h5),rfl,nO _,_,rfl,?_⟩
  rw[show (if false=true then !gR (.str t) (B.ord.map V.str) else gR (.str t) (B.ord.map V.str))=false by rw[if_neg Bool.false_ne_true,pH,decide_eq_false n2]]
  exact bI q
theorem a4A:bA ["self","column"] ["self","column"] (aO a0A):={}
theorem a2W(T:bC K mg)(Y:cV K mg CB):aR P w K mg base aF 2 CB "empty_column" ["self","column"] (pL CB CT):=by
 refine Y.m_empty_column.known a4A (fun _ _ _ _ _ _ us hl=>dZ (fun _ _=>rfl) us hl) (fun vs H Q E h=> ?_) (fun f cdv A outer s H vs Q E hr h=> ?_)
 ·obtain⟨B,t,rfl,_⟩:=h
  rfl
 ·obtain⟨B,t,rfl,hB,⟨n1,n2⟩,q⟩:=h
  refine⟨_,(aL (bL (iN (nV (dO hr) (pv 1) (aW (pv 0) rfl))) (aK cE (aL cE)) (aL (bL (cN xD (pv 1) (aW (pv 0) rfl) (by with_unfolding_all rfl)) (aL cE) bO)))),?_⟩
  obtain⟨⟨dx,h1⟩,_,h3,_,h5⟩:=id hB
  refine⟨_,rfl,_,rfl,B.b,CB,dx,_,_,rfl,h1,Y.cl,Y.n_rules,(dJ _ _ _ _).2.1,B.ru,_,rfl,bW.k (k:=Sum.inr t) h3,_,rfl,?_⟩
  rw[n1]
  refine bI ⟨_,rfl,_,rfl,B.b,CB,dx,_,_,rfl,h1,Y.cl,Y.n_order,(dJ _ _ _ _).2.2.2,B.od,_,rfl,.inl (aN.of h5),rfl,nO _,_,rfl,?_⟩
  rw[show (if false=true then !gR (.str t) (B.ord.map V.str) else gR (.str t) (B.ord.map V.str))=false by rw[if_neg Bool.false_ne_true,pH,decide_eq_false n2]]
  exact bI q
inductive sX(K:Fg)(CB CT:Addr)(vs:List V)(H:Hp)(Q:VK)(E':XK):Prop
 |mk (B:BM) (t:Str) (a:Addr) (ys:List V) (ds:List PyData):(vs= [.ref B.b,.str t,.ref a])->(cD CB CT H B)->(B.sep)->(pJ B t)->(Nl t)->(H a=some (.lst ys))->(a≠B.od)->(dE K H ys ds)->(ys.length=B.xs.length)->(ys.length<=30)->(B.kvs.length<8)->(B.ord.length<100)->(∀H' l,H l=none->cD CB CT H' {B with kvs:=aQ B.kvs (.inr t:aB) (.ref l),ord:=B.ord++ [t]} ->H' l=some (.lst ys)->(∀b o,b≠B.od->b≠B.e->H b=some o->H' b=some o)->Q .non H')->sX K CB CT vs H Q E'
theorem a1P:bA ["self","column","content"] ["self","column","content"] (aO a1U):={}
theorem a4k(T:bC K mg)(Y:cV K mg CB)(Z:dR K mg CT):aR P w K mg base aF 6 CB "set_column" ["self","column","content"] (sX K CB CT):=by
 have G_empty:aR P w K mg base aF 2 CB "empty_column" ["self","column"] (pL CB CT):=a2W T Y
 have G_give:aR P w K mg base aF 5 CT "give" ["self","column","values"] (a0g K CT):=a78 T Z
 refine Y.m_set_column.known a1P (fun _ _ _ _ _ _ us hl=>gM (fun _ _ _=>rfl) us hl) (fun vs H Q E h=> ?_) (fun f cdv A outer s H vs Q E hr h=> ?_)
 ·obtain⟨B,t,a,ys,ds,rfl,_⟩:=h
  rfl
 ·obtain⟨B,t,a,ys,ds,rfl,hB,sp,⟨n1,n2⟩,ht,ha,nao,hp,hl,l30,k8,o100,q⟩:=h
  refine⟨_,(aK (cA (cC (pv 0) Y.cl G_empty hr.mn aS (aA (pv 1) aI)))
   (aK (bL (cN oF (pv 2) fZ (cX _)) (aK cE (aL cE)) bO)
   (aK (bL (cN zE (pv 1) (aW (pv 0) rfl) (by with_unfolding_all rfl)) (aL (cA (kL F.plainAttrs_list F.slot_list_append F.type_list_append jC (aW (pv 0) rfl) (aA (pv 1) aI)))) bO)
   (aL (bL (eF (dQ a2V rfl T.isinstance kG (aA (pv 2) (aA (jW T.list jR) aI))) (fun _=>rfl)) (aL (cA (cC (aW (pv 0) rfl) Z.cl G_give hr.mn aS (aA (pv 1) (aA (pv 2) aI))))) (aK cE (aL cE))))))),?_⟩
  obtain⟨⟨dx,h1⟩,tb,h3,h4,h5⟩:=id hB
  refine⟨_,rfl,B.b,dx,_,rfl,h1,nH,_,rfl,B,t,rfl,hB,⟨n1,n2⟩,?_⟩
  refine⟨_,rfl,rfl,_,rfl,?_⟩
  rw[decide_eq_false (show¬V.ref a=V.non from fun z=>by cases z)]
  refine bI ⟨_,rfl,_,rfl,B.b,CB,dx,_,_,rfl,h1,Y.cl,Y.n_order,(dJ _ _ _ _).2.2.2,B.od,_,rfl,.inl (aN.of h5),rfl,nO _,_,rfl,?_⟩
  rw[show (if true=true then !gR (.str t) (B.ord.map V.str) else gR (.str t) (B.ord.map V.str))=true by rw[if_pos rfl,pH,decide_eq_false n2];rfl]
  refine cQ ⟨_,rfl,B.b,CB,dx,_,_,rfl,h1,Y.cl,Y.n_order,(dJ _ _ _ _).2.2.2,.inl ⟨rfl,_,aN.of h5⟩,_,rfl,B.od,_,_,rfl,rfl,h5,cY (by rw[List.length_map];omega),?_⟩
  have u6:∀b o,b≠B.od->H b=some o->upd H B.od (.lst (B.ord.map V.str++ [.str t])) b=some o:=fun b o n z=>by rw[aG n];exact z
  have o6:upd H B.od (.lst (B.ord.map V.str++ [.str t])) B.od=some (.lst ((B.ord++ [t]).map V.str)):=by rw[aJ,List.map_append];rfl
  have kt:bS H (upd H B.od (.lst (B.ord.map V.str++ [.str t]))):=bS.upd h5 (fun xs z=>by cases z)
  have n6:∀b,upd H B.od (.lst (B.ord.map V.str++ [.str t])) b=none->H b=none:=fun b z=>by
   have:b≠B.od:=fun y=>by rw[y,aJ]at z;cases z
   rw[aG this]at z
   exact z
  generalize upd H B.od (.lst (B.ord.map V.str++ [.str t]))=H6 at u6 o6 kt n6|-
  have a6:=u6 _ _ nao ha
  have b6:=u6 _ _ (fun z=>by rw[z,h5]at h1;cases h1) h1
  obtain⟨⟨dt,t1⟩,t2,t3⟩:=id tb
  have g6:=u6 _ _ (fun z=>by rw[z,h5]at t1;cases t1) t1
  have e6:=u6 _ _ (fun z=>by rw[z,h5]at t3;cases t3) t3
  have tb6:iC CT H6 B.g B.r B.e B.xs B.n B.kvs:=⟨⟨dt,g6⟩,u6 _ _ sp.ro t2,e6⟩
  refine⟨_,rfl,_,"list",.type "list",_,rfl,.lst a6,a0k K .lst,_,rfl,cQ ?_⟩
  refine⟨_,rfl,B.b,CB,dx,_,_,rfl,b6,Y.cl,Y.n_given,(dJ _ _ _ _).1,B.g,dt,_,rfl,g6,gN,_,rfl,_,rfl,B.g,B.r,B.e,B.xs,B.n,B.kvs,t,a,ys,ds,rfl,tb6,ht,.inr k8,by omega,aN.of a6,hp.keep kt,hl,by omega,fun H7 l s7 hl7=> ?_⟩
  have u9:∀b o,b≠B.e->H7 b=some o->upd (upd H7 l (.lst ys)) B.e (.dK (aQ B.kvs (.inr t:aB) (.ref l))) b=some o:=fun b o n z=>by
   rw[aG n,aG (bE z hl7)]
   exact z
  have nle:l≠B.e:=fun z=>by rw[z,s7 _ _ e6]at hl7;cases hl7
  have e9:upd (upd H7 l (.lst ys)) B.e (.dK (aQ B.kvs (.inr t:aB) (.ref l))) B.e=some (.dK (aQ B.kvs (.inr t:aB) (.ref l))):=aJ
  have l9:upd (upd H7 l (.lst ys)) B.e (.dK (aQ B.kvs (.inr t:aB) (.ref l))) l=some (.lst ys):=by rw[aG nle,aJ]
  generalize upd (upd H7 l (.lst ys)) B.e (.dK (aQ B.kvs (.inr t:aB) (.ref l)))=H9 at u9 e9 l9|-
  have up:∀b o,b≠B.od->b≠B.e->H b=some o->H9 b=some o:=fun b o n1 n2 z=>u9 _ _ n2 (s7 _ _ (u6 _ _ n1 z))
  have ne_:∀{b:Addr} {o:HO},H6 b=some o->(∀kvs,o≠ .dK kvs)->b≠B.e:=fun z n y=>by rw[y,e6]at z;exact n _ (Option.some.inj z).symm
  refine q H9 l (n6 _ (iM s7 hl7)) ⟨⟨dx,u9 _ _ (ne_ b6 (fun kvs z=>by cases z)) (s7 _ _ b6)⟩,⟨⟨dt,u9 _ _ (ne_ g6 (fun kvs z=>by cases z)) (s7 _ _ g6)⟩,?_,e9⟩,?_,?_,?_⟩ l9 up
  ·exact up _ _ sp.ro (fun z=>by rw[z,t3]at t2;cases t2) t2
  ·exact up _ _ (fun z=>by rw[z,h5]at h3;cases h3) sp.eu.symm h3
  ·exact up _ _ (fun z=>by rw[z,h5]at h4;cases h4) sp.em.symm h4
  ·exact u9 _ _ (ne_ o6 (fun kvs z=>by cases z)) (s7 _ _ o6)
inductive uX(K:Fg)(CB CT:Addr)(vs:List V)(H:Hp)(Q:VK)(E':XK):Prop
 |mk (B:BM) (t:Str) (a C dx:Addr) (fs:List (Str×V)):(vs= [.ref B.b,.str t,.ref a])->(cD CB CT H B)->(B.sep)->(pJ B t)->(H a=some (.ins C dx fs))->(fU K H (.ref a) (.ref C))->(W.kitOne K (.ref C) (.type "list")=some false)->(B.rus.length<100)->(B.mes.length<100)->(B.ord.length<100)->(∀H' m,H m=none->cD CB CT H' {B with rus:=aQ B.rus (.inr t:aB) (.ref a),mes:=aQ B.mes (.inr t:aB) (.ref m),ord:=B.ord++ [t]} ->H' m=some (.dK [])->(∀b o,b≠B.od->b≠B.ru->b≠B.me->H b=some o->H' b=some o)->Q .non H')->uX K CB CT vs H Q E'
theorem a8C(T:bC K mg)(Y:cV K mg CB):aR P w K mg base aF 6 CB "set_column" ["self","column","content"] (uX K CB CT):=by
 have G_empty:aR P w K mg base aF 2 CB "empty_column" ["self","column"] (pL CB CT):=a2W T Y
 refine Y.m_set_column.known a1P (fun _ _ _ _ _ _ us hl=>gM (fun _ _ _=>rfl) us hl) (fun vs H Q E h=> ?_) (fun f cdv A outer s H vs Q E hr h=> ?_)
 ·obtain⟨B,t,a,C,dc,fs,rfl,_⟩:=h
  rfl
 ·obtain⟨B,t,a,C,dc,fs,rfl,hB,sp,⟨n1,n2⟩,ha,hty,hk,r100,m100,o100,q⟩:=h
  refine⟨_,(aK (cA (cC (pv 0) Y.cl G_empty hr.mn aS (aA (pv 1) aI)))
   (aK (bL (cN oF (pv 2) fZ (cX _)) (aK cE (aL cE)) bO)
   (aK (bL (cN zE (pv 1) (aW (pv 0) rfl) (by with_unfolding_all rfl)) (aL (cA (kL F.plainAttrs_list F.slot_list_append F.type_list_append jC (aW (pv 0) rfl) (aA (pv 1) aI)))) bO)
   (aL (bL (eF (dQ a2V rfl T.isinstance kG (aA (pv 2) (aA (jW T.list jR) aI))) (fun _=>rfl)) (aL cE) (aK (iT (dO hr) (aW (pv 0) rfl) (pv 1) (pv 2) rfl) (aL (iT (dO hr) (aW (pv 0) rfl) (pv 1) qN rfl)))))))),?_⟩
  obtain⟨⟨dx,h1⟩,tb,h3,h4,h5⟩:=id hB
  refine⟨_,rfl,B.b,dx,_,rfl,h1,nH,_,rfl,B,t,rfl,hB,⟨n1,n2⟩,?_⟩
  refine⟨_,rfl,rfl,_,rfl,?_⟩
  rw[decide_eq_false (show¬V.ref a=V.non from fun z=>by cases z)]
  refine bI ⟨_,rfl,_,rfl,B.b,CB,dx,_,_,rfl,h1,Y.cl,Y.n_order,(dJ _ _ _ _).2.2.2,B.od,_,rfl,.inl (aN.of h5),rfl,nO _,_,rfl,?_⟩
  rw[show (if true=true then !gR (.str t) (B.ord.map V.str) else gR (.str t) (B.ord.map V.str))=true by rw[if_pos rfl,pH,decide_eq_false n2];rfl]
  refine cQ ⟨_,rfl,B.b,CB,dx,_,_,rfl,h1,Y.cl,Y.n_order,(dJ _ _ _ _).2.2.2,.inl ⟨rfl,_,aN.of h5⟩,_,rfl,B.od,_,_,rfl,rfl,h5,cY (by rw[List.length_map];omega),?_⟩
  have u6:∀b o,b≠B.od->H b=some o->upd H B.od (.lst (B.ord.map V.str++ [.str t])) b=some o:=fun b o n z=>by rw[aG n];exact z
  have o6:upd H B.od (.lst (B.ord.map V.str++ [.str t])) B.od=some (.lst ((B.ord++ [t]).map V.str)):=by rw[aJ,List.map_append];rfl
  have n6:∀b,upd H B.od (.lst (B.ord.map V.str++ [.str t])) b=none->H b=none/\b≠B.od:=fun b z=>by
   have:b≠B.od:=fun y=>by rw[y,aJ]at z;cases z
   rw[aG this]at z
   exact⟨z,this⟩
  generalize upd H B.od (.lst (B.ord.map V.str++ [.str t]))=H6 at u6 o6 n6|-
  have nl5:∀{b:Addr} {o:HO},H b=some o->(∀xs,o≠ .lst xs)->b≠B.od:=fun z n y=>by rw[y,h5]at z;exact n _ (Option.some.inj z).symm
  have a6:=u6 _ _ (nl5 ha (fun xs z=>by cases z)) ha
  have b6:=u6 _ _ (nl5 h1 (fun xs z=>by cases z)) h1
  have r6:=u6 _ _ (nl5 h3 (fun xs z=>by cases z)) h3
  have m6:=u6 _ _ (nl5 h4 (fun xs z=>by cases z)) h4
  have ty6:fU K H6 (.ref a) (.ref C):=by
   cases hty with
   |ins e1 e2 e3 e4 e5 e6=>exact .ins (u6 _ _ (nl5 e1 (fun xs z=>by cases z)) e1) e2 e3 e4 e5 e6
  refine⟨_,rfl,_,"list",.ref C,_,rfl,ty6,hk,_,rfl,bI ?_⟩
  refine⟨_,rfl,_,rfl,B.b,CB,dx,_,_,rfl,b6,Y.cl,Y.n_rules,(dJ _ _ _ _).2.1,_,rfl,B.ru,_,rfl,gC.k (k:=Sum.inr t) r6 (cY (by omega)),?_⟩
  have u7:∀b o,b≠B.ru->H6 b=some o->upd H6 B.ru (.dK (aQ B.rus (.inr t:aB) (.ref a))) b=some o:=fun b o n z=>by rw[aG n];exact z
  have r7:upd H6 B.ru (.dK (aQ B.rus (.inr t:aB) (.ref a))) B.ru=some (.dK (aQ B.rus (.inr t:aB) (.ref a))):=aJ
  have n7:∀b,upd H6 B.ru (.dK (aQ B.rus (.inr t:aB) (.ref a))) b=none->H6 b=none:=fun b z=>by
   have:b≠B.ru:=fun y=>by rw[y,aJ]at z;cases z
   rw[aG this]at z
   exact z
  generalize upd H6 B.ru (.dK (aQ B.rus (.inr t:aB) (.ref a)))=H7 at u7 r7 n7|-
  have b7:=u7 _ _ (fun z=>by rw[z,r6]at b6;cases b6) b6
  have m7:=u7 _ _ sp.um.symm m6
  refine fun m hm=> ?_
  have s8:=aH.new (o:=.dK []) hm
  refine⟨_,rfl,B.b,CB,dx,_,_,rfl,s8 _ _ b7,Y.cl,Y.n_memory,(dJ _ _ _ _).2.2.1,_,rfl,B.me,_,rfl,gC.k (k:=Sum.inr t) (s8 _ _ m7) (cY (by omega)),?_⟩
  have nmm:m≠B.me:=fun z=>by rw[z,m7]at hm;cases hm
  have u9:∀b o,b≠B.me->H7 b=some o->upd (upd H7 m (.dK [])) B.me (.dK (aQ B.mes (.inr t:aB) (.ref m))) b=some o:=fun b o n z=>by
   rw[aG n]
   exact s8 _ _ z
  have e9:upd (upd H7 m (.dK [])) B.me (.dK (aQ B.mes (.inr t:aB) (.ref m))) B.me=some (.dK (aQ B.mes (.inr t:aB) (.ref m))):=aJ
  have d9:upd (upd H7 m (.dK [])) B.me (.dK (aQ B.mes (.inr t:aB) (.ref m))) m=some (.dK []):=by rw[aG nmm,aJ]
  generalize upd (upd H7 m (.dK [])) B.me (.dK (aQ B.mes (.inr t:aB) (.ref m)))=H9 at u9 e9 d9|-
  have up:∀b o,b≠B.od->b≠B.ru->b≠B.me->H b=some o->H9 b=some o:=fun b o n1 n2 n3 z=>u9 _ _ n3 (u7 _ _ n2 (u6 _ _ n1 z))
  obtain⟨⟨dt,t1⟩,t2,t3⟩:=id tb
  have nd3:∀{b:Addr} {o:HO},H b=some o->(∀kvs,o≠ .dK kvs)->b≠B.ru/\b≠B.me:=fun z n=>⟨fun y=>by rw[y,h3]at z;exact n _ (Option.some.inj z).symm,fun y=>by rw[y,h4]at z;exact n _ (Option.some.inj z).symm⟩
  have i1:=nd3 h1 (fun kvs z=>by cases z)
  have i2:=nd3 t1 (fun kvs z=>by cases z)
  have i3:=nd3 t2 (fun kvs z=>by cases z)
  have i5:=nd3 h5 (fun kvs z=>by cases z)
  refine q H9 m (n6 _ (n7 _ hm)).1 ⟨⟨dx,up _ _ (nl5 h1 (fun xs z=>by cases z)) i1.1 i1.2 h1⟩,⟨⟨dt,up _ _ (nl5 t1 (fun xs z=>by cases z)) i2.1 i2.2 t1⟩,up _ _ sp.ro i3.1 i3.2 t2,up _ _ (nl5 t3 (fun xs z=>by cases z)) sp.eu sp.em t3⟩,?_,e9,?_⟩ d9 up
  ·exact u9 _ _ sp.um r7
  ·exact u9 _ _ i5.2 (u7 _ _ i5.1 o6)
end
noncomputable def oG (bd:Addr) (nm:Str) (m:Nat):List (Str×V):=[("boards",V.ref bd),("name",V.str nm),("size",V.int (m:Int))]
theorem uM(bd:Addr)(nm:Str)(m:Nat):(oG bd nm m).lookup ("boards":Str)=some (.ref bd)/\(oG bd nm m).lookup ("name":Str)=some (.str nm)/\(oG bd nm m).lookup ("size":Str)=some (.int (m:Int))/\(oG bd nm m).lookup ("take":Str)=none:=⟨rfl,rfl,rfl,rfl⟩
noncomputable def lZ (b:Addr) (t:Str) (a:Addr):List (Str×V):=[("board",V.ref b),("column",V.str t),("after",V.ref a),("before",V.non)]
theorem xB(b:Addr)(t:Str)(a:Addr):(lZ b t a).lookup ("board":Str)=some (.ref b)/\(lZ b t a).lookup ("column":Str)=some (.str t)/\(lZ b t a).lookup ("after":Str)=some (.ref a)/\(lZ b t a).lookup ("take":Str)=none/\aM "before" .non (lZ b t a)=lZ b t a:=⟨rfl,rfl,rfl,rfl,rfl⟩
noncomputable def fY (b:Addr) (t:Str) (p:Nat) (v u:V):List (Str×V):=[("board",V.ref b),("column",V.str t),("place",V.int (p:Int)),("after",v),("before",u)]
theorem wS(b:Addr)(t:Str)(p:Nat)(v u:V):(fY b t p v u).lookup ("board":Str)=some (.ref b)/\(fY b t p v u).lookup ("column":Str)=some (.str t)/\(fY b t p v u).lookup ("place":Str)=some (.int (p:Int))/\(fY b t p v u).lookup ("after":Str)=some v/\(fY b t p v u).lookup ("take":Str)=none/\∀u',aM "before" u' (fY b t p v u)=fY b t p v u':=⟨rfl,rfl,rfl,rfl,rfl,fun _=>rfl⟩
section
inductive yH(C:Addr)(vs:List V)(H:Hp)(Q:VK)(E':XK):Prop
 |mk (p dx bd:Addr) (nm:Str) (m:Nat):(vs= [.ref p,.ref bd,.str nm,.int (m:Int)])->(H p=some (.ins C dx []))->(∀H',aY p H H'->H' p=some (.ins C dx (oG bd nm m))->Q .non H')->yH C vs H Q E'
theorem a5y:bA ["self","boards","name","size"] ["self","boards","name","size"] (aO a1G):={}
theorem a6a(T:bC K mg)(Y:uR K mg C):eM P w K mg base aF 1 C ["self","boards","name","size"] (yH C):=by
 refine(Y.m_init.known a5y (fun _ _ _ _ _ _ us hl=>jG (fun _ _ _ _=>rfl) us hl) (fun vs H Q E h=> ?_) (fun f cdv A outer s H vs Q E hr h=> ?_)).init Y.mks Y.kc
 ·obtain⟨p,dx,bd,nm,m,rfl,_⟩:=h
  rfl
 ·obtain⟨p,dx,bd,nm,m,rfl,hp,q⟩:=h
  refine⟨_,(aK (cR (pv 0) (pv 1) rfl) (aK (cR (pv 0) (pv 2) rfl) (aL (cR (pv 0) (pv 3) rfl)))),?_⟩
  refine⟨_,rfl,_,rfl,p,C,dx,[],rfl,hp,Y.cl,Y.n_boards,(by show 0<1000;decide),?_⟩
  refine⟨_,rfl,_,rfl,p,C,dx,_,rfl,aJ,Y.cl,Y.n_name,(by show 1<1000;decide),?_⟩
  refine⟨_,rfl,_,rfl,p,C,dx,_,rfl,aJ,Y.cl,Y.n_size,(by show 2<1000;decide),?_⟩
  exact q _ (fun b o n z=>by rw[aG n,aG n,aG n];exact z) aJ
inductive vI(C:Addr)(vs:List V)(H:Hp)(Q:VK)(E':XK):Prop
 |mk (p dx b a:Addr) (t:Str):(vs= [.ref p,.ref b,.str t,.ref a])->(H p=some (.ins C dx []))->(∀H',aY p H H'->H' p=some (.ins C dx (lZ b t a))->Q .non H')->vI C vs H Q E'
theorem a5D:bA ["self","board","column","content"] ["self","board","column","content"] (aO a1S):={}
theorem a1Q(T:bC K mg)(Y:oZ K mg C):eM P w K mg base aF 1 C ["self","board","column","content"] (vI C):=by
 refine(Y.m_init.known a5D (fun _ _ _ _ _ _ us hl=>jG (fun _ _ _ _=>rfl) us hl) (fun vs H Q E h=> ?_) (fun f cdv A outer s H vs Q E hr h=> ?_)).init Y.mks Y.kc
 ·obtain⟨p,dx,b,a,t,rfl,_⟩:=h
  rfl
 ·obtain⟨p,dx,b,a,t,rfl,hp,q⟩:=h
  refine⟨_,(aK (cR (pv 0) (pv 1) rfl) (aK (cR (pv 0) (pv 2) rfl) (aK (cR (pv 0) (pv 3) rfl) (aL (cR (pv 0) fZ rfl))))),?_⟩
  refine⟨_,rfl,_,rfl,p,C,dx,[],rfl,hp,Y.cl,Y.n_board,(by show 0<1000;decide),?_⟩
  refine⟨_,rfl,_,rfl,p,C,dx,_,rfl,aJ,Y.cl,Y.n_column,(by show 1<1000;decide),?_⟩
  refine⟨_,rfl,_,rfl,p,C,dx,_,rfl,aJ,Y.cl,Y.n_after,(by show 2<1000;decide),?_⟩
  refine⟨_,rfl,p,C,dx,_,rfl,aJ,Y.cl,Y.n_before,(by show 3<1000;decide),?_⟩
  exact q _ (fun b o n z=>by rw[aG n,aG n,aG n,aG n];exact z) aJ
inductive a0b(C:Addr)(vs:List V)(H:Hp)(Q:VK)(E':XK):Prop
 |mk (p dx b:Addr) (t:Str) (i:Nat) (v:V):(vs= [.ref p,.ref b,.str t,.int (i:Int),v])->(H p=some (.ins C dx []))->(∀H',aY p H H'->H' p=some (.ins C dx (fY b t i v .non))->Q .non H')->a0b C vs H Q E'
theorem a56:bA ["self","board","column","place","value"] ["self","board","column","place","value"] (aO a2K):={}
theorem a5K(T:bC K mg)(Y:rB K mg C):eM P w K mg base aF 1 C ["self","board","column","place","value"] (a0b C):=by
 refine(Y.m_init.known a56 (fun _ _ _ _ _ _ us hl=>wL (fun _ _ _ _ _=>rfl) us hl) (fun vs H Q E h=> ?_) (fun f cdv A outer s H vs Q E hr h=> ?_)).init Y.mks Y.kc
 ·obtain⟨p,dx,b,t,i,v,rfl,_⟩:=h
  rfl
 ·obtain⟨p,dx,b,t,i,v,rfl,hp,q⟩:=h
  refine⟨_,(aK (cR (pv 0) (pv 1) rfl) (aK (cR (pv 0) (pv 2) rfl) (aK (cR (pv 0) (pv 3) rfl) (aK (cR (pv 0) (pv 4) rfl) (aL (cR (pv 0) fZ rfl)))))),?_⟩
  refine⟨_,rfl,_,rfl,p,C,dx,[],rfl,hp,Y.cl,Y.n_board,(by show 0<1000;decide),?_⟩
  refine⟨_,rfl,_,rfl,p,C,dx,_,rfl,aJ,Y.cl,Y.n_column,(by show 1<1000;decide),?_⟩
  refine⟨_,rfl,_,rfl,p,C,dx,_,rfl,aJ,Y.cl,Y.n_place,(by show 2<1000;decide),?_⟩
  refine⟨_,rfl,_,rfl,p,C,dx,_,rfl,aJ,Y.cl,Y.n_after,(by show 3<1000;decide),?_⟩
  refine⟨_,rfl,p,C,dx,_,rfl,aJ,Y.cl,Y.n_before,(by show 4<1000;decide),?_⟩
  exact q _ (fun b o n z=>by rw[aG n,aG n,aG n,aG n,aG n];exact z) aJ
inductive uL(C CB CT:Addr)(vs:List V)(H:Hp)(Q:VK)(E':XK):Prop
 |mk (p dx bd:Addr) (nm:Str) (m:Nat) (kb:List (aB×V)):(vs= [.ref p])->(H p=some (.ins C dx (oG bd nm m)))->(H bd=some (.dK kb))->(kb.length<100)->(m<=30)->(∀H' b g r e ru me od,cD CB CT H' ⟨b,g,r,e,ru,me,od,eJ 0 m,(m:Int),[],[],[],[]⟩ ->BM.sep ⟨b,g,r,e,ru,me,od,eJ 0 m,(m:Int),[],[],[],[]⟩ ->(∀x∈ [b,g,r,e,ru,me,od],H x=none)->H' bd=some (.dK (aQ kb (.inr nm:aB) (.ref b)))->(∀x o,x≠bd->H x=some o->H' x=some o)->Q .non H')->uL C CB CT vs H Q E'
theorem a75:bA ["self"] ["self"] (aO a1F):={}
theorem a4z(T:bC K mg)(Y:uR K mg C)(W:cV K mg CB)(Z:dR K mg CT):aR P w K mg base aF 7 C "take" ["self"] (uL C CB CT):=by
 have GI:eM P w K mg base aF 5 CB ["self","many"] (xJ CB CT):=a8n T W Z
 refine Y.m_take.known a75 (fun _ _ _ _ _ _ us hl=>fK (fun _=>rfl) us hl) (fun vs H Q E h=> ?_) (fun f cdv A outer s H vs Q E hr h=> ?_)
 ·obtain⟨p,dx,bd,nm,m,kb,rfl,_⟩:=h
  rfl
 ·obtain⟨p,dx,bd,nm,m,kb,rfl,hp,hb,kl,hm,q⟩:=h
  refine⟨_,(aL (iT (dO hr) (aW (pv 0) rfl) (aW (pv 0) rfl) (jX GI hr W.c aS (aA (aW (pv 0) rfl) aI)) rfl)),?_⟩
  refine⟨_,rfl,p,C,dx,_,_,rfl,hp,Y.cl,Y.n_size,(uM _ _ _).2.2.1,?_⟩
  intro b db hb0 hdb ne
  refine⟨b,db,m,rfl,aJ,hm,fun H1 g r e ru me od hB sp fr fm=>⟨rfl,?_⟩⟩
  have s1:aH H H1:=fun x o z=>fm x o (by rw[aG (bE z hb0),aG (bE z hdb)];exact z) (bE z hb0)
  have fr':∀x∈ [b,g,r,e,ru,me,od],H x=none:=fun x hx=>by
   rcases List.mem_cons.mp hx with rfl|hx
   ·exact hb0
   ·have:=fr x hx
    by_cases z:x=b
    ·rw[z];exact hb0
    ·by_cases z2:x=db
     ·rw[z2];exact hdb
     ·rw[aG z,aG z2]at this;exact this
  refine⟨_,rfl,p,C,dx,_,_,rfl,s1 _ _ hp,Y.cl,Y.n_boards,(uM _ _ _).1,_,rfl,p,C,dx,_,_,rfl,s1 _ _ hp,Y.cl,Y.n_name,(uM _ _ _).2.1,bd,_,rfl,gC.k (k:=Sum.inr nm) (s1 _ _ hb) (cY (by omega)),?_⟩
  have nb:∀{x:Addr},x∈ [b,g,r,e,ru,me,od] ->x≠bd:=fun hx z=>by rw[<- z,fr' _ hx]at hb;cases hb
  have u:∀x o,x≠bd->H1 x=some o->upd H1 bd (.dK (aQ kb (.inr nm:aB) (.ref b))) x=some o:=fun x o n z=>by rw[aG n];exact z
  obtain⟨⟨d1,e1⟩,⟨⟨d2,e2⟩,e3,e4⟩,e5,e6,e7⟩:=hB
  exact q _ b g r e ru me od ⟨⟨d1,u _ _ (nb (by simp)) e1⟩,⟨⟨d2,u _ _ (nb (by simp)) e2⟩,u _ _ (nb (by simp)) e3,u _ _ (nb (by simp)) e4⟩,u _ _ (nb (by simp)) e5,u _ _ (nb (by simp)) e6,u _ _ (nb (by simp)) e7⟩ sp fr' aJ (fun x o n z=>u _ _ n (s1 _ _ z))
inductive rQ(C CB CT:Addr)(sp:Sp)(vs:List V)(H:Hp)(Q:VK)(E':XK):Prop
 |mk (p dx a:Addr) (B:BM) (t:Str):(vs= [.ref p])->(H p=some (.ins C dx (lZ B.b t a)))->(cD CB CT H B)->(pJ B t)->(sp [.ref B.b,.str t,.ref a] H (fun _ H'=>Q .non H') E0)->rQ C CB CT sp vs H Q E'
theorem a8G:bA ["self"] ["self"] (aO a1Y):={}
theorem a1i(T:bC K mg)(Y:oZ K mg C)(W:cV K mg CB)(G:aR P w K mg base aF 6 CB "set_column" ["self","column","content"] sp):aR P w K mg base aF 7 C "take" ["self"] (rQ C CB CT sp):=by
 have G_content:aR P w K mg base aF 2 CB "content" ["self","column"] (pL CB CT):=a4d T W
 refine Y.m_take.known a8G (fun _ _ _ _ _ _ us hl=>fK (fun _=>rfl) us hl) (fun vs H Q E h=> ?_) (fun f cdv A outer s H vs Q E hr h=> ?_)
 ·obtain⟨p,dx,a,B,t,rfl,_⟩:=h
  rfl
 ·obtain⟨p,dx,a,B,t,rfl,hp,hB,hn,q⟩:=h
  refine⟨_,(aK (cR (pv 0) (cC (aW (pv 0) rfl) W.cl G_content hr.mn aS (aA (aW (pv 0) rfl) aI)) rfl)
   (aL (cA (cC (aW (pv 0) rfl) W.cl G hr aS (aA (aW (pv 0) rfl) (aA (aW (pv 0) rfl) aI)))))),?_⟩
  obtain⟨c1,c2,c3,c4,c5⟩:=xB B.b t a
  obtain⟨dB,h1⟩:=hB.at_
  refine⟨_,rfl,p,C,dx,_,_,rfl,hp,Y.cl,Y.n_board,c1,B.b,dB,_,rfl,h1,nH,_,rfl,p,C,dx,_,_,rfl,hp,Y.cl,Y.n_column,c2,B,t,rfl,hB,hn,?_⟩
  refine⟨_,rfl,p,C,dx,_,rfl,hp,Y.cl,Y.n_before,(by show 4<1000;decide),?_⟩
  rw[c5,a6y hp]
  exact⟨_,rfl,p,C,dx,_,_,rfl,hp,Y.cl,Y.n_board,c1,B.b,dB,_,rfl,h1,nH,_,rfl,p,C,dx,_,_,rfl,hp,Y.cl,Y.n_column,c2,_,rfl,p,C,dx,_,_,rfl,hp,Y.cl,Y.n_after,c3,q⟩
inductive sR(K:Fg)(C CB CT:Addr)(vs:List V)(H:Hp)(Q:VK)(E':XK):Prop
 |mk (p dx l:Addr) (B:BM) (t:Str) (i:Nat) (v u:V) (d:PyData) (ys:List V):(vs= [.ref p])->(H p=some (.ins C dx (fY B.b t i v u)))->(cD CB CT H B)->(Nl t)->(aE B.kvs (.inr t:aB)=some (.ref l))->(H l=some (.lst ys))->(i<B.xs.length)->(ys.length=B.xs.length)->(Pv K H v d)->(∀H',(∀x o,x≠p->x≠l->H x=some o->H' x=some o)->H' l=some (.lst (ys.set i v))->Q .non H')->sR K C CB CT vs H Q E'
theorem a5c:bA ["self"] ["self"] (aO a19):={}
theorem a8O(T:bC K mg)(Y:rB K mg C)(W:cV K mg CB)(Z:dR K mg CT):aR P w K mg base aF 7 C "take" ["self"] (sR K C CB CT):=by
 have G_at:aR P w K mg base aF 3 CT "at" ["self","column","place"] (uE CT):=a3m T Z
 have G_put:aR P w K mg base aF 5 CT "put" ["self","column","place","value"] (zN K CT):=a52 T Z
 refine Y.m_take.known a5c (fun _ _ _ _ _ _ us hl=>fK (fun _=>rfl) us hl) (fun vs H Q E h=> ?_) (fun f cdv A outer s H vs Q E hr h=> ?_)
 ·obtain⟨p,dx,l,B,t,i,v,u,d,ys,rfl,_⟩:=h
  rfl
 ·obtain⟨p,dx,l,B,t,i,v,u,d,ys,rfl,hp,hB,ht,hv,hl,hi,ly,hpv,q⟩:=h
  refine⟨_,(aK (cR (pv 0) (cC (aW (aW (pv 0) rfl) rfl) Z.cl G_at hr.mn aS (aA (aW (pv 0) rfl) (aA (aW (pv 0) rfl) aI))) rfl)
   (aL (cA (cC (aW (aW (pv 0) rfl) rfl) Z.cl G_put hr.mn aS (aA (aW (pv 0) rfl) (aA (aW (pv 0) rfl) (aA (aW (pv 0) rfl) aI))))))),?_⟩
  obtain⟨c1,c2,c3,c4,c5,c6⟩:=wS B.b t i v u
  obtain⟨⟨dB,h1⟩,tb,_,_,_⟩:=id hB
  obtain⟨⟨dT,t1⟩,_,_⟩:=id tb
  obtain⟨x0,hx0⟩:∃x0,cI ys (i:Int)=some x0:=by
   obtain⟨x0,e1,_⟩:=a6d ys (i:Int) (by omega) (by omega)
   exact⟨x0,e1⟩
  refine⟨_,rfl,p,C,dx,_,_,rfl,hp,Y.cl,Y.n_board,c1,B.b,CB,dB,_,_,rfl,h1,W.cl,W.n_given,(dJ _ _ _ _).1,B.g,dT,_,rfl,t1,gN,_,rfl,p,C,dx,_,_,rfl,hp,Y.cl,Y.n_column,c2,_,rfl,p,C,dx,_,_,rfl,hp,Y.cl,Y.n_place,c3,B.g,B.r,B.e,B.xs,B.n,B.kvs,t,l,ys,i,x0,rfl,tb,ht,hv,hl,hi,hx0,fun H1 s1=> ?_⟩
  refine⟨_,rfl,p,C,dx,_,rfl,s1 _ _ hp,Y.cl,Y.n_before,(by show 5<1000;decide),?_⟩
  rw[c6]
  obtain⟨c1,c2,c3,c4,c5,c6⟩:=wS B.b t i v x0
  have u2:∀x o,x≠p->H1 x=some o->upd H1 p (.ins C dx (fY B.b t i v x0)) x=some o:=fun x o n z=>by rw[aG n];exact z
  have p2:upd H1 p (.ins C dx (fY B.b t i v x0)) p=some (.ins C dx (fY B.b t i v x0)):=aJ
  have kt:bS H1 (upd H1 p (.ins C dx (fY B.b t i v x0))):=bS.upd (s1 _ _ hp) (fun xs z=>by cases z)
  generalize upd H1 p (.ins C dx (fY B.b t i v x0))=H2 at u2 p2 kt|-
  have npb:B.b≠p:=(uS hp h1 (by simp[fY,jF,kP])).symm
  have npg:B.g≠p:=(uS hp t1 (by simp[fY,jF,kP])).symm
  have np:∀{x:Addr} {o:HO},H x=some o->(∀C dx fs,o≠ .ins C dx fs)->x≠p:=fun z n y=>by rw[y,hp]at z;exact n _ _ _ (Option.some.inj z).symm
  have b2:=u2 _ _ npb (s1 _ _ h1)
  have g2:=u2 _ _ npg (s1 _ _ t1)
  obtain⟨_,tr,te⟩:=id tb
  have tb2:iC CT H2 B.g B.r B.e B.xs B.n B.kvs:=⟨⟨dT,g2⟩,u2 _ _ (np tr (fun _ _ _ z=>by cases z)) (s1 _ _ tr),u2 _ _ (np te (fun _ _ _ z=>by cases z)) (s1 _ _ te)⟩
  refine⟨_,rfl,p,C,dx,_,_,rfl,p2,Y.cl,Y.n_board,c1,B.b,CB,dB,_,_,rfl,b2,W.cl,W.n_given,(dJ _ _ _ _).1,B.g,dT,_,rfl,g2,gN,_,rfl,p,C,dx,_,_,rfl,p2,Y.cl,Y.n_column,c2,_,rfl,p,C,dx,_,_,rfl,p2,Y.cl,Y.n_place,c3,_,rfl,p,C,dx,_,_,rfl,p2,Y.cl,Y.n_after,c4,B.g,B.r,B.e,B.xs,B.n,B.kvs,t,l,ys,i,v,d,rfl,tb2,ht,hv,u2 _ _ (np hl (fun _ _ _ z=>by cases z)) (s1 _ _ hl),hi,by omega,(hpv.same s1).keep kt,fun H3 s3=> ?_⟩
  exact q _ (fun x o n1 n2 z=>by rw[aG n2];exact s3 _ _ (u2 _ _ n1 (s1 _ _ z))) aJ
end
def dW(bd ch fi:Addr):List (Str×V):=[("boards",V.ref bd),("changes",V.ref ch),("finder",V.ref fi)]
theorem lI(bd ch fi:Addr):(dW bd ch fi).lookup ("boards":Str)=some (.ref bd)/\(dW bd ch fi).lookup ("changes":Str)=some (.ref ch)/\(dW bd ch fi).lookup ("finder":Str)=some (.ref fi)/\∀fi',aM "finder" (.ref fi') (dW bd ch fi)=dW bd ch fi':=⟨rfl,rfl,rfl,fun _=>rfl⟩
theorem fL(h:(m==("boards":Str)||m==("changes":Str)||m==("finder":Str))=false:=by decide+kernel):(dW bd ch fi).lookup m=none:=by
 simp only[Bool.or_eq_false_iff]at h
 obtain⟨⟨h1,h2⟩,h3⟩:=h
 unfold dW
 simp[List.lookup,h1,h2,h3]
def fR(bd fd lk:Addr):List (Str×V):=[("boards",V.ref bd),("found",V.ref fd),("looked",V.ref lk)]
theorem iH(bd fd lk:Addr):(fR bd fd lk).lookup ("boards":Str)=some (.ref bd)/\(fR bd fd lk).lookup ("found":Str)=some (.ref fd)/\(fR bd fd lk).lookup ("looked":Str)=some (.ref lk):=⟨rfl,rfl,rfl⟩
theorem iL(h:(m==("boards":Str)||m==("found":Str)||m==("looked":Str))=false:=by decide+kernel):(fR bd fd lk).lookup m=none:=by
 simp only[Bool.or_eq_false_iff]at h
 obtain⟨⟨h1,h2⟩,h3⟩:=h
 unfold fR
 simp[List.lookup,h1,h2,h3]
section
inductive sU(C:Addr)(vs:List V)(H:Hp)(Q:VK)(E':XK):Prop
 |mk (p dx bd:Addr):(vs= [.ref p,.ref bd])->(H p=some (.ins C dx []))->(∀H' fd lk,H fd=none->H lk=none->fd≠lk->H' p=some (.ins C dx (fR bd fd lk))->H' fd=some (.dT [])->H' lk=some (.dT [])->aY p H H'->Q .non H')->sU C vs H Q E'
theorem a5q:bA ["self","boards"] ["self","boards"] (aO a1c):={}
theorem a06(T:bC K mg)(Y:eT K mg C):eM P w K mg base aF 1 C ["self","boards"] (sU C):=by
 refine(Y.m_init.known a5q (fun _ _ _ _ _ _ us hl=>dZ (fun _ _=>rfl) us hl) (fun vs H Q E h=> ?_) (fun f cdv A outer s H vs Q E hr h=> ?_)).init Y.mks Y.kc
 ·obtain⟨p,dx,bd,rfl,_⟩:=h
  rfl
 ·obtain⟨p,dx,bd,rfl,hp,q⟩:=h
  refine⟨_,(aK (cR (pv 0) (pv 1) rfl) (aK (cR (pv 0) rM rfl) (aL (cR (pv 0) rM rfl)))),?_⟩
  refine⟨_,rfl,_,rfl,p,C,dx,[],rfl,hp,Y.cl,Y.n_boards,(by show 0<1000;decide),?_⟩
  have u1:∀b o,b≠p->H b=some o->upd H p (.ins C dx (aM "boards" (.ref bd) [])) b=some o:=fun b o n z=>by rw[aG n];exact z
  have p1:upd H p (.ins C dx (aM "boards" (.ref bd) [])) p=some (.ins C dx (aM "boards" (.ref bd) [])):=aJ
  have n1:∀b,upd H p (.ins C dx (aM "boards" (.ref bd) [])) b=none->H b=none/\b≠p:=fun b z=>by
   have:b≠p:=fun y=>by rw[y,aJ]at z;cases z
   rw[aG this]at z
   exact⟨z,this⟩
  generalize upd H p (.ins C dx (aM "boards" (.ref bd) []))=H1 at u1 p1 n1|-
  refine fun fd hfd=> ?_
  have s2:=aH.new (o:=.dT []) hfd
  have h2:upd H1 fd (.dT []) fd=some (.dT []):=aJ
  have n2:∀b,upd H1 fd (.dT []) b=none->H1 b=none/\b≠fd:=fun b z=>by
   have:b≠fd:=fun y=>by rw[y,aJ]at z;cases z
   rw[aG this]at z
   exact⟨z,this⟩
  refine⟨_,rfl,p,C,dx,_,rfl,s2 _ _ p1,Y.cl,Y.n_found,(by show 1<1000;decide),?_⟩
  have hf:=n1 _ hfd
  generalize upd H1 fd (.dT [])=H2 at s2 h2 n2|-
  have u3:∀b o,b≠p->H2 b=some o->upd H2 p (.ins C dx (aM "found" (.ref fd) (aM "boards" (.ref bd) []))) b=some o:=fun b o n z=>by rw[aG n];exact z
  have p3:upd H2 p (.ins C dx (aM "found" (.ref fd) (aM "boards" (.ref bd) []))) p=some (.ins C dx (aM "found" (.ref fd) (aM "boards" (.ref bd) []))):=aJ
  have n3:∀b,upd H2 p (.ins C dx (aM "found" (.ref fd) (aM "boards" (.ref bd) []))) b=none->H2 b=none/\b≠p:=fun b z=>by
   have:b≠p:=fun y=>by rw[y,aJ]at z;cases z
   rw[aG this]at z
   exact⟨z,this⟩
  generalize upd H2 p (.ins C dx (aM "found" (.ref fd) (aM "boards" (.ref bd) [])))=H3 at u3 p3 n3|-
  refine fun lk hlk=> ?_
  have s4:=aH.new (o:=.dT []) hlk
  have h4:upd H3 lk (.dT []) lk=some (.dT []):=aJ
  refine⟨_,rfl,p,C,dx,_,rfl,s4 _ _ p3,Y.cl,Y.n_looked,(by show 2<1000;decide),?_⟩
  have k3:=n3 _ hlk
  have k2:=n2 _ k3.1
  have k1:=n1 _ k2.1
  generalize upd H3 lk (.dT [])=H4 at s4 h4|-
  exact q _ fd lk hf.1 k1.1 k2.2.symm aJ (by rw[aG hf.2];exact s4 _ _ (u3 _ _ hf.2 h2)) (by rw[aG k1.2];exact h4) (fun b o n z=>by rw[aG n];exact s4 _ _ (u3 _ _ n (s2 _ _ (u1 _ _ n z))))
inductive oN(CS CF C:Addr)(sp:Sp)(vs:List V)(H:Hp)(Q:VK)(E':XK):Prop
 |mk (s c bd ch fi dx dc:Addr) (cs:List V) (fs:List (Str×V)):(vs= [.ref s,.ref c])->(H c=some (.ins C dc fs))->(fs.lookup ("take":Str)=none)->(sp [.ref c] H (fun _ H1=>H1 s=some (.ins CS dx (dW bd ch fi))/\H1 ch=some (.lst cs)/\cs.length<900/\∀H2 fi' fd lk df,H1 fi'=none->H1 fd=none->H1 lk=none->fd≠lk->H2 s=some (.ins CS dx (dW bd ch fi'))->H2 ch=some (.lst (cs++ [.ref c]))->H2 fi'=some (.ins CF df (fR bd fd lk))->H2 fd=some (.dT [])->H2 lk=some (.dT [])->
  (∀x o,x≠s->x≠ch->H1 x=some o->H2 x=some o)->Q .non H2) E0)->oN CS CF C sp vs H Q E'
theorem a8t:bA ["self","change"] ["self","change"] (aO a3G):={}
def mX(sp:Sp):Prop:=∀vs H (Q Q':VK),(∀v H',Q v H'->Q' v H')->sp vs H Q E0->sp vs H Q' E0
theorem uW(T:bC K mg)(Y:gA K mg CS)(Z:eT K mg CF)(cl:cF K C)(mono:mX sp)(G:aR P w K mg base aF 7 C "take" ["self"] sp):aR P w K mg base aF 8 CS "make" ["self","change"] (oN CS CF C sp):=by
 have GI:eM P w K mg base aF 1 CF ["self","boards"] (sU CF):=a06 T Z
 refine Y.m_make.known a8t (fun _ _ _ _ _ _ us hl=>dZ (fun _ _=>rfl) us hl) (fun vs H Q E h=> ?_) (fun f cdv A outer s H vs Q E hr h=> ?_)
 ·obtain⟨s',c,bd,ch,fi,dx,dc,cs,fs,rfl,_⟩:=h
  rfl
 ·obtain⟨s',c,bd,ch,fi,dx,dc,cs,fs,rfl,hc,hf,q⟩:=h
  refine⟨_,(aK (cA (mH (pv 1) cl G hr aS))
   (aK (cA (kL F.plainAttrs_list F.slot_list_append F.type_list_append jC (aW (pv 0) rfl) (aA (pv 1) aI)))
   (aL (cR (pv 0) (jX GI hr.mn Z.c aS (aA (aW (pv 0) rfl) aI)) rfl)))),?_⟩
  refine⟨_,rfl,c,dc,fs,rfl,hc,hf,?_⟩
  refine mono _ _ _ _ (fun v0 H1 hQ=> ?_) q
  obtain⟨h1,h2,l9,qq⟩:=hQ
  obtain⟨a1,a2,a3,a4⟩:=lI bd ch fi
  refine⟨_,rfl,s',CS,dx,_,_,rfl,h1,Y.cl,Y.n_changes,a2,.inl ⟨rfl,_,aN.of h2⟩,_,rfl,ch,_,_,rfl,rfl,h2,cY (by omega),?_⟩
  have nsc:s'≠ch:=fun z=>by rw[z,h2]at h1;cases h1
  have u2:∀x o,x≠ch->H1 x=some o->upd H1 ch (.lst (cs++ [.ref c])) x=some o:=fun x o n z=>by rw[aG n];exact z
  have c2:upd H1 ch (.lst (cs++ [.ref c])) ch=some (.lst (cs++ [.ref c])):=aJ
  have n2:∀b,upd H1 ch (.lst (cs++ [.ref c])) b=none->H1 b=none/\b≠ch:=fun b z=>by
   have:b≠ch:=fun y=>by rw[y,aJ]at z;cases z
   rw[aG this]at z
   exact⟨z,this⟩
  generalize upd H1 ch (.lst (cs++ [.ref c]))=H2 at u2 c2 n2|-
  have s2:=u2 _ _ nsc h1
  refine⟨_,rfl,s',CS,dx,_,_,rfl,s2,Y.cl,Y.n_boards,a1,?_⟩
  intro fi' df hfi hdf ne
  refine⟨fi',df,bd,rfl,aJ,fun H3 fd lk hfd hlk nfl g1 g2 g3 b3=>⟨rfl,?_⟩⟩
  have s3:aH H2 H3:=fun b o z=>b3 b o (bE z hfi) (by rw[aG (bE z hfi),aG (bE z hdf)];exact z)
  have fr:∀{x:Addr},upd (upd H2 df (.own fi')) fi' (.ins CF df []) x=none->H2 x=none:=fun{x} z=>by
   by_cases z1:x=fi'
   ·rw[z1];exact hfi
   ·by_cases z2:x=df
    ·rw[z2];exact hdf
    ·rw[aG z1,aG z2]at z;exact z
  refine⟨_,rfl,s',CS,dx,_,rfl,s3 _ _ s2,Y.cl,Y.n_finder,(by show 3<1000;decide),?_⟩
  rw[a4]
  have ns:∀{x:Addr},H2 x=none->x≠s':=fun z y=>by rw[y,s2]at z;cases z
  exact qq _ fi' fd lk df (n2 _ hfi).1 (n2 _ (fr hfd)).1 (n2 _ (fr hlk)).1 nfl aJ (by rw[aG nsc.symm];exact s3 _ _ c2) (by rw[aG (ns hfi)];exact g1) (by rw[aG (ns (fr hfd))];exact g2) (by rw[aG (ns (fr hlk))];exact g3) (fun x o n1 n2' z=>by rw[aG n1];exact s3 _ _ (u2 _ _ n2' z))
inductive tW(CS CB CT:Addr)(vs:List V)(H:Hp)(Q:VK)(E':XK):Prop
 |mk (s bd ch fi dx:Addr) (kb:List (aB×V)) (nm:Str) (v:V):(vs= [.ref s,.str nm])->(H s=some (.ins CS dx (dW bd ch fi)))->(H bd=some (.dK kb))->(Nl nm)->(aE kb (.inr nm:aB)=some v)->(∀H',aH H H'->Q v H')->tW CS CB CT vs H Q E'
theorem a5E:bA ["self","table"] ["self","table"] (aO a1H):={}
theorem a1r(T:bC K mg)(Y:gA K mg CS):aR P w K mg base aF 2 CS "board_of" ["self","table"] (tW CS CB CT):=by
 have G_is_name:bH P w K mg base aF 1 "is_name" ["thing"] (kF K):=lR T
 refine Y.m_board_of.known a5E (fun _ _ _ _ _ _ us hl=>dZ (fun _ _=>rfl) us hl) (fun vs H Q E h=> ?_) (fun f cdv A outer s H vs Q E hr h=> ?_)
 ·obtain⟨s',bd,ch,fi,dx,kb,nm,v,rfl,_⟩:=h
  rfl
 ·obtain⟨s',bd,ch,fi,dx,kb,nm,v,rfl,h1,h2,ht,hv,q⟩:=h
  refine⟨_,(aK (bL (PW.pt (iY (eV (eF (bV G_is_name hr.mn aS (aA (pv 1) aI)) (fun _=>rfl))) (jM (iN (lJ (dO hr) (pv 1) (aW (pv 0) rfl)))))) (aL cE) bO)
   (aL (bN (fD (dO hr) (aW (pv 0) rfl) (pv 1) (fun _ _=>rfl))))),?_⟩
  have h8:=ht.2.1
  refine⟨_,rfl,_,.str nm,rfl,.str nm,lG (by omega),fun H' s9=>⟨_,rfl,?_⟩⟩
  rw[show fJ (.str nm)=true from ht.name]
  refine bI ⟨_,rfl,_,rfl,s',CS,dx,_,_,rfl,s9 _ _ h1,Y.cl,Y.n_boards,(lI _ _ _).1,bd,_,rfl,bW.k (k:=Sum.inr nm) (s9 _ _ h2),_,rfl,?_⟩
  rw[hv]
  exact bI ⟨_,rfl,s',CS,dx,_,_,rfl,s9 _ _ h1,Y.cl,Y.n_boards,(lI _ _ _).1,_,rfl,bd,v,rfl,hv▸bW.k (k:=Sum.inr nm) (s9 _ _ h2),q _ s9⟩
inductive sE(CS CB CT:Addr)(vs:List V)(H:Hp)(Q:VK)(E':XK):Prop
 |mk (s bd ch fi dx:Addr) (kb:List (aB×V)) (nm t:Str) (B:BM):(vs= [.ref s,.str nm,.str t])->(H s=some (.ins CS dx (dW bd ch fi)))->(H bd=some (.dK kb))->(Nl nm)->(aE kb (.inr nm:aB)=some (.ref B.b))->(cD CB CT H B)->(Nl t)->(t∈B.ord)->(∀H',aH H H'->Q (.ref B.b) H')->sE CS CB CT vs H Q E'
theorem a1t:bA ["self","table","column","board"] ["self","table","column"] (aO a2o):={}
theorem a1u(T:bC K mg)(Y:gA K mg CS)(W:cV K mg CB):aR P w K mg base aF 3 CS "board_with" ["self","table","column"] (sE CS CB CT):=by
 have G_of:aR P w K mg base aF 2 CS "board_of" ["self","table"] (tW CS CB CT):=a1r T Y
 have G_has:aR P w K mg base aF 2 CB "has_column" ["self","column"] (uD CB CT):=a3I T W
 refine Y.m_board_with.known a1t (fun _ _ _ _ _ _ us hl=>gM (fun _ _ _=>rfl) us hl) (fun vs H Q E h=> ?_) (fun f cdv A outer s H vs Q E hr h=> ?_)
 ·obtain⟨s',bd,ch,fi,dx,kb,nm,t,B,rfl,_⟩:=h
  rfl
 ·obtain⟨s',bd,ch,fi,dx,kb,nm,t,B,rfl,h1,h2,hn,hv,hB,ht,ho,q⟩:=h
  refine⟨_,(aK (cH (i:=3) a1t.nd rfl (Or.inl rfl) (cC (pv 0) Y.cl G_of hr aS (aA (pv 1) aI)))
   (aK (bL (eV (eF (cC (pv 3) W.cl G_has hr aS (aA (pv 2) aI)) (fun _=>rfl))) (aL cE) bO)
   (aL (bN (pv 3))))),?_⟩
  refine⟨_,rfl,s',dx,_,rfl,h1,fL,_,rfl,s',bd,ch,fi,dx,kb,nm,_,rfl,h1,h2,hn,hv,fun H1 s1=> ?_⟩
  have hB1:=hB.same s1
  obtain⟨dB,b1⟩:=hB1.at_
  refine⟨_,rfl,B.b,dB,_,rfl,b1,nH,_,rfl,B,t,rfl,hB1,ht,fun H2 s2=>⟨_,rfl,?_⟩⟩
  rw[decide_eq_true ho]
  exact bI ⟨_,rfl,q _ (s1.trans s2)⟩
inductive sG(CS CB CT:Addr)(vs:List V)(H:Hp)(Q:VK)(E':XK):Prop
 |mk (s bd ch fi dx:Addr) (kb:List (aB×V)) (nm t:Str) (B:BM):(vs= [.ref s,.str nm,.str t])->(H s=some (.ins CS dx (dW bd ch fi)))->(H bd=some (.dK kb))->(Nl nm)->(aE kb (.inr nm:aB)=some (.ref B.b))->(cD CB CT H B)->(Nl t)->(B.ord.length<8)->(∀H',aH H H'->Q (.ref B.b) H')->sG CS CB CT vs H Q E'
theorem a0F:bA ["self","table","column","board"] ["self","table","column"] (aO a28):={}
theorem a2q(T:bC K mg)(Y:gA K mg CS)(W:cV K mg CB):aR P w K mg base aF 3 CS "board_for" ["self","table","column"] (sG CS CB CT):=by
 have G_of:aR P w K mg base aF 2 CS "board_of" ["self","table"] (tW CS CB CT):=a1r T Y
 have G_is_name:bH P w K mg base aF 1 "is_name" ["thing"] (kF K):=lR T
 refine Y.m_board_for.known a0F (fun _ _ _ _ _ _ us hl=>gM (fun _ _ _=>rfl) us hl) (fun vs H Q E h=> ?_) (fun f cdv A outer s H vs Q E hr h=> ?_)
 ·obtain⟨s',bd,ch,fi,dx,kb,nm,t,B,rfl,_⟩:=h
  rfl
 ·obtain⟨s',bd,ch,fi,dx,kb,nm,t,B,rfl,h1,h2,hn,hv,hB,ht,ho,q⟩:=h
  refine⟨_,(aK (cH (i:=3) a0F.nd rfl (Or.inl rfl) (cC (pv 0) Y.cl G_of hr aS (aA (pv 1) aI)))
   (aK (bL (eV (eF (bV G_is_name hr.mn aS (aA (pv 2) aI)) (fun _=>rfl))) (aL cE) bO)
   (aK (bL (PW.pt (oQ (cN zE (pv 2) (aW (pv 3) rfl) (by with_unfolding_all rfl)) (oV (cN xM (dQ jJ rfl T.len iE (aA (aW (pv 3) rfl) aI)) (pZ T.g_MOST_COLUMNS) (cX _))))) (aL cE) bO)
   (aL (bN (pv 3)))))),?_⟩
  refine⟨_,rfl,s',dx,_,rfl,h1,fL,_,rfl,s',bd,ch,fi,dx,kb,nm,_,rfl,h1,h2,hn,hv,fun H1 s1=> ?_⟩
  have h8:=ht.2.1
  refine⟨_,rfl,_,.str t,rfl,.str t,lG (by omega),fun H2 s2=>⟨_,rfl,?_⟩⟩
  rw[show fJ (.str t)=true from ht.name]
  obtain⟨⟨dB,b1⟩,_,_,_,o1⟩:=(hB.same s1).same s2
  refine bI ⟨_,rfl,_,rfl,B.b,CB,dB,_,_,rfl,b1,W.cl,W.n_order,(dJ _ _ _ _).2.2.2,B.od,_,rfl,.inl (aN.of o1),rfl,nO _,_,rfl,?_⟩
  have fin:Q (.ref B.b) H2:=q _ (s1.trans s2)
  refine cW (fun _=> ?_) (fun _=> ?_)
  ·refine⟨_,rfl,B.b,CB,dB,_,_,rfl,b1,W.cl,W.n_order,(dJ _ _ _ _).2.2.2,_,_,rfl,.inl ⟨_,aN.of o1,rfl⟩,_,_,rfl,rfl,_,rfl,?_⟩
   rw[List.length_map,decide_eq_false (show¬(B.ord.length:Int)>=8 by omega)]
   exact bI ⟨_,rfl,fin⟩
  ·exact bI ⟨_,rfl,fin⟩
end
abbrev Ky:=List aB
variable{kf kf' kl:List (My.Ky×V)}
def bF(t c:Str)(p:Nat):Ky:=[.inr t,.inr c,.inl (p:Int)]
structure dL(CF CB CT:Addr)(H:Hp)(fi bd fd lk:Addr)(nm:Str)(B:BM)(kf:List (Ky×V)):Prop where
 fin:∃dx,H fi=some (.ins CF dx (fR bd fd lk))
 bds:∃kb,H bd=some (.dK kb)/\aE kb (.inr nm:aB)=some (.ref B.b)
 B:cD CB CT H B
 fnd:H fd=some (.dT kf)
 len:kf.length<900
theorem dL.same{nm:Str}{B:BM}(h:dL CF CB CT H fi bd fd lk nm B kf)(s:aH H H'):dL CF CB CT H' fi bd fd lk nm B kf:=
 ⟨let ⟨dx,e⟩:=h.fin;⟨dx,s _ _ e⟩,let ⟨kb,e1,e2⟩:=h.bds;⟨kb,s _ _ e1,e2⟩,h.B.same s,s _ _ h.fnd,h.len⟩
theorem dL.put{nm:Str}{B:BM}(h:dL CF CB CT H fi bd fd lk nm B kf)(s:aY fd H H')(e:H' fd=some (.dT kf'))(l:kf'.length<900):dL CF CB CT H' fi bd fd lk nm B kf':=by
 have u:∀{x:Addr} {o:HO},H x=some o->(∀kvs,o≠ .dT kvs)->H' x=some o:=fun z n=>s _ _ (fun y=>by rw[y,h.fnd]at z;exact n _ (Option.some.inj z).symm) z
 obtain⟨dx,e1⟩:=h.fin
 obtain⟨kb,e2,e3⟩:=h.bds
 obtain⟨⟨d1,b1⟩,⟨⟨d2,b2⟩,b3,b4⟩,b5,b6,b7⟩:=h.B
 exact⟨⟨dx,u e1 (fun _ z=>by cases z)⟩,⟨kb,u e2 (fun _ z=>by cases z),e3⟩,⟨⟨d1,u b1 (fun _ z=>by cases z)⟩,⟨⟨d2,u b2 (fun _ z=>by cases z)⟩,u b3 (fun _ z=>by cases z),u b4 (fun _ z=>by cases z)⟩,u b5 (fun _ z=>by cases z),u b6 (fun _ z=>by cases z),u b7 (fun _ z=>by cases z)⟩,e,l⟩
section
inductive uT(CF CB CT:Addr)(vs:List V)(H:Hp)(Q:VK)(E':XK):Prop
 |mk (fi bd fd lk ce l:Addr) (nm c:Str) (p:Nat) (B:BM) (kf:List (Ky×V)) (ys:List V) (v:V):(vs= [.ref fi,.ref ce])->(dL CF CB CT H fi bd fd lk nm B kf)->(H ce=some (.tup ((bF nm c p).map kV)))->(aE B.rus (.inr c:aB)=none)->(Nl c)->(aE B.kvs (.inr c:aB)=some (.ref l))->(H l=some (.lst ys))->(p<B.xs.length)->(cI ys (p:Int)=some v)->((∀v',aE kf (bF nm c p)=some v'->v'=v))->(kf.length<899)->(∀H' kf',(kf'=kf\/ kf'=aQ kf (bF nm c p) v)->aE kf' (bF nm c p)=some v->dL CF CB CT H' fi bd fd lk nm B kf'->aY fd H H'->Q (.bl true) H')->uT CF CB CT vs H Q E'
theorem sW:bA ["self","cell","board"] ["self","cell"] (aO a1d):={}
theorem a2k(T:bC K mg)(Y:eT K mg CF)(W:cV K mg CB)(Z:dR K mg CT):aR P w K mg base aF 4 CF "knows" ["self","cell"] (uT CF CB CT):=by
 have G_at:aR P w K mg base aF 3 CT "at" ["self","column","place"] (uE CT):=a3m T Z
 refine Y.m_knows.known sW (fun _ _ _ _ _ _ us hl=>dZ (fun _ _=>rfl) us hl) (fun vs H Q E h=> ?_) (fun f cdv A outer s H vs Q E hr h=> ?_)
 ·obtain⟨fi,bd,fd,lk,ce,l,nm,c,p,B,kf,ys,v,rfl,_⟩:=h
  rfl
 ·obtain⟨fi,bd,fd,lk,ce,l,nm,c,p,B,kf,ys,v,rfl,hF,hce,hru,hc,hv,hl,hp,ha,hcon,kl,q⟩:=h
  have hu:=dO hr
  refine⟨_,(aK (cH (i:=2) sW.nd rfl (Or.inl rfl) (fD hu (aW (pv 0) rfl) (cM eX (pv 1) bD (fun _ _=>rfl)) (fun _ _=>rfl)))
   (aK (bL (PW.pt (oQ (iN (lJ hu (pv 1) (aW (pv 0) rfl))) (oV (iN (lJ hu (cM eX (pv 1) bD (fun _ _=>rfl)) (aW (pv 2) rfl)))))) (aL (iT hu (aW (pv 0) rfl) (pv 1) (cC (aW (pv 2) rfl) Z.cl G_at hr aS (aA (cM eX (pv 1) bD (fun _ _=>rfl)) (aA (cM eX (pv 1) bD (fun _ _=>rfl)) aI))) rfl)) bO)
   (aL (bN (vR (nV hu (pv 1) (aW (pv 0) rfl)) (by with_unfolding_all rfl)))))),?_⟩
  obtain⟨dx,e1⟩:=hF.fin
  obtain⟨kb,e2,e3⟩:=hF.bds
  obtain⟨⟨d1,b1⟩,tb,b5,_,_⟩:=id hF.B
  obtain⟨⟨d2,b2⟩,b3,b4⟩:=id tb
  have e4:=hF.fnd
  obtain⟨a1,a2,a3⟩:=iH bd fd lk
  refine⟨_,rfl,fi,CF,dx,_,_,rfl,e1,Y.cl,Y.n_boards,a1,_,rfl,ce,_,_,_,rfl,rfl,bU.of hce,rfl,bd,_,rfl,e3▸bW.k (k:=Sum.inr nm) e2,?_⟩
  have dgf:∀{H':Hp} {kf':List (Ky×V)},H' fd=some (.dT kf')->H' ce=some (.tup ((bF nm c p).map kV))->bW H' fd (.ref ce) (aE kf' (bF nm c p)):=fun e g=> .inr ⟨_,bF nm c p,ce,.inl e,rfl,g,rfl⟩
  refine⟨_,rfl,_,rfl,fi,CF,dx,_,_,rfl,e1,Y.cl,Y.n_found,a2,fd,_,rfl,dgf e4 hce,_,rfl,?_⟩
  cases hk:aE kf (bF nm c p)with
  |some v'=>
   obtain rfl:=hcon v' hk
   refine bI (bI ⟨_,rfl,_,rfl,fi,CF,dx,_,_,rfl,e1,Y.cl,Y.n_found,a2,fd,_,rfl,dgf e4 hce,?_⟩)
   rw[hk]
   exact q H kf (.inl rfl) hk hF (aY.of (aH.refl H))
  |none=>
   refine cQ ⟨_,rfl,ce,_,_,_,rfl,rfl,bU.of hce,rfl,_,rfl,B.b,CB,d1,_,_,rfl,b1,W.cl,W.n_rules,(dJ _ _ _ _).2.1,B.ru,_,rfl,bW.k (k:=Sum.inr c) b5,_,rfl,?_⟩
   rw[hru]
   refine cQ ⟨_,rfl,B.b,CB,d1,_,_,rfl,b1,W.cl,W.n_given,(dJ _ _ _ _).1,B.g,d2,_,rfl,b2,gN,_,rfl,ce,_,_,_,rfl,rfl,bU.of hce,rfl,_,rfl,ce,_,_,_,rfl,rfl,bU.of hce,rfl,B.g,B.r,B.e,B.xs,B.n,B.kvs,c,l,ys,p,v,rfl,tb,hc,hv,hl,hp,ha,fun H1 s1=> ?_⟩
   have F1:=hF.same s1
   have c1:=s1 _ _ hce
   have nce:ce≠fd:=fun z=>by rw[z,e4]at hce;cases hce
   refine⟨_,rfl,fi,CF,dx,_,_,rfl,s1 _ _ e1,Y.cl,Y.n_found,a2,_,rfl,fd,_,rfl,.inr ⟨kf,bF nm c p,ce,F1.fnd,rfl,c1,cY (by omega),rfl⟩,?_⟩
   have vp:aE (aQ kf (bF nm c p) v) (bF nm c p)=some v:=by rw[fQ,if_pos rfl]
   have lp:=xX kf (bF nm c p) v
   have b2':aY fd H1 (upd H1 fd (.dT (aQ kf (bF nm c p) v))):=fun b o n z=>by rw[aG n];exact z
   have F2:=F1.put b2' aJ (by omega)
   have c2:=b2' _ _ nce c1
   have f2:=F2.fnd
   generalize upd H1 fd (.dT (aQ kf (bF nm c p) v))=H2 at b2' F2 c2 f2|-
   obtain⟨dx2,e12⟩:=F2.fin
   refine⟨_,rfl,_,rfl,fi,CF,dx2,_,_,rfl,e12,Y.cl,Y.n_found,a2,fd,_,rfl,dgf f2 c2,?_⟩
   rw[vp]
   exact q H2 _ (.inr rfl) vp F2 ((aY.of s1).trans b2')
inductive qM(CF CB CT:Addr)(vs:List V)(H:Hp)(Q:VK)(E':XK):Prop
 |mk (fi bd fd lk ce:Addr) (nm c:Str) (p:Nat) (B:BM) (kf:List (Ky×V)) (r:V):(vs= [.ref fi,.ref ce])->(dL CF CB CT H fi bd fd lk nm B kf)->(H ce=some (.tup ((bF nm c p).map kV)))->(aE B.rus (.inr c:aB)=some r)->(Q (.bl (aE kf (bF nm c p)).isSome) H)->qM CF CB CT vs H Q E'
theorem wY(T:bC K mg)(Y:eT K mg CF)(W:cV K mg CB):aR P w K mg base aF 4 CF "knows" ["self","cell"] (qM CF CB CT):=by
 refine Y.m_knows.known sW (fun _ _ _ _ _ _ us hl=>dZ (fun _ _=>rfl) us hl) (fun vs H Q E h=> ?_) (fun f cdv A outer s H vs Q E hr h=> ?_)
 ·obtain⟨fi,bd,fd,lk,ce,nm,c,p,B,kf,r,rfl,_⟩:=h
  rfl
 ·obtain⟨fi,bd,fd,lk,ce,nm,c,p,B,kf,r,rfl,hF,hce,hru,q⟩:=h
  have hu:=dO hr
  refine⟨_,(aK (cH (i:=2) sW.nd rfl (Or.inl rfl) (fD hu (aW (pv 0) rfl) (cM eX (pv 1) bD (fun _ _=>rfl)) (fun _ _=>rfl)))
   (aK (bL (PW.pt (oQ (iN (lJ hu (pv 1) (aW (pv 0) rfl))) (oV (iN (lJ hu (cM eX (pv 1) bD (fun _ _=>rfl)) (aW (pv 2) rfl)))))) (aL cE) bO)
   (aL (bN (vR (nV hu (pv 1) (aW (pv 0) rfl)) (by with_unfolding_all rfl)))))),?_⟩
  obtain⟨dx,e1⟩:=hF.fin
  obtain⟨kb,e2,e3⟩:=hF.bds
  obtain⟨⟨d1,b1⟩,tb,b5,_,_⟩:=id hF.B
  have e4:=hF.fnd
  obtain⟨a1,a2,a3⟩:=iH bd fd lk
  refine⟨_,rfl,fi,CF,dx,_,_,rfl,e1,Y.cl,Y.n_boards,a1,_,rfl,ce,_,_,_,rfl,rfl,bU.of hce,rfl,bd,_,rfl,e3▸bW.k (k:=Sum.inr nm) e2,?_⟩
  have dgf:bW H fd (.ref ce) (aE kf (bF nm c p)):=.inr ⟨_,bF nm c p,ce,.inl e4,rfl,hce,rfl⟩
  refine⟨_,rfl,_,rfl,fi,CF,dx,_,_,rfl,e1,Y.cl,Y.n_found,a2,fd,_,rfl,dgf,_,rfl,?_⟩
  refine cW (fun _=> ?_) (fun _=> ?_)
  ·refine⟨_,rfl,ce,_,_,_,rfl,rfl,bU.of hce,rfl,_,rfl,B.b,CB,d1,_,_,rfl,b1,W.cl,W.n_rules,(dJ _ _ _ _).2.1,B.ru,_,rfl,bW.k (k:=Sum.inr c) b5,_,rfl,?_⟩
   rw[hru]
   exact bI ⟨_,rfl,_,rfl,fi,CF,dx,_,_,rfl,e1,Y.cl,Y.n_found,a2,fd,_,rfl,dgf,q⟩
  ·exact bI ⟨_,rfl,_,rfl,fi,CF,dx,_,_,rfl,e1,Y.cl,Y.n_found,a2,fd,_,rfl,dgf,q⟩
def dP(fi tl:Addr)(u:V):List (Str×V):=[("finder",V.ref fi),("looked",V.ref tl),("lacking",u)]
theorem oH(fi tl:Addr)(u:V):(dP fi tl u).lookup ("finder":Str)=some (.ref fi)/\(dP fi tl u).lookup ("looked":Str)=some (.ref tl)/\(dP fi tl u).lookup ("lacking":Str)=some u/\(dP fi tl u).lookup ("look":Str)=none:=⟨rfl,rfl,rfl,rfl⟩
inductive yF(C:Addr)(vs:List V)(H:Hp)(Q:VK)(E':XK):Prop
 |mk (p dx fi:Addr):(vs= [.ref p,.ref fi])->(H p=some (.ins C dx []))->(∀H' tl,H tl=none->H' p=some (.ins C dx (dP fi tl .non))->H' tl=some (.dT [])->aY p H H'->Q .non H')->yF C vs H Q E'
theorem a4p:bA ["self","finder"] ["self","finder"] (aO a3e):={}
theorem a47(T:bC K mg)(Y:nJ K mg C):eM P w K mg base aF 1 C ["self","finder"] (yF C):=by
 refine(Y.m_init.known a4p (fun _ _ _ _ _ _ us hl=>dZ (fun _ _=>rfl) us hl) (fun vs H Q E h=> ?_) (fun f cdv A outer s H vs Q E hr h=> ?_)).init Y.mks Y.kc
 ·obtain⟨p,dx,fi,rfl,_⟩:=h
  rfl
 ·obtain⟨p,dx,fi,rfl,hp,q⟩:=h
  refine⟨_,(aK (cR (pv 0) (pv 1) rfl) (aK (cR (pv 0) rM rfl) (aL (cR (pv 0) fZ rfl)))),?_⟩
  refine⟨_,rfl,_,rfl,p,C,dx,[],rfl,hp,Y.cl,Y.n_finder,(by show 0<1000;decide),?_⟩
  have u1:∀b o,b≠p->H b=some o->upd H p (.ins C dx (aM "finder" (.ref fi) [])) b=some o:=fun b o n z=>by rw[aG n];exact z
  have p1:upd H p (.ins C dx (aM "finder" (.ref fi) [])) p=some (.ins C dx (aM "finder" (.ref fi) [])):=aJ
  have n1:∀b,upd H p (.ins C dx (aM "finder" (.ref fi) [])) b=none->H b=none/\b≠p:=fun b z=>by
   have:b≠p:=fun y=>by rw[y,aJ]at z;cases z
   rw[aG this]at z
   exact⟨z,this⟩
  generalize upd H p (.ins C dx (aM "finder" (.ref fi) []))=H1 at u1 p1 n1|-
  refine fun tl htl=> ?_
  have s2:=aH.new (o:=.dT []) htl
  have h2:upd H1 tl (.dT []) tl=some (.dT []):=aJ
  refine⟨_,rfl,p,C,dx,_,rfl,s2 _ _ p1,Y.cl,Y.n_looked,(by show 1<1000;decide),?_⟩
  have ht:=n1 _ htl
  generalize upd H1 tl (.dT [])=H2 at s2 h2|-
  refine⟨_,rfl,p,C,dx,_,rfl,aJ,Y.cl,Y.n_lacking,(by show 2<1000;decide),?_⟩
  exact q _ tl ht.1 aJ (by rw[aG ht.2,aG ht.2];exact h2) (fun b o n z=>by rw[aG n,aG n];exact s2 _ _ (u1 _ _ n z))
theorem a2w:bA ["self","table","column","place","cell"] ["self","table","column","place"] (aO a2g):={}
end
abbrev aU:=Str×Str×Nat
variable{wo wo':My.aU->Option (List Int×V)}{Vc:My.aU->Prop}
def cK(x:aU):Ky:=bF x.1 x.2.1 x.2.2
theorem qI{x y:aU}(h:cK x=cK y):x=y:=by
 unfold cK bF at h
 simp only[List.cons.injEq,Sum.inr.injEq,Sum.inl.injEq,and_true]at h
 exact Prod.ext h.1 (Prod.ext h.2.1 (by omega))
inductive GT where
 |done(t:PyData ⊕ List Int)
 |look(c:aU)(k:PyData->GT)
variable{J:Option My.GT->Hp->Prop}
def GT.run(val:aU->PyData):GT->PyData ⊕ List Int
 | .done t=>t
 | .look c k=>(k (val c)).run val
def GT.looks(val:aU->PyData):GT->List aU
 | .done _=> []
 | .look c k=>c::(k (val c)).looks val
inductive GT.Path(val:aU->PyData)(τ:GT):List aU->GT->Prop
 |nil:GT.Path val τ [] τ
 |snoc {us:List aU} {c:aU} {k:PyData->GT} (h:GT.Path val τ us (.look c k)):GT.Path val τ (us++ [c]) (k (val c))
theorem GT.Path.run{val:aU->PyData}{τ τ':GT}{us:List aU}(h:GT.Path val τ us τ'):τ.run val=τ'.run val:=by
 induction h with
 |nil=>rfl
 |snoc h ih=>exact ih
theorem GT.Path.looks{val:aU->PyData}{τ τ':GT}{us:List aU}(h:GT.Path val τ us τ'):τ.looks val=us++ τ'.looks val:=by
 induction h with
 |nil=>rfl
 |snoc h ih=>rw[ih,List.append_assoc];rfl
def isT:PyData->Bool
 | .tuple _=>true
 |_=>false
def eS:PyData->Int
 | .int i=>i
 |_=>0
def gQ(k:PyData ⊕ List Int->GT):List aU->List Int->GT
 | [],acc=>k (.inr acc)
 |c::r,acc=> .look c fun d=>if isT d then k (.inl d) else gQ k r (acc++ [eS d])
theorem wQ(k:PyData ⊕ List Int->GT)(c:aU)(r:List aU)(acc:List Int):gQ k (c::r) acc= .look c fun d=>if isT d then k (.inl d) else gQ k r (acc++ [eS d]):=by rw[gQ]
def kZ:PyData:=.tuple [.str "fault",.str "unknown"]
def eD(H H':Hp):Prop:=∀x o,(∃xs,o= .tup xs\/ ∃q,o= .frz q (.tup xs))->H x=some o->H' x=some o
theorem eD.of(s:aH H H'):eD H H':=fun x o _ e=>s _ _ e
theorem eD.t(s:eD H H'):bS H H':=fun a xs e=>s _ _ ⟨xs,.inl rfl⟩ e
theorem eD.upd{o':HO}(h:H l=some o)(n:∀xs,o≠ .tup xs)(n':∀q xs,o≠ .frz q (.tup xs)):eD H (L2.upd H l o'):=fun x ob hx e=>by
 rw[aG (fun y=>by
  rw[y,h]at e
  obtain⟨xs,rfl|⟨q,rfl⟩⟩:=hx
  ·exact n _ (Option.some.inj e)
  ·exact n' _ _ (Option.some.inj e))]
 exact e
theorem wF{v:V}(hv:Vd d)(h:Dt K H v d)(u:eD H H'):Dt K H' v d:=by
 rcases hv with⟨i,rfl,hb⟩|⟨z,rfl,hz⟩
 ·cases h
  exact .int i
 ·cases h with
  |tup hq hall=>
   cases hall with
   |cons h1 t=>
    cases h1
    cases t with
    |cons h2 t=>
     cases h2
     cases t
     refine .tup ?_ (.cons (.str _) (.cons (.str _) .nil))
     rcases hq with h|h
     ·rcases h with h|⟨o,h⟩
      ·exact .inl (.inl (u _ _ ⟨_,.inl rfl⟩ h))
      ·exact .inl (.inr ⟨o,u _ _ ⟨_,.inr ⟨o,rfl⟩⟩ h⟩)
     ·exact .inr h
def Pd(K:Fg)(H:Hp)(v:V)(d:PyData):Prop:=Vd d/\Dt K H v d
theorem Pd.keep{v:V}(h:Pd K H v d)(u:eD H H'):Pd K H' v d:=⟨h.1,wF h.1 h.2 u⟩
theorem Pd.same{v:V}(h:Pd K H v d)(u:aH H H'):Pd K H' v d:=h.keep (eD.of u)
theorem Pv.pd{v:V}(h:Pv K H v d):Pd K H v d:=⟨h.vd,h.dt⟩
theorem Vd.isT(h:Vd d):iB d=My.isT d:=by
 rcases h with⟨i,rfl,_⟩|⟨z,rfl,hz⟩
 ·rfl
 ·show(decide (("fault":Str)= "fault")&&fJ (.str z))=true
  rw[decide_eq_true rfl,Bool.true_and]
  exact Nl.name hz
theorem a4V:Vd kZ:=.inr ⟨"unknown",rfl,by unfold Nl;decide+kernel⟩
theorem jB{v:V}(h:xs[i]?=some v):cI xs (i:Int)=some v:=by
 have hi:=(List.getElem?_eq_some_iff.mp h).1
 unfold cI
 rw[uF (by omega) (by omega),Int.toNat_natCast]
 exact h
theorem a1h{α:Type}{zs:List α}{z:α}(h:zs[i]?=some z):zs.drop i=z::zs.drop (i+ 1):=by
 obtain⟨hi,e⟩:=List.getElem?_eq_some_iff.mp h
 rw[List.drop_eq_getElem_cons hi,e]
theorem a2s{α β:Type}{R:α->β->Prop}:∀{xs:List α} {ys:List β} {i:Nat} {x:α},Paired R xs ys->xs[i]?=some x->∃y,ys[i]?=some y/\R x y
 |_,_,_,_,.nil,e=>by simp at e
 |_,_,0,_,.cons h _,e=>by simp at e;subst e;exact⟨_,rfl,h⟩
 |_,_,i+ 1,_,.cons _ t,e=>by simpa using a2s (i:=i) t (by simpa using e)
theorem Paired.imp{α β:Type}{R R':α->β->Prop}(h:∀a b,R a b->R' a b):∀{xs:List α} {ys:List β},Paired R xs ys->Paired R' xs ys
 |_,_,.nil=> .nil
 |_,_,.cons a t=> .cons (h _ _ a) (Paired.imp h t)
theorem Paired.snoc{α β:Type}{R:α->β->Prop}{x:α}{y:β}(h:R x y):∀{xs:List α} {ys:List β},Paired R xs ys->Paired R (xs++ [x]) (ys++ [y])
 |_,_,.nil=> .cons h .nil
 |_,_,.cons a t=> .cons a (Paired.snoc h t)
def cS(H H':Hp):Prop:=∀b u,H b=some (Fz u)->H' b=some (Fz u)
theorem cS.of(s:aH H H'):cS H H':=fun b u e=>s _ _ e
theorem cS.but(s:aY l H H')(h:H l=some o)(n:∀u,o≠Fz u):cS H H':=fun b u e=>s _ _ (fun z=>by rw[z,h]at e;exact n _ (Option.some.inj e)) e
def oddD:PyData:=.tuple [.str "fault",.str "odd"]
def fC(d:PyData):PyData:=if iR d then d else oddD
def rE(H:Hp)(mk:Option V)(is:List Int)(v:V)(lc:Addr):Prop:=H lc=some (.lst (is.map V.int))/\(mk=none->v= .ref lc)/\∀m,mk=some m->∃tp,v= .ref tp/\H tp=some (.tup [m,.ref lc])
theorem rE.mv{mk:Option V}{is:List Int}{v:V}{lc:Addr}(k:bS H H')(e:H' lc=some (.lst (is.map V.int)))(h:rE H mk is v lc):rE H' mk is v lc:=⟨e,h.2.1,fun m hm=>let ⟨tp,a,b⟩:=h.2.2 m hm;⟨tp,a,k _ _ b⟩⟩
def eU(ca:Option Addr)(cs:List V)(H:Hp):Prop:=(ca=none->cs= [])/\∀a,ca=some a->H a=some (.lst cs)
theorem eU.same(s:aH H H')(h:eU ca cs H):eU ca cs H':=⟨h.1,fun a e=>s _ _ (h.2 a e)⟩
def rX(ca:Option Addr)(mk:Option V)(is:List Int)(H H':Hp)(ns:List V):Prop:=(ca=none->ns= [])/\∀a,ca=some a->∃nv lc,ns= [nv] /\H lc=none/\rE H' mk is nv lc
def xI(ca:Option Addr)(H H':Hp):Prop:=∀b o,ca≠some b->H b=some o->H' b=some o
theorem eU.ne(h:eU ca cs H)(e:H b=some o)(n:∀y,o≠ .lst y):ca≠some b:=fun y=>by
 rw[h.2 b y]at e
 exact n _ (Option.some.inj e).symm
theorem eU.new(h:eU ca cs H)(e:H b=none):ca≠some b:=fun y=>by
 rw[h.2 b y]at e
 cases e
inductive a3w(K:Fg)(LP:Hp->Prop)(ca:Option Addr)(mk:Option V)(g:List Int->PyData)(ok:List Int->Prop)(vs:List V)(H:Hp)(Q:VK)(E':XK):Prop
 |mk (l:Addr) (is:List Int) (cs:List V):(vs= [.ref l])->(LP H)->(H l=some (.lst (is.map V.int)))->(eU ca cs H)->(cs.length<900)->(ok is)->(is.length<=100)->(ca≠some l)->(∀H' v ns,xI ca H H'->eU ca (cs++ ns) H'->rX ca mk is H H' ns->Dt K H' v (g is)->Q v H')->a3w K LP ca mk g ok vs H Q E'
def iS(P:Program)(w:World)(K:Fg)(mg:Str->Option Value)(base:Heap)(k:Nat)(H:Hp)(fa:Addr)(ca:Option Addr)(mk:Option V)(g:List Int->PyData)(ok:List Int->Prop):Prop:=∃LP,eI P w K mg base k fa (a3w K LP ca mk g ok)/\LP H/\∀H H',cS H H'->LP H->LP H'
theorem iS.keep{k:Nat}{mk:Option V}{g:List Int->PyData}{ok:List Int->Prop}(s:cS H H')(h:iS P w K mg base k H fa ca mk g ok):iS P w K mg base k H' fa ca mk g ok:=by
 obtain⟨LP,h1,h2,h3⟩:=h
 exact⟨LP,h1,h3 _ _ s h2,h3⟩
def RF(fs:List (Str×V))(fa:Addr):Prop:=fs.lookup ("function":Str)=some (.ref fa)/\fs.lookup ("reckon":Str)=none
section
inductive vV(K:Fg)(p:Addr)(vs:List V)(H:Hp)(Q:VK)(E':XK):Prop
 |mk (x:_) (d:_):(vs= [x])->(Dt K H x d)->(jI d)->(∀H',aH H H'->Q (if iR d then x else .ref p) H')->vV K p vs H Q E'
theorem a5l:bA ["thing"] ["thing"] (aO a2E):={}
theorem a8j(T:bC K mg){p:Addr}(hp:mg "ODD"=some (.ref p)):bH P w K mg base aF 4 "settled" ["thing"] (vV K p):=by
 have G_is_value:bH P w K mg base aF 3 "is_value" ["thing"] (rA K):=zZ T
 refine T.d_settled.known a5l (fun _ _ _ _ _ _ us hl=>fK (fun _=>rfl) us hl) (fun vs H Q E h=> ?_) (fun f cdv A outer s H vs Q E hr h=> ?_)
 ·obtain⟨x,d,rfl,_⟩:=h
  rfl
 ·obtain⟨x,d,rfl,hd,hsh,q⟩:=h
  refine⟨_,(aK (bL (eF (bV G_is_value hr.mn aS (aA (pv 0) aI)) (fun _=>rfl)) (aL (bN (pv 0))) bO)
   (aL (bN (zL hp)))),?_⟩
  refine⟨_,rfl,x,d,rfl,hd,hsh,fun H' s'=>⟨_,rfl,?_⟩⟩
  have q':=q H' s'
  refine cW (fun h1=> ?_) (fun h1=> ?_)
  ·rw[if_pos h1]at q'
   exact⟨_,rfl,q'⟩
  ·rw[if_neg h1]at q'
   exact q'
inductive yL(P:Program)(w:World)(K:Fg)(mg:Str->Option Value)(base:Heap)(k:Nat)(C:Addr)(vs:List V)(H:Hp)(Q:VK)(E':XK):Prop
 |mk (p a fa dx:Addr) (ca:Option Addr) (mk:Option V) (fs:List (Str×V)) (g:List Int->PyData) (ok:List Int->Prop) (is:List Int) (cs:List V):(vs= [.ref p,.ref a])->(H p=some (.ins C dx fs))->(RF fs fa)->(iS P w K mg base k H fa ca mk g ok)->(H a=some (.lst (is.map V.int)))->(eU ca cs H)->(cs.length<900)->(ok is)->(is.length<=100)->(jI (g is))->(∀H' v ns,xI ca H H'->eU ca (cs++ ns) H'->rX ca mk is H H' ns->Dt K H' v (fC (g is))->Q v H')->yL P w K mg base k C vs H Q E'
theorem a4b:bA ["self","some"] ["self","some"] (aO vG):={}
structure rZ(K:Fg)(C:Addr):Prop where
 cl:cF K C
 rk:bM K C "reckon" "Rule.reckon" vG
 nf:cB K C "function"
theorem a76(T:bC K mg)(Y:rZ K C){k:Nat}(hk:4<=k):aR P w K mg base aF (k+ 1) C "reckon" ["self","some"] (yL P w K mg base k C):=by
 obtain⟨pO,hpO,hO⟩:=T.g_ODD
 have G_settled:bH P w K mg base aF 4 "settled" ["thing"] (vV K pO):=a8j T hpO
 refine Y.rk.known a4b (fun _ _ _ _ _ _ us hl=>dZ (fun _ _=>rfl) us hl) (fun vs H Q E h=> ?_) (fun f cdv A outer s H vs Q E hr h=> ?_)
 ·obtain⟨p,a,fa,dx,ca,mk,fs,g,ok,is,cs,rfl,_⟩:=h
  rfl
 ·obtain⟨p,a,fa,dx,ca,mk,fs,g,ok,is,cs,rfl,hp,hfs,⟨LP,F,lp,stb⟩,ha,hca,cl,l0,l1,hsh,q⟩:=h
  refine⟨_,(aL (bN (bV G_settled (hr.mono hk) aS (aA (a4R (k:=k) (pv 0) hr (aA (mV rH rfl T.list jR (aA (pv 1) aI)) aI)) aI)))),?_⟩
  refine⟨_,rfl,p,C,dx,_,fa,_,rfl,hp,Y.cl,Y.nf,hfs.1,F,_,rfl,a,_,rfl,.inl (aN.of ha),fun xl hxl=> ?_⟩
  have s1:=aH.new (o:=.lst (is.map V.int)) hxl
  refine⟨xl,is,cs,rfl,stb _ _ (cS.of s1) lp,aJ,hca.same s1,cl,l0,l1,hca.new hxl,fun H3 v ns b3 c3 n3 hd=> ?_⟩
  refine⟨v,_,rfl,hd,hsh,fun H4 s4=> ?_⟩
  refine q H4 _ ns (fun b o n e=>s4 _ _ (b3 _ _ n (s1 _ _ e))) (c3.same s4) ⟨n3.1,fun x e=> ?_⟩ ?_
  ·obtain⟨nv,lc,e1,e2,e3⟩:=n3.2 x e
   exact⟨nv,lc,e1,iM s1 e2,e3.mv (bS.of s4) (s4 _ _ e3.1)⟩
  unfold fC
  by_cases c:iR (g is)=true
  ·rw[if_pos c,if_pos c]
   exact hd.same s4
  ·rw[if_neg c,if_neg c]
   exact .tup (hO H4) (.cons (.str _) (.cons (.str _) .nil))
theorem uJ(is:List Int):(PyData.list (is.map PyData.int)).canLay0=true/\(PyData.list (is.map PyData.int)).depth<=64:=by
 have h1:PyData.canLayAll0 (is.map PyData.int)=true:=by
  induction is with
  |nil=>rfl
  |cons i r ih=>rw[List.map_cons,PyData.canLayAll0,ih];rfl
 have h2:PyData.depthAll (is.map PyData.int)=0:=by
  induction is with
  |nil=>rfl
  |cons i r ih=>
   have h3:PyData.canLayAll0 (r.map PyData.int)=true:=by
    have:=h1
    rw[List.map_cons,PyData.canLayAll0,Bool.and_eq_true]at this
    exact this.2
   rw[List.map_cons]
   show max 0 (PyData.depthAll (r.map PyData.int))=0
   rw[ih h3]
   rfl
 refine⟨h1,?_⟩
 show PyData.depthAll (is.map PyData.int)+ 1<=64
 rw[h2]
 decide
theorem pW{K:Fg}{H:Hp}:∀is:List Int,dI K H (is.map V.int) (is.map PyData.int)
 | []=> .nil
 |i::r=> .cons (.int i) (pW r)
theorem a0e:∀is js:List Int,PyData.eqv (.list (is.map PyData.int)) (.list (js.map PyData.int))=decide (is=js)
 | [],[]=>by simp[PyData.eqv,PyData.eqvAll]
 | [],j::js=>by simp[PyData.eqv,PyData.eqvAll]
 |i::is,[]=>by simp[PyData.eqv,PyData.eqvAll]
 |i::is,j::js=>by
  have ih:=a0e is js
  simp only[PyData.eqv]at ih
  simp only[List.map_cons,PyData.eqv,PyData.eqvAll,ih]
  by_cases h1:i=j<;>by_cases h2:is=js<;>simp[h1,h2]
theorem a8E{m:Addr}{v:V}(hv:Vd d)(h:Dt K H v d)(hm:H m=some (.dK kvs))(u:∀x o,x≠m->H x=some o->H' x=some o):Dt K H' v d:=by
 rcases hv with⟨i,rfl,hb⟩|⟨z,rfl,hz⟩
 ·cases h
  exact .int i
 ·cases h with
  |tup hq hall=>
   cases hall with
   |cons h1 t=>
    cases h1
    cases t with
    |cons h2 t=>
     cases h2
     cases t
     refine .tup ?_ (.cons (.str _) (.cons (.str _) .nil))
     rcases hq with h|h
     ·rcases h with h|⟨o,h⟩
      ·exact .inl (.inl (u _ _ (fun y=>by rw[y,hm]at h;cases h) h))
      ·exact .inl (.inr ⟨o,u _ _ (fun y=>by rw[y,hm]at h;cases h) h⟩)
     ·exact .inr h
def Was(H:Hp)(mk:List (aB×V))(num:Int)(js:List Int)(vv:V):Prop:=∃tp lo,aE mk (.inl num:aB)=some (.ref tp)/\H tp=some (.tup [.ref lo,vv])/\H lo=some (.lst (js.map V.int))
def RkR(P:Program)(w:World)(K:Fg)(mg:Str->Option Value)(base:Heap)(k:Nat)(C:Addr)(sp:Sp):Prop:=rZ K C/\sp=yL P w K mg base k C
inductive zW(P:Program)(w:World)(K:Fg)(mg:Str->Option Value)(base:Heap)(k:Nat)(CB CT:Addr)(vs:List V)(H:Hp)(Q:VK)(E':XK):Prop
 |mk (sm gr mc fa dx CG:Addr) (ca:Option Addr) (mkk:Option V) (c:Str) (fs:List (Str×V)) (p:Nat) (num:Int) (B:BM) (mk:List (aB×V)) (g:List Int->PyData) (ok:List Int->Prop) (is:List Int) (cs:List V):(vs= [.ref B.b,.str c,.int (p:Int),.ref sm])->(cD CB CT H B)->(aE B.rus (.inr c:aB)=some (.ref gr))->(aE B.mes (.inr c:aB)=some (.ref mc))->(H mc=some (.dK mk))->(mk.length<100)->(p<B.xs.length)->(cI B.xs (p:Int)=some (.int num))->(H gr=some (.ins CG dx fs))->(rZ K CG)->(RF fs fa)->(iS P w K mg base k H fa ca mkk g ok)->(H sm=some (.lst (is.map V.int)))->(eU ca cs H)->(cs.length<900)->(ok is)->(is.length<=100)->(jI (g is))->(Vd (fC (g is)))->(((∃vv,Was H mk num is vv/\Q vv H)\/ ((aE mk (.inl num:aB)=none\/ ∃js vv,Was H mk num js vv/\js≠is)/\
  ∀H' v ns tp,(∀x o,ca≠some x->x≠mc->H x=some o->H' x=some o)->eU ca (cs++ ns) H'->rX ca mkk is H H' ns->H tp=none->H' tp=some (.tup [.ref sm,v])->H' mc=some (.dK (aQ mk (.inl num:aB) (.ref tp)))->Dt K H' v (fC (g is))->Q v H')))->zW P w K mg base k CB CT vs H Q E'
abbrev Nou:List Str:=["self","column","place","some","remembered","number"]
theorem yO:bA Nou ["self","column","place","some"] (aO sK):={}
theorem a7F(T:bC K mg)(Y:cV K mg CB)(Z:dR K mg CT){k:Nat}(hk:4<=k):aR P w K mg base aF (k+ 2) CB "outcome" ["self","column","place","some"] (zW P w K mg base k CB CT):=by
 have G_num:aR P w K mg base aF 3 CT "number_at" ["self","place"] (wG CT):=a6g T Z
 have G_rck:∀C sp,RkR P w K mg base k C sp->cF K C/\aR P w K mg base aF (k+ 1) C "reckon" ["self","some"] sp:=fun C sp h=>by
  obtain⟨h1,rfl⟩:=h
  exact⟨h1.cl,a76 T h1 hk⟩
 refine Y.m_outcome.known yO (fun _ _ _ _ _ _ us hl=>jG (fun _ _ _ _=>rfl) us hl) (fun vs H Q E h=> ?_) (fun f cdv A outer s H vs Q E hr h=> ?_)
 ·obtain⟨sm,gr,mc,fa,dx,CG,ca,mkk,c,fs,p,num,B,mk,g,ok,is,cs,rfl,_⟩:=h
  rfl
 ·obtain⟨sm,gr,mc,fa,dx,CG,ca,mkk,c,fs,p,num,B,mk,g,ok,is,cs,rfl,hB,hru,hme,hmc,ml,hp,hnum,hgr,hW,hfs,FN,hsm,hca,cl,l0,l1,hsh,hvd,q⟩:=h
  have hu:=dO hr
  have cJ:∃t,dU (dM aF P w K mg base Nou "Board.outcome" (aO sK) f cdv A outer s H E).nox ((eC sK).drop 3) t/\
   ∀(H1:Hp) (tp:Addr) (x v:V) (mk':List (aB×V)),H1 mc=some (.dK mk')->aE mk' (.inl num:aB)=some (.ref tp)->H1 tp=some (.tup [x,v])->Q v H1->t {nx:=fun _ H'=>Q .non H',rt:=Q} [some (.ref B.b),some (.str c),some (.int (p:Int)),some (.ref sm),some (.ref mc),some (.int num)] H1:=by
   refine⟨_,(aL (bN (cM eX (fD hu (pv 4) (pv 5) (fun _ _=>rfl)) bD (fun _ _=>rfl)))),fun H1 tp x v mk' e1 e2 e3 q'=> ?_⟩
   exact⟨_,rfl,_,rfl,mc,_,rfl,e2▸bW.k (k:=Sum.inl num) e1,tp,_,_,_,rfl,rfl,bU.of e3,rfl,q'⟩
  obtain⟨tR,hR,qR⟩:=cJ
  refine⟨_,(aK (cH (i:=4) yO.nd rfl (Or.inl rfl) (fD hu (aW (pv 0) rfl) (pv 1) (fun _ _=>rfl)))
   (aK (cH (i:=5) yO.nd rfl (Or.inl rfl) (cC (aW (pv 0) rfl) Z.cl G_num (hr.mono (by omega)) aS (aA (pv 2) aI)))
   (aK (bL (PW.pt (iY (iN (lJ hu (pv 5) (pv 4))) (jM (cN (nG hr.units) (cM eX (fD hu (pv 4) (pv 5) (fun _ _=>rfl)) bD (fun _ _=>rfl)) (pv 3) (cX _))))) (aL (iT hu (pv 4) (pv 5) (fV (aA (pv 3) (aA (zK (fD hu (aW (pv 0) rfl) (pv 1) (fun _ _=>rfl)) G_rck hr aS (aA (pv 3) aI)) aI))) rfl)) bO)
   hR))),?_⟩
  obtain⟨⟨d1,b1⟩,tb,b3,b4,_⟩:=id hB
  obtain⟨⟨d2,b2⟩,_,_⟩:=id tb
  refine⟨_,rfl,B.b,CB,d1,_,_,rfl,b1,Y.cl,Y.n_memory,(dJ _ _ _ _).2.2.1,_,rfl,B.me,_,rfl,hme▸bW.k (k:=Sum.inr c) b4,?_⟩
  refine⟨_,rfl,B.b,CB,d1,_,_,rfl,b1,Y.cl,Y.n_given,(dJ _ _ _ _).1,B.g,d2,_,rfl,b2,gN,_,rfl,B.g,B.r,B.e,B.xs,B.n,B.kvs,p,_,rfl,tb,hp,hnum,?_⟩
  refine⟨_,rfl,_,rfl,mc,_,rfl,bW.k (k:=Sum.inl num) hmc,_,rfl,?_⟩
  have lay:=uJ is
  have ncm:ca≠some mc:=hca.ne hmc (fun _ z=>by cases z)
  rcases q with⟨vv,⟨tp,lo,e1,e2,e3⟩,qv⟩|⟨hw,q⟩
  ·rw[e1]
   refine bI ⟨_,rfl,_,rfl,mc,_,rfl,e1▸bW.k (k:=Sum.inl num) hmc,tp,_,_,_,rfl,rfl,bU.of e2,rfl,_,rfl,.list (is.map .int),.list (is.map .int),.lst (aN.of e3) (pW is),.lst (aN.of hsm) (pW is),lay.1,lay.1,lay.2,_,rfl,?_⟩
   rw[a0e,decide_eq_true rfl]
   exact bI (qR H tp _ vv mk hmc e1 e2 qv)
  have fin:∀(H1:Hp) (v:V) (ns:List V) (tp:Addr),xI ca H H1->eU ca (cs++ ns) H1->rX ca mkk is H H1 ns->Dt K H1 v (fC (g is))->H1 tp=none->
   ∃H4,gC (upd H1 tp (.tup [.ref sm,v])) mc (.int num) (.ref tp) H4/\tR {nx:=fun _ H'=>Q .non H',rt:=Q} [some (.ref B.b),some (.str c),some (.int (p:Int)),some (.ref sm),some (.ref mc),some (.int num)] H4:=fun H1 v ns tp bb h1 hn hd htp=>by
   have s2:=aH.new (o:=.tup [.ref sm,v]) htp
   have m2:=s2 _ _ (bb _ _ ncm hmc)
   have t2:upd H1 tp (.tup [.ref sm,v]) tp=some (.tup [.ref sm,v]):=aJ
   refine⟨_,gC.k (k:=Sum.inl num) m2 (cY (by omega)),?_⟩
   generalize upd H1 tp (.tup [.ref sm,v])=H2 at s2 m2 t2|-
   have u3:∀x o,x≠mc->H2 x=some o->upd H2 mc (.dK (aQ mk (.inl num:aB) (.ref tp))) x=some o:=fun x o n z=>by rw[aG n];exact z
   have m3:upd H2 mc (.dK (aQ mk (.inl num:aB) (.ref tp))) mc=some (.dK (aQ mk (.inl num:aB) (.ref tp))):=aJ
   generalize upd H2 mc (.dK (aQ mk (.inl num:aB) (.ref tp)))=H3 at u3 m3|-
   have nm:∀{x:Addr} {o:HO},H2 x=some o->(∀kvs,o≠ .dK kvs)->x≠mc:=fun z n y=>by rw[y,m2]at z;exact n _ (Option.some.inj z).symm
   have t3:=u3 _ _ (nm t2 (fun _ z=>by cases z)) t2
   have kt3:bS H1 H3:=fun a xs e=>u3 _ _ (nm (s2 _ _ e) (fun _ z=>by cases z)) (s2 _ _ e)
   have htp0:H tp=none:=by
    cases e:H tp with
    |none=>rfl
    |some o=>
     by_cases z:ca=some tp
     ·rw[h1.2 tp z]at htp;cases htp
     ·rw[bb _ _ z e]at htp;cases htp
   refine qR H3 tp _ v _ m3 (by rw[fQ,if_pos rfl]) t3 (q H3 v ns tp (fun x o n1 n2 z=>u3 _ _ n2 (s2 _ _ (bb _ _ n1 z))) ⟨h1.1,fun a e=>u3 _ _ (fun y=>ncm (y▸e)) (s2 _ _ (h1.2 a e))⟩ ⟨hn.1,fun a e=> ?_⟩ htp0 t3 m3 ?_)
   ·obtain⟨nv,lc,e1,e2,e3⟩:=hn.2 a e
    exact⟨nv,lc,e1,e2,e3.mv kt3 (u3 _ _ (nm (s2 _ _ e3.1) (fun _ z=>by cases z)) (s2 _ _ e3.1))⟩
   ·exact a8E hvd (hd.same s2) m2 u3
  rcases hw with e0|⟨js,vv,⟨tp0,lo,e1,e2,e3⟩,hne⟩
  ·rw[e0]
   refine cQ (cQ ?_)
   refine⟨_,rfl,_,rfl,B.b,CB,d1,_,_,rfl,b1,Y.cl,Y.n_rules,(dJ _ _ _ _).2.1,_,rfl,B.ru,_,rfl,hru▸bW.k (k:=Sum.inr c) b3,CG,_,gr,dx,_,⟨hW,rfl⟩,rfl,hgr,hfs.2,_,rfl,gr,sm,fa,dx,ca,mkk,fs,g,ok,is,cs,rfl,hgr,hfs,FN,hsm,hca,cl,l0,l1,hsh,fun H1 v ns bb h1 hn hd=>⟨sl,fun tp htp=> ?_⟩⟩
   obtain⟨H4,p4,q4⟩:=fin H1 v ns tp bb h1 hn hd htp
   exact⟨_,rfl,_,rfl,mc,H4,rfl,p4,q4⟩
  ·rw[e1]
   refine bI ⟨_,rfl,_,rfl,mc,_,rfl,e1▸bW.k (k:=Sum.inl num) hmc,tp0,_,_,_,rfl,rfl,bU.of e2,rfl,_,rfl,.list (js.map .int),.list (is.map .int),.lst (aN.of e3) (pW js),.lst (aN.of hsm) (pW is),(uJ js).1,lay.1,(uJ js).2,_,rfl,?_⟩
   rw[a0e,decide_eq_false hne]
   refine cQ ?_
   refine⟨_,rfl,_,rfl,B.b,CB,d1,_,_,rfl,b1,Y.cl,Y.n_rules,(dJ _ _ _ _).2.1,_,rfl,B.ru,_,rfl,hru▸bW.k (k:=Sum.inr c) b3,CG,_,gr,dx,_,⟨hW,rfl⟩,rfl,hgr,hfs.2,_,rfl,gr,sm,fa,dx,ca,mkk,fs,g,ok,is,cs,rfl,hgr,hfs,FN,hsm,hca,cl,l0,l1,hsh,fun H1 v ns bb h1 hn hd=>⟨sl,fun tp htp=> ?_⟩⟩
   obtain⟨H4,p4,q4⟩:=fin H1 v ns tp bb h1 hn hd htp
   exact⟨_,rfl,_,rfl,mc,H4,rfl,p4,q4⟩
end
def eL(M:List Addr)(H H':Hp):Prop:=∀b o,b∉M->H b=some o->H' b=some o
theorem eL.of(s:aH H H'):eL M H H':=fun b o _ e=>s _ _ e
theorem eL.trans(a:eL M H H1)(b:eL M H1 H2):eL M H H2:=fun x o n e=>b _ _ n (a _ _ n e)
structure gD(J:Option GT->Hp->Prop)(W M:List Addr):Prop where
 there:∀o H,J o H->∀b∈W,H b≠none
 stay:∀o H H',(∀b ob,b∈W->H b=some ob->H' b=some ob)->cS H H'->eD H H'->J o H->J o H'
 mt:∀o H,J o H->∀b∈M,(∃k,H b=some (.dT k))\/ ∃C dx fs,H b=some (.ins C dx fs)
theorem gD.same{W:List Addr}(S:gD J W M){o:Option GT}(s:aH H H')(h:J o H):J o H':=S.stay _ _ _ (fun b ob _ e=>s _ _ e) (cS.of s) (eD.of s) h
theorem gD.out{W:List Addr}(S:gD J W M){o:Option GT}(h:J o H){ob:HO}(e:H b=some ob)(n1:∀k,ob≠ .dT k)(n2:∀C dx fs,ob≠ .ins C dx fs):b∉M:=fun hm=>by
 rcases S.mt o H h b hm with⟨k,e2⟩|⟨C,dx,fs,e2⟩<;>rw[e]at e2
 ·exact n1 _ (Option.some.inj e2)
 ·exact n2 _ _ _ (Option.some.inj e2)
theorem gD.tup{W:List Addr}(S:gD J W M){o:Option GT}(h:J o H)(f:eL M H H'):eD H H':=fun x ob hx e=>f _ _ (S.out h e (fun k y=>by obtain⟨xs,rfl|⟨q,rfl⟩⟩:=hx<;>cases y) (fun C dx fs y=>by obtain⟨xs,rfl|⟨q,rfl⟩⟩:=hx<;>cases y)) e
inductive oC(K:Fg)(Vc:aU->Prop)(J:Option GT->Hp->Prop)(M:List Addr)(vs:List V)(H:Hp)(Q:VK)(E':XK):Prop
 |mk (t c:Str) (p:Nat) (o:Option GT):(vs= [.str t,.str c,.int (p:Int)])->(J o H)->(Vc (t,c,p))->((∀τ,o=some τ->∃k,τ= .look (t,c,p) k))->(∀H' v d,eL M H H'->Pd K H' v d->((∃k,o=some (.look (t,c,p) k)/\J (some (k d)) H')\/ (d=kZ/\J none H'))->Q v H')->oC K Vc J M vs H Q E'
inductive vQ(J:Option GT->Hp->Prop)(mv:Str->Nat->Prop)(vs:List V)(H:Hp)(Q:VK)(E':XK):Prop
 |mk (t:Str) (m:Nat) (o:Option GT):(vs= [.str t])->(mv t m)->(J o H)->(∀H',aH H H'->Q (.int (m:Int)) H')->vQ J mv vs H Q E'
def pY(K:Fg)(H H':Hp)(fv:V):PyData ⊕ List Int->Prop
 | .inl d=>∃ta v,fv= .ref ta/\H' ta=some (.tup [.str ("value":Str),v])/\Pd K H' v d
 | .inr is=>∃ta l,fv= .ref ta/\H' ta=some (.tup [.str ("call":Str),.ref l])/\H' l=some (.lst (is.map V.int))/\H l=none
theorem a61{fv:V}(s:aH H H0):∀{t:PyData ⊕ List Int},pY K H0 H' fv t->pY K H H' fv t
 | .inl d,h=>h
 | .inr is,⟨ta,l,a,b,c,d⟩=>⟨ta,l,a,b,c,iM s d⟩
def nQ(H:Hp)(x:V)(c:aU):Prop:=∃a,x= .ref a/\H a=some (.tup [.str c.1,.str c.2.1,.int (c.2.2:Int)])
theorem nQ.keep{x:V}{c:aU}(k:bS H H')(h:nQ H x c):nQ H' x c:=h.imp fun _ e=>⟨e.1,k _ _ e.2⟩
section
inductive wK(P:Program)(w:World)(K:Fg)(mg:Str->Option Value)(base:Heap)(k:Nat)(vs:List V)(H:Hp)(Q:VK)(E':XK):Prop
 |mk (look cl:Addr) (Vc:aU->Prop) (J:Option GT->Hp->Prop) (W M:List Addr) (kn:PyData ⊕ List Int->GT) (cv:List V) (cs:List aU):(vs= [.ref look,.ref cl])->(eI P w K mg base k look (oC K Vc J M))->(J (some (gQ kn cs [])) H)->(gD J W M)->(H cl=some (.lst cv))->(Paired (nQ H) cv cs)->((∀c∈cs,Vc c))->(cs.length<=100)->(∀H' fv tf,eL M H H'->pY K H H' fv tf->(J (some (kn tf)) H'\/ (tf= .inl kZ/\J none H'))->Q fv H')->wK P w K mg base k vs H Q E'
abbrev a4s:List Str:=["look","cells","numbers","table","column","place","value"]
theorem oO:bA a4s ["look","cells"] (aO a2x):={}
theorem a6r(T:bC K mg){k:Nat}(hk:2<=k):bH P w K mg base aF (k+ 1) "look_in_turn" ["look","cells"] (wK P w K mg base k):=by
 have G_is_fault:bH P w K mg base aF 2 "is_fault" ["thing"] (vL K):=a0E T
 refine T.d_look_in_turn.known oO (fun _ _ _ _ _ _ us hl=>dZ (fun _ _=>rfl) us hl) (fun vs H Q E h=> ?_) (fun f cdv A outer s H vs Q E hr h=> ?_)
 ·obtain⟨look,cl,Vc,J,W,M,kn,cv,cs,rfl,_⟩:=h
  rfl
 ·obtain⟨look,cl,Vc,J,W,M,kn,cv,cs,rfl,F1,hJ,S,hc,hp,hV,l100,q⟩:=h
  refine⟨_,(aK (cH (i:=2) oO.nd rfl (Or.inl rfl) (gW aI))
   (aK (kH PassesOwn.never rfl (kA (pv 1)) (wJ rfl (nF (fT (i:=3) oO.nd rfl (Or.inl rfl)) (nF (fT (i:=4) oO.nd rfl (Or.inl rfl)) (nF (fT (i:=5) oO.nd rfl (Or.inl rfl)) zR)))) (aK (cH (i:=6) oO.nd rfl (Or.inl rfl) (a7W 0 hr (aA (pv 3) (aA (pv 4) (aA (pv 5) aI)))))
   (aK (bL (eF (bV G_is_fault (hr.mono hk) aS (aA (pv 6) aI)) (fun _=>rfl)) (aL (bN (fV (aA fX (aA (pv 6) aI))))) bO)
   (aL (cA (kL F.plainAttrs_list F.slot_list_append F.type_list_append jC (pv 2) (aA (pv 6) aI)))))))
   (aL (bN (fV (aA fX (aA (pv 2) aI))))))),?_⟩
  refine⟨sl,fun nl hnl=> ?_⟩
  have s1:=aH.new (o:=.lst []) hnl
  have n1:upd H nl (.lst []) nl=some (.lst []):=aJ
  have J1:=S.same s1 hJ
  generalize upd H nl (.lst [])=H1 at s1 n1 J1|-
  have lcv:cv.length=cs.length:=Paired.length hp
  have ncl:=S.out hJ hc (fun _ z=>by cases z) (fun _ _ _ z=>by cases z)
  have nnl:=S.out J1 n1 (fun _ z=>by cases z) (fun _ _ _ z=>by cases z)
  have nW:nl∉W:=fun mw=>S.there _ _ hJ nl mw hnl
  refine⟨_,rfl,cl,rfl,⟨_,aN.of (s1 _ _ hc)⟩,?_⟩
  refine oY (K:=K) (a:=cl) (xs:=cv) (fun i σ H2=>∃o3 o4 o5 o6 is,σ= [some (.ref look),some (.ref cl),some (.ref nl),o3,o4,o5,o6] /\eL M H H2/\J (some (gQ kn (cs.drop i) is)) H2/\H2 nl=some (.lst (is.map V.int))/\is.length<=i)
   ⟨_,_,_,_,[],rfl,eL.of s1,J1,n1,Nat.le_refl _⟩ (by rintro i σ H2 _ ⟨_,_,_,_,_,_,f2,_⟩;exact aN.of (f2 _ _ ncl hc)) ?_ ?_
  ·rintro i v0 σ H2 hx ⟨o3,o4,o5,o6,is,rfl,f2,J2,h2,li⟩
   obtain⟨c,hd,hcel⟩:=a2s hp hx
   have hi:i<cv.length:=(List.getElem?_eq_some_iff.mp hx).1
   obtain⟨a,rfl,ha⟩:=hcel.keep (S.tup hJ f2).t
   rw[a1h hd,wQ]at J2
   refine⟨a,_,rfl,bU.of ha,rfl,_,_,rfl,_,_,rfl,_,_,rfl,rfl,?_⟩
   refine⟨look,_,rfl,F1,_,rfl,_,rfl,_,rfl,c.1,c.2.1,c.2.2,_,rfl,J2,hV c (List.mem_of_getElem? hd),fun τ e=>⟨_,(Option.some.inj e).symm⟩,fun H3 v d f3 p3 end3=> ?_⟩
   have f23:=f2.trans f3
   have h3:=f3 _ _ nnl h2
   refine⟨_,rfl,v,d,rfl,p3.2,p3.1.short.1,fun H4 s4=>⟨_,rfl,?_⟩⟩
   rw[p3.1.isT]
   have h4:=s4 _ _ h3
   have f4:=f23.trans (eL.of s4)
   have p4:=p3.same s4
   rcases end3 with⟨k,ek,J3⟩|⟨rfl,J3⟩
   ·cases ek
    have J4:=S.same s4 J3
    cases hT:isT d with
    |false=>
     obtain⟨j,rfl,bj⟩:∃j,d= .int j/\jE (.int j)=true:=by
      rcases p3.1 with h|⟨z,rfl,_⟩
      ·exact h
      ·cases hT
     have ev:v= .int j:=by
      cases p3.2
      rfl
     subst ev
     have J4:J (some (gQ kn (cs.drop (i+ 1)) (is++ [j]))) H4:=J4
     refine bI ⟨_,rfl,.inl ⟨rfl,_,aN.of h4⟩,_,rfl,nl,_,_,rfl,rfl,h4,cY (by rw[List.length_map];omega),?_⟩
     have bu:∀b ob,b≠nl->H4 b=some ob->upd H4 nl (.lst (is.map V.int++ [.int j])) b=some ob:=fun b ob nb e=>by rw[aG nb];exact e
     refine⟨_,_,_,_,is++ [j],rfl,fun b ob n1 e=>bu _ _ (bE e hnl) (f4 _ _ n1 e),S.stay _ _ _ (fun b ob mb e=>bu _ _ (fun z=>nW (z▸mb)) e) (fun b u e=>bu _ _ (fun z=>by rw[z,h4]at e;cases e) e) (eD.upd h4 (fun _ z=>by cases z) (fun _ _ z=>by cases z)) J4,(by rw[List.map_append];exact aJ),by rw[List.length_append];show is.length+ 1<=i+ 1;omega⟩
    |true=>
     have J4:J (some (if isT d then kn (.inl d) else gQ kn (cs.drop (i+ 1)) (is++ [eS d]))) H4:=J4
     rw[if_pos hT]at J4
     refine cQ ⟨_,rfl,sl,fun tp htp=> ?_⟩
     have s5:=aH.new (o:=.tup [.str ("value":Str),v]) htp
     exact q _ _ (.inl d) (f4.trans (eL.of s5)) ⟨tp,_,rfl,aJ,p4.same s5⟩ (.inl (S.same s5 J4))
   ·have J4:=S.same s4 J3
    refine cQ ⟨_,rfl,sl,fun tp htp=> ?_⟩
    have s5:=aH.new (o:=.tup [.str ("value":Str),v]) htp
    exact q _ _ (.inl kZ) (f4.trans (eL.of s5)) ⟨tp,_,rfl,aJ,p4.same s5⟩ (.inr ⟨rfl,S.same s5 J4⟩)
  ·rintro σ H2 ⟨o3,o4,o5,o6,is,rfl,f2,J2,h2,li⟩
   rw[lcv,List.drop_length]at J2
   refine⟨_,rfl,sl,fun tp htp=> ?_⟩
   have s3:=aH.new (o:=.tup [.str ("call":Str),.ref nl]) htp
   exact q _ _ (.inr is) (f2.trans (eL.of s3)) ⟨tp,nl,rfl,aJ,s3 _ _ h2,hnl⟩ (.inl (S.same s3 J2))
def mvX(tabs:List (Str×BM))(t:Str)(m:Nat):Prop:=∃B,(t,B)∈tabs/\B.xs.length=m
def lU(P:Program)(w:World)(K:Fg)(mg:Str->Option Value)(base:Heap)(spg:Sp)(gr:Addr)(ft:List Addr)(tabs:List (Str×BM))(Vc:aU->Prop)(nm c:Str)(p:Nat)(τ:GT)(H:Hp):Prop:=
 ∀(look many:Addr) (J:Option GT->Hp->Prop) (W M:List Addr) (HB:Hp) (Q':VK),(∀b∈ft,∀o,H b=some o->HB b=some o)->gr∉M->J (some τ) HB->gD J W M->eI P w K mg base 6 look (oC K Vc J M)->eI P w K mg base 6 many (vQ J (mvX tabs))->
  (∀H' fv tf,eL M HB H'->pY K HB H' fv tf->(J (some (.done tf)) H'\/ J none H')->Q' fv H')->spg [.ref gr,.ref look,.ref many,.str nm,.str c,.int (p:Int)] HB Q' E0
theorem lU.mv{spg:Sp}{gr:Addr}{ft:List Addr}{nm:Str}{τ:GT}(k:∀b∈ft,∀o,H b=some o->H' b=some o)(h:lU P w K mg base spg gr ft tabs Vc nm c p τ H):lU P w K mg base spg gr ft tabs Vc nm c p τ H':=
 fun look many J W M HB Q' kx n hJ S L1 L2 q=>h look many J W M HB Q' (fun b hb o e=>kx b hb o (k b hb o e)) n hJ S L1 L2 q
def vS(CS CB CT:Addr)(s bd ch fi:Addr)(kb:List (aB×V))(nm:Str)(B:BM)(H:Hp):Prop:=(∃dx,H s=some (.ins CS dx (dW bd ch fi)))/\H bd=some (.dK kb)/\Nl nm/\aE kb (.inr nm:aB)=some (.ref B.b)/\cD CB CT H B
inductive wR(CS CB CT:Addr)(vs:List V)(H:Hp)(Q:VK)(E':XK):Prop
 |mk (s bd ch fi:Addr) (kb:List (aB×V)) (nm t:Str) (p:Nat) (B:BM):(vs= [.ref s,.str nm,.str t,.int (p:Int)])->(vS CS CB CT s bd ch fi kb nm B H)->(Nl t)->(t∈B.ord)->(p<B.xs.length)->(∀H',aH H H'->Q .non H')->wR CS CB CT vs H Q E'
theorem a7G:bA ["self","table","column","place"] ["self","table","column","place"] (aO a2a):={}
theorem a4U(T:bC K mg)(Y:gA K mg CS)(W:cV K mg CB)(Z:dR K mg CT):aR P w K mg base aF 4 CS "check_cell" ["self","table","column","place"] (wR CS CB CT):=by
 have G_with:aR P w K mg base aF 3 CS "board_with" ["self","table","column"] (sE CS CB CT):=a1u T Y W
 have G_pl:bH P w K mg base aF 2 "check_place" ["place","places"] oI:=tX T
 have G_many:aR P w K mg base aF 1 CT "many" ["self"] (lD CT):=mW T Z
 refine Y.m_check_cell.known a7G (fun _ _ _ _ _ _ us hl=>jG (fun _ _ _ _=>rfl) us hl) (fun vs H Q E h=> ?_) (fun f cdv A outer s H vs Q E hr h=> ?_)
 ·obtain⟨s',bd,ch,fi,kb,nm,t,p,B,rfl,_⟩:=h
  rfl
 ·obtain⟨s',bd,ch,fi,kb,nm,t,p,B,rfl,hS,ht,hm,hp,q⟩:=h
  refine⟨_,aL (cA (bV G_pl hr.mn aS (aA (pv 3) (aA (mH (aW (cC (pv 0) Y.cl G_with hr aS (aA (pv 1) (aA (pv 2) aI))) rfl) Z.cl G_many hr.mn aS) aI)))),?_⟩
  obtain⟨dx,hs⟩:=hS.1
  refine⟨_,rfl,_,rfl,s',dx,_,rfl,hs,fL,_,rfl,_,rfl,s',bd,ch,fi,dx,kb,nm,t,B,rfl,hs,hS.2.1,hS.2.2.1,hS.2.2.2.1,hS.2.2.2.2,ht,hm,fun H1 s1=> ?_⟩
  obtain⟨dB,hb⟩:=hS.2.2.2.2.at_
  obtain⟨dT,hT⟩:=hS.2.2.2.2.tab.at_
  exact⟨B.b,CB,dB,_,_,rfl,s1 _ _ hb,W.cl,W.n_given,(dJ _ _ _ _).1,B.g,dT,_,rfl,s1 _ _ hT,gN,B.g,B.r,B.e,B.xs,B.n,B.kvs,rfl,hS.2.2.2.2.tab.same s1,p,B.xs.length,rfl,hp,q H1 s1⟩
inductive rP(CS CF CB CT:Addr)(sp:Sp)(vs:List V)(H:Hp)(Q:VK)(E':XK):Prop
 |mk (s bd ch fi df:Addr) (kb:List (aB×V)) (nm t:Str) (p:Nat) (B:BM) (fs:List (Str×V)):(vs= [.ref s,.str nm,.str t,.int (p:Int)])->(vS CS CB CT s bd ch fi kb nm B H)->(Nl t)->(t∈B.ord)->(p<B.xs.length)->(H fi=some (.ins CF df fs))->(fs.lookup ("value_of":Str)=none)->(∀H1 ce,H ce=none->aH H H1->H1 ce=some (.tup ((bF nm t p).map kV))->sp [.ref fi,.ref ce] H1 Q E0)->rP CS CF CB CT sp vs H Q E'
theorem a8b:bA ["self","table","column","place"] ["self","table","column","place"] (aO a0J):={}
theorem a7O(T:bC K mg)(Y:gA K mg CS)(F:eT K mg CF)(W:cV K mg CB)(Z:dR K mg CT){k:Nat}(hk:4<=k)(G:aR P w K mg base aF k CF "value_of" ["self","cell"] sp):aR P w K mg base aF (k+ 1) CS "cell" ["self","table","column","place"] (rP CS CF CB CT sp):=by
 have G_chk:aR P w K mg base aF 4 CS "check_cell" ["self","table","column","place"] (wR CS CB CT):=a4U T Y W Z
 refine Y.m_cell.known a8b (fun _ _ _ _ _ _ us hl=>jG (fun _ _ _ _=>rfl) us hl) (fun vs H Q E h=> ?_) (fun f cdv A outer s H vs Q E hr h=> ?_)
 ·obtain⟨s',bd,ch,fi,df,kb,nm,t,p,B,fs,rfl,_⟩:=h
  rfl
 ·obtain⟨s',bd,ch,fi,df,kb,nm,t,p,B,fs,rfl,hS,ht,hm,hp,hfi,hno,q⟩:=h
  refine⟨_,aK (cA (cC (pv 0) Y.cl G_chk (hr.mono hk) aS (aA (pv 1) (aA (pv 2) (aA (pv 3) aI)))))
   (aL (bN (cC (aW (pv 0) rfl) F.cl G hr aS (aA (fV (aA (pv 1) (aA (pv 2) (aA (pv 3) aI)))) aI)))),?_⟩
  obtain⟨dx,hs⟩:=hS.1
  refine⟨_,rfl,s',dx,_,rfl,hs,fL,_,rfl,_,rfl,_,rfl,s',bd,ch,fi,kb,nm,t,p,B,rfl,hS,ht,hm,hp,fun H1 s1=> ?_⟩
  refine⟨_,rfl,s',CS,dx,_,_,rfl,s1 _ _ hs,Y.cl,Y.n_finder,(lI _ _ _).2.2.1,fi,df,fs,rfl,s1 _ _ hfi,hno,_,rfl,_,rfl,_,rfl,sl,fun ce hce=> ?_⟩
  exact q _ ce (iM s1 hce) (s1.trans (aH.new hce)) aJ
end
theorem a6w:mX (uL C CB CT):=fun vs H Q Q' hQ h=>by
 obtain⟨p,dx,bd,nm,m,kb,e1,e2,e3,e4,e5,q⟩:=h
 exact⟨p,dx,bd,nm,m,kb,e1,e2,e3,e4,e5,fun H' b g r e ru me od a1 a2 a3 a4 a5=>hQ _ _ (q H' b g r e ru me od a1 a2 a3 a4 a5)⟩
theorem a6l:mX (sX K CB CT):=fun vs H Q Q' hQ h=>by
 obtain⟨B,t,a,ys,ds,e1,e2,e3,e4,e5,e6,e7,e8,e9,e10,e11,e12,q⟩:=h
 exact⟨B,t,a,ys,ds,e1,e2,e3,e4,e5,e6,e7,e8,e9,e10,e11,e12,fun H' l a1 a2 a3 a4=>hQ _ _ (q H' l a1 a2 a3 a4)⟩
theorem a7K:mX (uX K CB CT):=fun vs H Q Q' hQ h=>by
 obtain⟨B,t,a,C,dx,fs,e1,e2,e3,e4,e5,e6,e7,e8,e9,e10,q⟩:=h
 exact⟨B,t,a,C,dx,fs,e1,e2,e3,e4,e5,e6,e7,e8,e9,e10,fun H' m a1 a2 a3 a4=>hQ _ _ (q H' m a1 a2 a3 a4)⟩
theorem a0o(h:mX sp):mX (rQ C CB CT sp):=fun vs H Q Q' hQ g=>by
 obtain⟨p,dx,a,B,t,e1,e2,e3,e4,q⟩:=g
 exact⟨p,dx,a,B,t,e1,e2,e3,e4,h _ _ _ _ (fun v H' z=>hQ _ _ z) q⟩
theorem a4J:mX (sR K C CB CT):=fun vs H Q Q' hQ h=>by
 obtain⟨p,dx,l,B,t,i,v,u,d,ys,e1,e2,e3,e4,e5,e6,e7,e8,e9,q⟩:=h
 exact⟨p,dx,l,B,t,i,v,u,d,ys,e1,e2,e3,e4,e5,e6,e7,e8,e9,fun H' a1 a2=>hQ _ _ (q H' a1 a2)⟩
theorem jT(h:upd H a o b=none):H b=none/\b≠a:=by
 have:b≠a:=fun y=>by rw[y,aJ]at h;cases h
 rw[aG this]at h
 exact⟨h,this⟩
section
theorem a4q(bd ch fi:Addr):aM "finder" (.ref fi) (aM "changes" (.ref ch) (aM "boards" (.ref bd) []))=dW bd ch fi:=by
 rfl
inductive yI(CS CF:Addr)(vs:List V)(H:Hp)(Q:VK)(E':XK):Prop
 |mk (p dx:Addr):(vs= [.ref p])->(H p=some (.ins CS dx []))->(∀H' bd ch fi fd lk df,(∀x∈ [bd,ch,fi,fd,lk],H x=none)->fd≠lk->H' p=some (.ins CS dx (dW bd ch fi))->H' bd=some (.dK [])->H' ch=some (.lst [])->H' fi=some (.ins CF df (fR bd fd lk))->H' fd=some (.dT [])->H' lk=some (.dT [])->aY p H H'->Q .non H')->yI CS CF vs H Q E'
theorem a8w:bA ["self"] ["self"] (aO a2m):={}
theorem a8g(T:bC K mg)(Y:gA K mg CS)(Z:eT K mg CF):eM P w K mg base aF 3 CS ["self"] (yI CS CF):=by
 have GI:eM P w K mg base aF 1 CF ["self","boards"] (sU CF):=a06 T Z
 refine(Y.m_init.known a8w (fun _ _ _ _ _ _ us hl=>fK (fun _=>rfl) us hl) (fun vs H Q E h=> ?_) (fun f cdv A outer s H vs Q E hr h=> ?_)).init Y.mks Y.kc
 ·obtain⟨p,dx,rfl,_⟩:=h
  rfl
 ·obtain⟨p,dx,rfl,hp,q⟩:=h
  refine⟨_,(aK (cR (pv 0) qN rfl)
   (aK (cR (pv 0) (gW aI) rfl)
   (aL (cR (pv 0) (jX GI hr Z.c aS (aA (aW (pv 0) rfl) aI)) rfl)))),?_⟩
  intro bd hbd
  have s1:=aH.new (o:=.dK []) hbd
  have b1:upd H bd (.dK []) bd=some (.dK []):=aJ
  have n1:∀{b:Addr},upd H bd (.dK []) b=none->H b=none/\b≠bd:=jT
  generalize upd H bd (.dK [])=H1 at s1 b1 n1|-
  refine⟨_,rfl,p,CS,dx,[],rfl,s1 _ _ hp,Y.cl,Y.n_boards,(by show 0<1000;decide),?_⟩
  have u2:aY p H1 (upd H1 p (.ins CS dx (aM "boards" (.ref bd) []))):=fun b o n z=>by rw[aG n];exact z
  have p2:upd H1 p (.ins CS dx (aM "boards" (.ref bd) [])) p=some (.ins CS dx (aM "boards" (.ref bd) [])):=aJ
  have n2:∀{b:Addr},upd H1 p (.ins CS dx (aM "boards" (.ref bd) [])) b=none->H1 b=none/\b≠p:=jT
  generalize upd H1 p (.ins CS dx (aM "boards" (.ref bd) []))=H2 at u2 p2 n2|-
  refine⟨sl,fun ch hch=> ?_⟩
  have s3:=aH.new (o:=.lst []) hch
  have c3:upd H2 ch (.lst []) ch=some (.lst []):=aJ
  have n3:∀{b:Addr},upd H2 ch (.lst []) b=none->H2 b=none/\b≠ch:=jT
  generalize upd H2 ch (.lst [])=H3 at s3 c3 n3|-
  refine⟨_,rfl,p,CS,dx,_,rfl,s3 _ _ p2,Y.cl,Y.n_changes,(by show 1<1000;decide),?_⟩
  have u4:aY p H3 (upd H3 p (.ins CS dx (aM "changes" (.ref ch) (aM "boards" (.ref bd) [])))):=fun b o n z=>by rw[aG n];exact z
  have p4:upd H3 p (.ins CS dx (aM "changes" (.ref ch) (aM "boards" (.ref bd) []))) p=some (.ins CS dx (aM "changes" (.ref ch) (aM "boards" (.ref bd) []))):=aJ
  have n4:∀{b:Addr},upd H3 p (.ins CS dx (aM "changes" (.ref ch) (aM "boards" (.ref bd) []))) b=none->H3 b=none/\b≠p:=jT
  generalize upd H3 p (.ins CS dx (aM "changes" (.ref ch) (aM "boards" (.ref bd) [])))=H4 at u4 p4 n4|-
  have npb:bd≠p:=fun y=>by rw[y,hp]at hbd;cases hbd
  have npc:ch≠p:=fun y=>by rw[y,p2]at hch;cases hch
  refine⟨_,rfl,p,CS,dx,_,_,rfl,p4,Y.cl,Y.n_boards,(show List.lookup ("boards":Str) (aM "changes" (V.ref ch) (aM "boards" (V.ref bd) []))=some (.ref bd) from rfl),?_⟩
  intro fi df hfi hdf ne
  refine⟨fi,df,bd,rfl,aJ,fun H5 fd lk hfd hlk nfl g1 g2 g3 b5=>⟨rfl,?_⟩⟩
  have s5:aH H4 H5:=fun b o z=>b5 b o (bE z hfi) (by rw[aG (bE z hfi),aG (bE z hdf)];exact z)
  have fr:∀{x:Addr},upd (upd H4 df (.own fi)) fi (.ins CF df []) x=none->H4 x=none:=fun{x} z=>(jT (jT z).1).1
  refine⟨_,rfl,p,CS,dx,_,rfl,s5 _ _ p4,Y.cl,Y.n_finder,(by show 2<1000;decide),?_⟩
  rw[a4q]
  have u6:aY p H5 (upd H5 p (.ins CS dx (dW bd ch fi))):=fun b o n z=>by rw[aG n];exact z
  have dn:∀{x:Addr},H4 x=none->H x=none/\x≠p:=fun z=>⟨(n1 (n2 (n3 (n4 z).1).1).1).1,(n4 z).2⟩
  have fN:=dn (fr hfd)
  have frl:=dn (fr hlk)
  have frf:=dn hfi
  have hc0:H ch=none:=(n1 (n2 hch).1).1
  refine q _ bd ch fi fd lk df (fun x hx=> ?_) nfl aJ (u6 _ _ npb (s5 _ _ (u4 _ _ npb (s3 _ _ (u2 _ _ npb b1))))) (u6 _ _ npc (s5 _ _ (u4 _ _ npc c3))) (u6 _ _ frf.2 g1) (u6 _ _ fN.2 g2) (u6 _ _ frl.2 g3) (fun b o n z=>u6 _ _ n (s5 _ _ (u4 _ _ n (s3 _ _ (u2 _ _ n (s1 _ _ z))))))
  simp only[List.mem_cons,List.not_mem_nil,or_false]at hx
  rcases hx with rfl|rfl|rfl|rfl|rfl
  ·exact hbd
  ·exact hc0
  ·exact frf.1
  ·exact fN.1
  ·exact frl.1
def uU(CS:Addr)(s bd ch:Addr)(cs:List V)(kb:List (aB×V))(H:Hp):Prop:=(∃dx fi,H s=some (.ins CS dx (dW bd ch fi)))/\H ch=some (.lst cs)/\H bd=some (.dK kb)
inductive nR(CS CF:Addr)(s bd ch fi fd lk:Addr)(cs:List V)(kb:List (aB×V))(H0 H:Hp):Prop
 |mk:((∃dx,H s=some (.ins CS dx (dW bd ch fi))))->(H ch=some (.lst cs))->(H bd=some (.dK kb))->((∃df,H fi=some (.ins CF df (fR bd fd lk))))->(H fd=some (.dT []))->(H lk=some (.dT []))->(fd≠lk)->(H0 fi=none)->(H0 fd=none)->(H0 lk=none)->nR CS CF s bd ch fi fd lk cs kb H0 H
inductive yG(CS CF CB CT:Addr)(vs:List V)(H:Hp)(Q:VK)(E':XK):Prop
 |mk (s bd ch:Addr) (cs:List V) (kb:List (aB×V)) (nm:Str) (m:Nat):(vs= [.ref s,.str nm,.int (m:Int)])->(uU CS s bd ch cs kb H)->(cs.length<900)->(kb.length<4)->(Nl nm)->(aE kb (.inr nm:aB)=none)->(m<=30)->(∀H' fi fd lk c b g r e ru me od,nR CS CF s bd ch fi fd lk (cs++ [.ref c]) (aQ kb (.inr nm:aB) (.ref b)) H H'->cD CB CT H' ⟨b,g,r,e,ru,me,od,eJ 0 m,(m:Int),[],[],[],[]⟩ ->BM.sep ⟨b,g,r,e,ru,me,od,eJ 0 m,(m:Int),[],[],[],[]⟩ ->(∀x∈ [b,g,r,e,ru,me,od],H x=none)->(∀x o,x≠s->x≠ch->x≠bd->H x=some o->H' x=some o)->Q .non H')->yG CS CF CB CT vs H Q E'
theorem a6C:bA ["self","name","many"] ["self","name","many"] (aO a2S):={}
theorem a5p(T:bC K mg)(Y:gA K mg CS)(Z:eT K mg CF)(W:cV K mg CB)(U:dR K mg CT)(C:uR K mg CC):aR P w K mg base aF 9 CS "table" ["self","name","many"] (yG CS CF CB CT):=by
 have G_is_name:bH P w K mg base aF 1 "is_name" ["thing"] (kF K):=lR T
 have G_size:bH P w K mg base aF 2 "check_size" ["many"] uN:=a1v T
 have GI:eM P w K mg base aF 1 CC ["self","boards","name","size"] (yH CC):=a6a T C
 have G_make:aR P w K mg base aF 8 CS "make" ["self","change"] (oN CS CF CC (uL CC CB CT)):=uW T Y Z C.cl a6w (a4z T C W U)
 refine Y.m_table.known a6C (fun _ _ _ _ _ _ us hl=>gM (fun _ _ _=>rfl) us hl) (fun vs H Q E h=> ?_) (fun f cdv A outer s H vs Q E hr h=> ?_)
 ·obtain⟨s',bd,ch,cs,kb,nm,m,rfl,_⟩:=h
  rfl
 ·obtain⟨s',bd,ch,cs,kb,nm,m,rfl,hS,cl,kl,hn,hv,hm,q⟩:=h
  have hu:=dO hr
  refine⟨_,(aK (bL (PW.pt (iY (eV (eF (bV G_is_name hr.mn aS (aA (pv 1) aI)) (fun _=>rfl))) (jM (iN (nV hu (pv 1) (aW (pv 0) rfl)))))) (aL cE) bO)
   (aK (cA (bV G_size hr.mn aS (aA (pv 2) aI)))
   (aK (bL (cN xM (dQ a1R rfl T.len iE (aA (aW (pv 0) rfl) aI)) (pZ T.g_MOST_TABLES) (cX _)) (aL cE) bO)
   (aL (cA (cC (pv 0) Y.cl G_make hr aS (aA (jX GI hr.mn C.c aS (aA (aW (pv 0) rfl) (aA (pv 1) (aA (pv 2) aI)))) aI))))))),?_⟩
  have h8:=hn.2.1
  obtain⟨⟨dx,fi0,h1⟩,h2,h3⟩:=hS
  obtain⟨a1,a2,a3,a4⟩:=lI bd ch fi0
  refine⟨_,rfl,_,.str nm,rfl,.str nm,lG (by omega),fun H0 s9=>⟨_,rfl,?_⟩⟩
  rw[show fJ (.str nm)=true from hn.name]
  have h1:=s9 _ _ h1
  have h2':=s9 _ _ h2
  have h3':=s9 _ _ h3
  refine bI ⟨_,rfl,_,rfl,s',CS,dx,_,_,rfl,h1,Y.cl,Y.n_boards,a1,bd,_,rfl,bW.k (k:=Sum.inr nm) h3',_,rfl,?_⟩
  rw[hv]
  refine bI ⟨_,rfl,m,rfl,hm,?_⟩
  refine⟨_,rfl,s',CS,dx,_,_,rfl,h1,Y.cl,Y.n_boards,a1,bd,kb,rfl,h3',_,_,rfl,rfl,_,rfl,?_⟩
  refine cW (fun g=>absurd (of_decide_eq_true g) (by omega)) (fun g=> ?_)
  refine⟨_,rfl,s',dx,_,rfl,h1,fL,_,rfl,s',CS,dx,_,_,rfl,h1,Y.cl,Y.n_boards,a1,_,rfl,_,rfl,?_⟩
  intro c dc hc hdc ne
  refine⟨c,dc,bd,nm,m,rfl,aJ,fun H1 b1 c1=>⟨rfl,?_⟩⟩
  have s1:aH H0 H1:=fun b o z=>b1 b o (bE z hc) (by rw[aG (bE z hc),aG (bE z hdc)];exact z)
  refine⟨s',c,bd,ch,fi0,dx,dc,cs,_,rfl,c1,(uM _ _ _).2.2.2,c,dc,bd,nm,m,kb,rfl,c1,s1 _ _ h3',by omega,hm,fun H2 b g r e ru me od B2 sp2 fr2 bd2 u2=> ?_⟩
  have ns:s'≠bd:=fun y=>by rw[y,h3']at h1;cases h1
  have nc:ch≠bd:=fun y=>by rw[y,h3']at h2';cases h2'
  have nsc:s'≠ch:=fun y=>by rw[y,h2']at h1;cases h1
  refine⟨u2 _ _ ns (s1 _ _ h1),u2 _ _ nc (s1 _ _ h2'),cl,fun H3 fi fd lk df f1 f2 f3 nfl g1 g2 g3 g4 g5 u3=> ?_⟩
  have n0:∀{x:Addr},H2 x=none->H x=none:=fun{x} e=>by
   cases e2:H x with
   |none=>rfl
   |some o=>
    by_cases y:x=bd
    ·rw[y,bd2]at e;cases e
    ·rw[u2 _ _ y (s1 _ _ (s9 _ _ e2))]at e;cases e
  have k3:∀{x:Addr} {o:HO},H2 x=some o->x≠s'->x≠ch->H3 x=some o:=fun e n m=>u3 _ _ n m e
  have fr:∀x∈ [b,g,r,e,ru,me,od],H x=none:=fun x hx=>iM (s9.trans s1) (fr2 x hx)
  have nb:∀{x:Addr},x∈ [b,g,r,e,ru,me,od] ->x≠s'/\x≠ch:=fun hx=>⟨fun y=>by{have:=s1 _ _ h1;rw[<- y,fr2 _ hx]at this;cases this},fun y=>by{have:=s1 _ _ h2';rw[<- y,fr2 _ hx]at this;cases this}⟩
  obtain⟨⟨d1,e1⟩,⟨⟨d2,e2⟩,e3,e4⟩,e5,e6,e7⟩:=B2
  have kb2:∀{x:Addr} {o:HO},x∈ [b,g,r,e,ru,me,od] ->H2 x=some o->H3 x=some o:=fun hx e=>k3 e (nb hx).1 (nb hx).2
  exact q H3 fi fd lk c b g r e ru me od ⟨⟨dx,g1⟩,g2,k3 bd2 ns.symm nc.symm,⟨df,g3⟩,g4,g5,nfl,n0 f1,n0 f2,n0 f3⟩ ⟨⟨d1,kb2 (by simp) e1⟩,⟨⟨d2,kb2 (by simp) e2⟩,kb2 (by simp) e3,kb2 (by simp) e4⟩,kb2 (by simp) e5,kb2 (by simp) e6,kb2 (by simp) e7⟩ sp2 fr (fun x o n1 n2 n3 e=>k3 (u2 _ _ n3 (s1 _ _ (s9 _ _ e))) n1 n2)
theorem cD.off{s:Addr}{B:BM}(h:cD CB CT H B)(hs:∃dx bd ch' fi,H s=some (.ins CS dx (dW bd ch' fi)))(hc:H ch=some (.lst cs))(n1:ch≠B.r)(n2:ch≠B.od)(u:∀x o,x≠s->x≠ch->H x=some o->H' x=some o):cD CB CT H' B:=by
 obtain⟨dx,bd,ch',fi,hs⟩:=hs
 obtain⟨⟨d1,e1⟩,⟨⟨d2,e2⟩,e3,e4⟩,e5,e6,e7⟩:=h
 have k:∀{x:Addr} {o:HO},H x=some o->(∀a b c,o≠ .ins a b c)->x≠ch->H' x=some o:=fun e n m=>u _ _ (fun y=>by rw[y,hs]at e;exact n _ _ _ (Option.some.inj e).symm) m e
 have nc:∀{x:Addr} {o:HO},H x=some o->(∀a,o≠ .lst a)->x≠ch:=fun e n y=>by rw[y,hc]at e;exact n _ (Option.some.inj e).symm
 refine⟨⟨d1,u _ _ (uS e1 hs (show 4≠3 by decide)) (nc e1 nk) e1⟩,⟨⟨d2,u _ _ (fun y=> ?_) (nc e2 nk) e2⟩,k e3 (fun _ _ _ y=>by cases y) n1.symm,k e4 (fun _ _ _ y=>by cases y) (nc e4 nk)⟩,k e5 (fun _ _ _ y=>by cases y) (nc e5 nk),k e6 (fun _ _ _ y=>by cases y) (nc e6 nk),k e7 (fun _ _ _ y=>by cases y) n2.symm⟩
 rw[y,hs]at e2
 cases e2
structure lP(bd ch:Addr)(B:BM):Prop where
 r:ch≠B.r
 o:ch≠B.od
 e:bd≠B.e
 u:bd≠B.ru
 m:bd≠B.me
inductive zJ(K:Fg)(CS CF CB CT:Addr)(vs:List V)(H:Hp)(Q:VK)(E':XK):Prop
 |mk (s bd ch a:Addr) (cs:List V) (kb:List (aB×V)) (nm t:Str) (ys:List V) (ds:List PyData) (B:BM):(vs= [.ref s,.str nm,.str t,.ref a])->(uU CS s bd ch cs kb H)->(cs.length<900)->(Nl nm)->(aE kb (.inr nm:aB)=some (.ref B.b))->(cD CB CT H B)->(B.sep)->(lP bd ch B)->(pJ B t)->(Nl t)->(H a=some (.lst ys))->(a≠B.od)->(dE K H ys ds)->(ys.length=B.xs.length)->(ys.length<=30)->(B.kvs.length<8)->(B.ord.length<8)->(∀H' fi fd lk c l,nR CS CF s bd ch fi fd lk (cs++ [.ref c]) kb H H'->H l=none->cD CB CT H' {B with kvs:=aQ B.kvs (.inr t:aB) (.ref l),ord:=B.ord++ [t]} ->H' l=some (.lst ys)->(∀x o,x≠s->x≠ch->x≠B.od->x≠B.e->H x=some o->H' x=some o)->Q .non H')->zJ K CS CF CB CT vs H Q E'
theorem a0I:bA ["self","table","column","values","board"] ["self","table","column","values"] (aO a3j):={}
theorem a5H(T:bC K mg)(Y:gA K mg CS)(Z:eT K mg CF)(W:cV K mg CB)(U:dR K mg CT)(C:oZ K mg CC):aR P w K mg base aF 9 CS "give" ["self","table","column","values"] (zJ K CS CF CB CT):=by
 have G_for:aR P w K mg base aF 3 CS "board_for" ["self","table","column"] (sG CS CB CT):=a2q T Y W
 have G_many:aR P w K mg base aF 1 CT "many" ["self"] (lD CT):=mW T U
 have G_cv:bH P w K mg base aF 4 "check_values" ["values","many"] (tS K):=a3g T
 have GI:eM P w K mg base aF 1 CC ["self","board","column","content"] (vI CC):=a1Q T C
 have G_make:aR P w K mg base aF 8 CS "make" ["self","change"] (oN CS CF CC (rQ CC CB CT (sX K CB CT))):=uW T Y Z C.cl (a0o a6l) (a1i T C W (a4k T W U))
 refine Y.m_give.known a0I (fun _ _ _ _ _ _ us hl=>jG (fun _ _ _ _=>rfl) us hl) (fun vs H Q E h=> ?_) (fun f cdv A outer s H vs Q E hr h=> ?_)
 ·obtain⟨s',bd,ch,a,cs,kb,nm,t,ys,ds,B,rfl,_⟩:=h
  rfl
 ·obtain⟨s',bd,ch,a,cs,kb,nm,t,ys,ds,B,rfl,hS,cl,hn,hv,hB,sep,ss,new,ht,ha,nao,hp,ly,l30,k8,o8,q⟩:=h
  refine⟨_,(aK (cH (i:=4) a0I.nd rfl (Or.inl rfl) (cC (pv 0) Y.cl G_for hr.mn aS (aA (pv 1) (aA (pv 2) aI))))
   (aK (cA (bV G_cv hr.mn aS (aA (pv 3) (aA (mH (aW (pv 4) rfl) U.cl G_many hr.mn aS) aI))))
   (aL (cA (cC (pv 0) Y.cl G_make hr aS (aA (jX GI hr.mn C.c aS (aA (pv 4) (aA (pv 2) (aA (pv 3) aI)))) aI)))))),?_⟩
  obtain⟨⟨dx,fi0,h1⟩,h2,h3⟩:=hS
  refine⟨_,rfl,s',dx,_,rfl,h1,fL,_,rfl,_,rfl,s',bd,ch,fi0,dx,kb,nm,t,B,rfl,h1,h3,hn,hv,hB,ht,o8,fun H1 s1=> ?_⟩
  obtain⟨dB,b1⟩:=(hB.same s1).at_
  obtain⟨dT,t1⟩:=(hB.same s1).tab.at_
  refine⟨_,rfl,_,rfl,B.b,CB,dB,_,_,rfl,b1,W.cl,W.n_given,(dJ _ _ _ _).1,B.g,dT,_,rfl,t1,gN,B.g,B.r,B.e,B.xs,B.n,B.kvs,rfl,(hB.same s1).tab,?_⟩
  refine⟨a,ys,ds,by rw[ly];rfl,aN.of (s1 _ _ ha),hp.keep (bS.of s1),by omega,fun H2 s2=> ?_⟩
  have s12:=s1.trans s2
  refine⟨_,rfl,s',dx,_,rfl,s12 _ _ h1,fL,_,rfl,_,rfl,_,rfl,?_⟩
  intro c dc hc hdc ne
  refine⟨c,dc,B.b,a,t,rfl,aJ,fun H3 b3 c3=>⟨rfl,?_⟩⟩
  have s3:aH H H3:=fun b o z=>b3 b o (bE (s12 _ _ z) hc) (by rw[aG (bE (s12 _ _ z) hc),aG (bE (s12 _ _ z) hdc)];exact s12 _ _ z)
  have hB3:=hB.same s3
  refine⟨s',c,bd,ch,fi0,dx,dc,cs,_,rfl,c3,(xB _ _ _).2.2.2.1,c,dc,a,B,t,rfl,c3,hB3,new,B,t,a,ys,ds,rfl,hB3,sep,new,ht,s3 _ _ ha,nao,hp.keep (bS.of s3),ly,l30,k8,by omega,fun H4 l hl B4 l4 u4=> ?_⟩
  have hB0:=hB.ord
  have he0:=hB.tab.kept
  have k4:∀{x:Addr} {o:HO},H x=some o->x≠B.od->x≠B.e->H4 x=some o:=fun e n m=>u4 _ _ n m (s3 _ _ e)
  have ns:s'≠B.od/\s'≠B.e:=⟨fun y=>by{rw[y,hB0]at h1;cases h1},fun y=>by{rw[y,he0]at h1;cases h1}⟩
  have nce:ch≠B.e:=fun y=>by rw[y,he0]at h2;cases h2
  have nbo:bd≠B.od:=fun y=>by rw[y,hB0]at h3;cases h3
  have ns4:=k4 h1 ns.1 ns.2
  have ch4:=k4 h2 ss.o nce
  refine⟨ns4,ch4,cl,fun H5 fi fd lk df f1 f2 f3 nfl g1 g2 g3 g4 g5 u5=> ?_⟩
  have nn:∀{x:Addr},H4 x=none->H x=none:=fun{x} e=>by
   cases e2:H x with
   |none=>rfl
   |some o=>
    by_cases y:x=B.od
    ·rw[y,B4.ord]at e;cases e
    ·by_cases y2:x=B.e
     ·rw[y2,B4.tab.kept]at e;cases e
     ·rw[k4 e2 y y2]at e;cases e
  have hl0:H l=none:=iM s3 hl
  have nl:l≠s'/\l≠ch:=⟨fun y=>by{rw[y,h1]at hl0;cases hl0},fun y=>by{rw[y,h2]at hl0;cases hl0}⟩
  have nb:bd≠s'/\bd≠ch:=⟨fun y=>by{rw[y,h1]at h3;cases h3},fun y=>by{rw[y,h2]at h3;cases h3}⟩
  exact q H5 fi fd lk c l ⟨⟨dx,g1⟩,g2,u5 _ _ nb.1 nb.2 (k4 h3 nbo ss.e),⟨df,g3⟩,g4,g5,nfl,nn f1,nn f2,nn f3⟩ hl0 (B4.off ⟨dx,bd,ch,fi0,ns4⟩ ch4 ss.r ss.o u5) (u5 _ _ nl.1 nl.2 l4) (fun x o n1 n2 n3 n4 e=>u5 _ _ n1 n2 (k4 e n3 n4))
inductive zD(K:Fg)(CS CF CB CT:Addr)(vs:List V)(H:Hp)(Q:VK)(E':XK):Prop
 |mk (s bd ch l:Addr) (cs:List V) (kb:List (aB×V)) (nm t:Str) (p:Nat) (v:V) (d:PyData) (ys:List V) (B:BM):(vs= [.ref s,.str nm,.str t,.int (p:Int),v])->(uU CS s bd ch cs kb H)->(cs.length<900)->(Nl nm)->(aE kb (.inr nm:aB)=some (.ref B.b))->(cD CB CT H B)->(lP bd ch B)->(Nl t)->(t∈B.ord)->(aE B.rus (.inr t:aB)=none)->(aE B.kvs (.inr t:aB)=some (.ref l))->(H l=some (.lst ys))->(p<B.xs.length)->(ys.length=B.xs.length)->(Pv K H v d)->(l≠ch)->(l≠B.r)->(l≠B.od)->(∀H' fi fd lk c,nR CS CF s bd ch fi fd lk (cs++ [.ref c]) kb H H'->cD CB CT H' B->H' l=some (.lst (ys.set p v))->(∀x o,x≠s->x≠ch->x≠l->H x=some o->H' x=some o)->Q .non H')->zD K CS CF CB CT vs H Q E'
theorem a17:bA ["self","table","column","place","value","board"] ["self","table","column","place","value"] (aO a0T):={}
theorem a4M(T:bC K mg)(Y:gA K mg CS)(Z:eT K mg CF)(W:cV K mg CB)(U:dR K mg CT)(C:rB K mg CC):aR P w K mg base aF 9 CS "put" ["self","table","column","place","value"] (zD K CS CF CB CT):=by
 have G_with:aR P w K mg base aF 3 CS "board_with" ["self","table","column"] (sE CS CB CT):=a1u T Y W
 have GI:eM P w K mg base aF 1 CC ["self","board","column","place","value"] (a0b CC):=a5K T C
 have G_make:aR P w K mg base aF 8 CS "make" ["self","change"] (oN CS CF CC (sR K CC CB CT)):=uW T Y Z C.cl a4J (a8O T C W U)
 refine Y.m_put.known a17 (fun _ _ _ _ _ _ us hl=>wL (fun _ _ _ _ _=>rfl) us hl) (fun vs H Q E h=> ?_) (fun f cdv A outer s H vs Q E hr h=> ?_)
 ·obtain⟨s',bd,ch,l,cs,kb,nm,t,p,v,d,ys,B,rfl,_⟩:=h
  rfl
 ·obtain⟨s',bd,ch,l,cs,kb,nm,t,p,v,d,ys,B,rfl,hS,cl,hn,hv,hB,ss,ht,to,hru,hkv,hl,hp,ly,hpv,nlc,nlr,nlo,q⟩:=h
  have hu:=dO hr
  refine⟨_,(aK (cH (i:=5) a17.nd rfl (Or.inl rfl) (cC (pv 0) Y.cl G_with hr.mn aS (aA (pv 1) (aA (pv 2) aI))))
   (aK (bL (iN (nV hu (pv 2) (aW (pv 5) rfl))) (aL cE) bO)
   (aL (cA (cC (pv 0) Y.cl G_make hr aS (aA (jX GI hr.mn C.c aS (aA (pv 5) (aA (pv 2) (aA (pv 3) (aA (pv 4) aI))))) aI)))))),?_⟩
  obtain⟨⟨dx,fi0,h1⟩,h2,h3⟩:=hS
  refine⟨_,rfl,s',dx,_,rfl,h1,fL,_,rfl,_,rfl,s',bd,ch,fi0,dx,kb,nm,t,B,rfl,h1,h3,hn,hv,hB,ht,to,fun H1 s1=> ?_⟩
  obtain⟨dB,b1⟩:=(hB.same s1).at_
  refine⟨_,rfl,_,rfl,B.b,CB,dB,_,_,rfl,b1,W.cl,W.n_rules,(dJ _ _ _ _).2.1,B.ru,_,rfl,bW.k (k:=Sum.inr t) (hB.same s1).rul,_,rfl,?_⟩
  rw[hru]
  refine bI ?_
  refine⟨_,rfl,s',dx,_,rfl,s1 _ _ h1,fL,_,rfl,_,rfl,_,rfl,_,rfl,?_⟩
  intro c dc hc hdc ne
  refine⟨c,dc,B.b,t,p,v,rfl,aJ,fun H3 b3 c3=>⟨rfl,?_⟩⟩
  have s3:aH H H3:=fun b o z=>b3 b o (bE (s1 _ _ z) hc) (by rw[aG (bE (s1 _ _ z) hc),aG (bE (s1 _ _ z) hdc)];exact s1 _ _ z)
  have hB3:=hB.same s3
  refine⟨s',c,bd,ch,fi0,dx,dc,cs,_,rfl,c3,(wS _ _ _ _ _).2.2.2.2.1,c,dc,l,B,t,p,v,.non,d,ys,rfl,c3,hB3,ht,hkv,s3 _ _ hl,hp,ly,hpv.keep (bS.of s3),fun H4 u4 l4=> ?_⟩
  have hc0:H c=none:=iM s1 hc
  have k4:∀{x:Addr} {o:HO},H x=some o->x≠l->H4 x=some o:=fun e n=>u4 _ _ (fun y=>by rw[y,hc0]at e;cases e) n (s3 _ _ e)
  have nl:∀{x:Addr} {o:HO},H x=some o->(∀y,o≠ .lst y)->x≠l:=fun e n y=>by rw[y,hl]at e;exact n _ (Option.some.inj e).symm
  have ns4:=k4 h1 (nl h1 nk)
  have ch4:=k4 h2 nlc.symm
  refine⟨ns4,ch4,cl,fun H5 fi fd lk df f1 f2 f3 nfl g1 g2 g3 g4 g5 u5=> ?_⟩
  have nn:∀{x:Addr},H4 x=none->H x=none:=fun{x} e=>by
   cases e2:H x with
   |none=>rfl
   |some o=>
    by_cases y:x=l
    ·rw[y,l4]at e;cases e
    ·rw[k4 e2 y]at e;cases e
  have nb:bd≠s'/\bd≠ch:=⟨fun y=>by{rw[y,h1]at h3;cases h3},fun y=>by{rw[y,h2]at h3;cases h3}⟩
  have nls:l≠s':=fun y=>by rw[y,h1]at hl;cases hl
  have B4:cD CB CT H4 B:=by
   obtain⟨⟨d1,e1⟩,⟨⟨d2,e2⟩,e3,e4⟩,e5,e6,e7⟩:=hB
   exact⟨⟨d1,k4 e1 (nl e1 nk)⟩,⟨⟨d2,k4 e2 (nl e2 nk)⟩,k4 e3 nlr.symm,k4 e4 (nl e4 nk)⟩,k4 e5 (nl e5 nk),k4 e6 (nl e6 nk),k4 e7 nlo.symm⟩
  exact q H5 fi fd lk c ⟨⟨dx,g1⟩,g2,u5 _ _ nb.1 nb.2 (k4 h3 (nl h3 nk)),⟨df,g3⟩,g4,g5,nfl,nn f1,nn f2,nn f3⟩ (B4.off ⟨dx,bd,ch,fi0,ns4⟩ ch4 ss.r ss.o u5) (u5 _ _ nls nlc l4) (fun x o n1 n2 n3 e=>u5 _ _ n1 n2 (k4 e n3))
end
abbrev aC:=Str×Str
inductive gH(adj:aC->List aC)(s:aC):Nat->aC->Prop
 |zero:gH adj s 0 s
 |step {n:Nat} {x y:aC}:gH adj s n x->y∈adj x->gH adj s (n+ 1) y
variable{adj:My.aC->List My.aC}{cm:My.aC->Option My.aC}{nodes wz fz:List My.aC}
theorem gH.inv{s:aC}{n:Nat}{y:aC}(h:gH adj s (n+ 1) y):∃x,gH adj s n x/\y∈adj x:=by
 cases h with
 |step h1 h2=>exact⟨_,h1,h2⟩
structure mG(adj:aC->List aC)(s:aC)(ys:List aC):Prop where
 hd:ys[0]?=some s
 nd:ys.Nodup
 nx:∀i x,ys[i]?=some x->∃y,ys[(i+ 1)% ys.length]?=some y/\y∈adj x
inductive cL(cm:aC->Option aC)(s:aC):aC->List aC->Prop
 |nil:cL cm s s [s]
 |cons {x u:aC} {ps:List aC}:x≠s->cm x=some u->cL cm s u ps->cL cm s x (x::ps)
theorem cL.uniq{cm:aC->Option aC}{s:aC}:∀{x:aC} {ps qs:List aC},cL cm s x ps->cL cm s x qs->ps=qs
 |_,_,_,.nil,.nil=>rfl
 |_,_,_,.nil,.cons h _ _=>absurd rfl h
 |_,_,_,.cons h _ _,.nil=>absurd rfl h
 |_,_,_,.cons _ e b,.cons _ e' b'=>by
  rw[e]at e'
  cases e'
  rw[cL.uniq b b']
theorem cL.mem{cm:aC->Option aC}{s:aC}:∀{x y:aC} {ps:List aC},cL cm s x ps->y∈ps->∃qs,cL cm s y qs/\qs.length<=ps.length/\∃pre,ps=pre++ qs
 |_,y,_,.nil,h=>by rw[List.mem_singleton.mp h];exact⟨[_],.nil,Nat.le_refl _,[],rfl⟩
 |_,y,_,.cons (x:=x) (ps:=ps) h e b,hm=>by
  rcases List.mem_cons.mp hm with rfl|hm
  ·exact⟨_,.cons h e b,Nat.le_refl _,[],rfl⟩
  ·obtain⟨qs,h1,h2,pre,h3⟩:=cL.mem b hm
   exact⟨qs,h1,Nat.le_succ_of_le h2,x::pre,by rw[h3];rfl⟩
theorem cL.nodup{s:aC}:∀{x:aC} {ps:List aC},cL cm s x ps->ps.Nodup
 |_,_,.nil=>by simp
 |_,_,.cons (x:=x) (ps:=ps) h e b=>by
  rw[List.nodup_cons]
  refine⟨fun hm=> ?_,b.nodup⟩
  obtain⟨qs,h1,h2,_⟩:=b.mem hm
  have:=cL.uniq h1 (.cons h e b)
  rw[this,List.length_cons]at h2
  omega
theorem cL.last{s:aC}:∀{x:aC} {ps:List aC},cL cm s x ps->ps.getLast?=some s
 |_,_,.nil=>rfl
 |_,_,.cons (x:=x) (ps:=ps) h e b=>by
  have:=b.last
  cases ps with
  |nil=>cases b
  |cons p r=>rw[List.getLast?_cons_cons];exact this
theorem cL.head{s:aC}{x:aC}{ps:List aC}(h:cL cm s x ps):ps[0]?=some x:=by
 cases h<;>rfl
theorem cL.next{cm:aC->Option aC}{s:aC}:∀{x:aC} {ps:List aC} {i:Nat} {y z:aC},cL cm s x ps->ps[i]?=some y->ps[i+ 1]?=some z->y≠s/\cm y=some z
 |_,_,i,y,z,.nil,h1,h2=>by simp at h2
 |_,_,0,y,z,.cons (x:=x) (ps:=ps) h e b,h1,h2=>by
  simp at h1
  subst h1
  have h2:ps[0]?=some z:=by simpa using h2
  rw[b.head]at h2
  cases h2
  exact⟨h,e⟩
 |_,_,i+ 1,y,z,.cons h e b,h1,h2=>cL.next (i:=i) b (by simpa using h1) (by simpa using h2)
theorem cL.ext{cm':aC->Option aC}{s:aC}(hc:∀x u,cm x=some u->cm' x=some u):∀{x:aC} {ps:List aC},cL cm s x ps->cL cm' s x ps
 |_,_,.nil=> .nil
 |_,_,.cons h e b=> .cons h (hc _ _ e) (b.ext hc)
theorem cL.drop{cm:aC->Option aC}{s:aC}:∀{x y:aC} {ps:List aC} {i:Nat},cL cm s x ps->ps[i]?=some y->cL cm s y (ps.drop i)
 |_,_,_,0,h,e=>by
  rw[h.head]at e
  cases e
  exact h
 |_,_,_,i+ 1,.nil,e=>by simp at e
 |_,_,_,i+ 1,.cons _ _ b,e=>cL.drop (i:=i) b (by simpa using e)
theorem cL.ring{s x:aC}{ps:List aC}(hc:∀z u,cm z=some u->z∈adj u)(hs:s∈adj x)(h:cL cm s x ps):mG adj s ps.reverse:=by
 have hl:ps.getLast?=some s:=h.last
 have hpos:0<ps.length:=by
  cases ps with
  |nil=>simp at hl
  |cons=>simp
 have hls:ps[ps.length- 1]?=some s:=by rw[<- List.getLast?_eq_getElem?];exact hl
 refine⟨?_,?_,fun i z hz=> ?_⟩
 ·rw[List.getElem?_reverse hpos]
  simpa using hls
 ·exact List.pairwise_reverse.mpr (h.nodup.imp fun h=>Ne.symm h)
 ·have hi:i<ps.length:=by
   have:=(List.getElem?_eq_some_iff.mp hz).1
   simpa using this
  rw[List.length_reverse]
  rw[List.getElem?_reverse hi]at hz
  by_cases g:i+ 1<ps.length
  ·rw[Nat.mod_eq_of_lt g,List.getElem?_reverse g]
   obtain⟨y,hy⟩:∃y,ps[ps.length- 1- (i+ 1)]?=some y:=⟨_,List.getElem?_eq_getElem (by omega)⟩
   have e:ps.length- 1- i=(ps.length- 1- (i+ 1))+ 1:=by omega
   rw[e]at hz
   exact⟨y,hy,hc _ _ (h.next hy hz).2⟩
  ·have e:i+ 1=ps.length:=by omega
   rw[e,Nat.mod_self,List.getElem?_reverse hpos]
   have e0:ps.length- 1- i=0:=by omega
   rw[e0,h.head]at hz
   cases hz
   exact⟨s,by simpa using hls,hs⟩
theorem mG.walk{s:aC}{ys:List aC}(R:mG adj s ys):∀(i:Nat) (x:aC),ys[i]?=some x->gH adj s i x
 |0,x,h=>by
  rw[R.hd]at h
  cases h
  exact .zero
 |i+ 1,x,h=>by
  have hi:i+ 1<ys.length:=(List.getElem?_eq_some_iff.mp h).1
  obtain⟨z,hz⟩:∃z,ys[i]?=some z:=⟨_,List.getElem?_eq_getElem (by omega)⟩
  obtain⟨y,h1,h2⟩:=R.nx i z hz
  rw[Nat.mod_eq_of_lt hi,h]at h1
  cases h1
  exact .step (R.walk i z hz) h2
theorem mG.pos{s:aC}{ys:List aC}(R:mG adj s ys):0<ys.length:=(List.getElem?_eq_some_iff.mp R.hd).1
theorem mG.back{s:aC}{ys:List aC}(R:mG adj s ys):gH adj s ys.length s:=by
 have hp:=R.pos
 obtain⟨z,hz⟩:∃z,ys[ys.length- 1]?=some z:=⟨_,List.getElem?_eq_getElem (by omega)⟩
 obtain⟨y,h1,h2⟩:=R.nx _ z hz
 have e:ys.length- 1+ 1=ys.length:=by omega
 rw[e,Nat.mod_self,R.hd]at h1
 cases h1
 have:=gH.step (R.walk _ z hz) h2
 rw[e]at this
 exact this
def iG(cm:aC->Option aC)(nodes:List aC):Nat:=(nodes.filter fun z=>(cm z).isNone).length
theorem a2F{cm cm':aC->Option aC}(hc:∀x,(cm x).isSome->(cm' x).isSome):∀nodes:List aC,iG cm' nodes<=iG cm nodes
 | []=>Nat.le_refl _
 |z::r=>by
  have ih:=a2F hc r
  unfold iG at ih|-
  rw[List.filter_cons,List.filter_cons]
  cases e:cm z with
  |none=>cases e':cm' z<;>simp<;>omega
  |some u=>
   have:=hc z (by rw[e];rfl)
   cases e':cm' z with
   |none=>rw[e']at this;cases this
   |some u'=>simpa using ih
theorem wB{cm cm':aC->Option aC}(hc:∀x,(cm x).isSome->(cm' x).isSome){y:aC}(h0:cm y=none)(h1:(cm' y).isSome):∀{nodes:List aC},y∈nodes->iG cm' nodes+ 1<=iG cm nodes
 |z::r,hy=>by
  have le:=a2F hc r
  unfold iG at le|-
  rw[List.filter_cons,List.filter_cons]
  rcases List.mem_cons.mp hy with rfl|hy
  ·rw[h0]
   cases e':cm' y with
   |none=>rw[e']at h1;cases h1
   |some u=>simpa using Nat.succ_le_succ le
  ·have ih:=wB hc h0 h1 hy
   unfold iG at ih
   cases e:cm z with
   |none=>cases e':cm' z<;>simp<;>omega
   |some u=>
    have:=hc z (by rw[e];rfl)
    cases e':cm' z with
    |none=>rw[e']at this;cases this
    |some u'=>simpa using ih
theorem xF(cm:aC->Option aC)(nodes:List aC):iG cm nodes<=nodes.length:=List.length_filter_le _ _
def tJ(adj:aC->List aC)(s:aC)(cm:aC->Option aC)(x:aC):Prop:=∀y∈adj x,y≠s/\(cm y).isSome
structure kB(adj:aC->List aC)(s:aC)(nodes:List aC)(r:Nat)(cm:aC->Option aC)(wz:List aC):Prop where
 c:∀z u,cm z=some u->z∈adj u/\z≠s
 d:∀x∈wz,∃ps,cL cm s x ps/\ps.length=r+ 1
 f:∀x,(x=s\/ (cm x).isSome)->tJ adj s cm x\/ x∈wz
 w:∀x∈wz,x=s\/ (cm x).isSome
 q:∀x,gH adj s r x->x=s\/ (cm x).isSome
 n:∀k,k+ 1<=r->¬gH adj s (k+ 1) s
 b:wz= []\/ r+ iG cm nodes<=nodes.length
theorem kB.start{s:aC}:kB adj s nodes 0 (fun _=>none) [s] where
 c:=fun _ _ h=>by cases h
 d:=fun x hx=>by rw[List.mem_singleton.mp hx];exact⟨[s],.nil,rfl⟩
 f:=fun x hx=>by
  rcases hx with rfl|hx
  ·exact .inr (by simp)
  ·cases hx
 w:=fun x hx=> .inl (List.mem_singleton.mp hx)
 q:=fun x hx=>by cases hx;exact .inl rfl
 n:=fun k hk=>by omega
 b:=.inr (by have:=xF (fun _=>none) nodes;omega)
theorem kB.over{s:aC}{r:Nat}(B:kB adj s nodes r cm []):∀n,¬gH adj s (n+ 1) s:=by
 have all:∀n x,gH adj s n x->x=s\/ (cm x).isSome:=by
  intro n
  induction n with
  |zero=>intro x h;cases h;exact .inl rfl
  |succ n ih=>
   intro x h
   obtain⟨z,h1,h2⟩:=h.inv
   rcases B.f z (ih z h1)with g|g
   ·exact .inr (g x h2).2
   ·cases g
 intro n h
 obtain⟨z,h1,h2⟩:=h.inv
 rcases B.f z (all n z h1)with g|g
 ·exact(g s h2).1 rfl
 ·cases g
structure iF(adj:aC->List aC)(s:aC)(nodes:List aC)(r:Nat)(cm0:aC->Option aC)(wz:List aC)(i:Nat)(cm:aC->Option aC)(fz:List aC):Prop where
 c:∀z u,cm z=some u->z∈adj u/\z≠s
 e:∀z u,cm0 z=some u->cm z=some u
 d:∀x∈fz,∃ps,cL cm s x ps/\ps.length=r+ 2
 f:∀x,(x=s\/ (cm x).isSome)->tJ adj s cm x\/ x∈wz.drop i\/ x∈fz
 w:∀x∈fz,x≠s/\(cm x).isSome/\cm0 x=none
 l:fz.length+ iG cm nodes<=iG cm0 nodes
theorem iF.start{s:aC}{r:Nat}(B:kB adj s nodes r cm wz):iF adj s nodes r cm wz 0 cm [] where
 c:=B.c
 e:=fun _ _ h=>h
 d:=fun _ h=>by cases h
 f:=fun x hx=>(B.f x hx).imp id fun h=> .inl (by simpa using h)
 w:=fun _ h=>by cases h
 l:=by simp
theorem iF.next{s:aC}{r:Nat}{cm0:aC->Option aC}{x:aC}(M:iF adj s nodes r cm0 wz i cm fz)(hx:wz[i]?=some x)(hd:tJ adj s cm x):iF adj s nodes r cm0 wz (i+ 1) cm fz:=
 ⟨M.c,M.e,M.d,fun y hy=>by
  rcases M.f y hy with h|h|h
  ·exact .inl h
  ·have hi:i<wz.length:=(List.getElem?_eq_some_iff.mp hx).1
   rw[List.drop_eq_getElem_cons hi]at h
   rcases List.mem_cons.mp h with h|h
   ·have:wz[i]=x:=(List.getElem?_eq_some_iff.mp hx).2
    rw[h,this]
    exact .inl hd
   ·exact .inr (.inl h)
  ·exact .inr (.inr h),M.w,M.l⟩
noncomputable def fW (cm:aC->Option aC) (y x:aC):aC->Option aC:=fun z=>if z=y then some x else cm z
theorem iF.put{s:aC}{r:Nat}{cm0:aC->Option aC}{x y:aC}(B:kB adj s nodes r cm0 wz)(M:iF adj s nodes r cm0 wz i cm fz)(hx:x∈wz)(hy:y∈adj x)(hs:y≠s)(h0:cm y=none)(hn:y∈nodes):
 iF adj s nodes r cm0 wz i (fW cm y x) (fz++ [y]):=by
 have ext:∀z u,cm z=some u->fW cm y x z=some u:=fun z u h=>by
  unfold fW
  rw[if_neg (fun e=>by rw[e,h0]at h;cases h)]
  exact h
 have some':∀z,(cm z).isSome->(fW cm y x z).isSome:=fun z h=>by
  obtain⟨u,hu⟩:=Option.isSome_iff_exists.mp h
  rw[ext z u hu];rfl
 have at':fW cm y x y=some x:=by unfold fW;rw[if_pos rfl]
 refine⟨fun z u h=> ?_,fun z u h=>ext z u (M.e z u h),fun z hz=> ?_,fun z hz=> ?_,fun z hz=> ?_,?_⟩
 ·unfold fW at h
  by_cases e:z=y
  ·rw[if_pos e]at h
   cases h
   rw[e]
   exact⟨hy,hs⟩
  ·rw[if_neg e]at h
   exact M.c z u h
 ·rcases List.mem_append.mp hz with hz|hz
  ·obtain⟨ps,h1,h2⟩:=M.d z hz
   exact⟨ps,h1.ext ext,h2⟩
  ·rw[List.mem_singleton.mp hz]
   obtain⟨ps,h1,h2⟩:=B.d x hx
   exact⟨y::ps,.cons hs at' ((h1.ext M.e).ext ext),by rw[List.length_cons,h2]⟩
 ·by_cases e:z=y
  ·exact .inr (.inr (by rw[e];simp))
  ·have hz':z=s\/ (cm z).isSome:=hz.imp id fun h=>by
    unfold fW at h
    rw[if_neg e]at h
    exact h
   rcases M.f z hz' with h|h|h
   ·exact .inl fun u hu=>⟨(h u hu).1,some' u (h u hu).2⟩
   ·exact .inr (.inl h)
   ·exact .inr (.inr (List.mem_append_left _ h))
 ·rcases List.mem_append.mp hz with hz|hz
  ·obtain⟨h1,h2,h3⟩:=M.w z hz
   exact⟨h1,some' z h2,h3⟩
  ·rw[List.mem_singleton.mp hz]
   refine⟨hs,by rw[at'];rfl,?_⟩
   cases e:cm0 y with
   |none=>rfl
   |some u=>rw[M.e y u e]at h0;cases h0
 ·have h1:=wB some' h0 (by rw[at'];rfl) hn
  have h2:=M.l
  rw[List.length_append,List.length_singleton]
  omega
theorem iF.over{s:aC}{r:Nat}{cm0:aC->Option aC}(B:kB adj s nodes r cm0 wz)(M:iF adj s nodes r cm0 wz wz.length cm fz)(hw:wz≠ []):kB adj s nodes (r+ 1) cm fz:=by
 have some':∀z,(cm0 z).isSome->(cm z).isSome:=fun z h=>by
  obtain⟨u,hu⟩:=Option.isSome_iff_exists.mp h
  rw[M.e z u hu];rfl
 have old:∀x,(x=s\/ (cm0 x).isSome)->tJ adj s cm x:=fun x hx=>by
  rcases M.f x (hx.imp id (some' x))with h|h|h
  ·exact h
  ·simp at h
  ·obtain⟨h1,_,h3⟩:=M.w x h
   rcases hx with hx|hx
   ·exact absurd hx h1
   ·rw[h3]at hx;cases hx
 refine⟨M.c,M.d,fun x hx=> ?_,fun x hx=> .inr (M.w x hx).2.1,fun x hx=> ?_,fun k hk h=> ?_,?_⟩
 ·rcases M.f x hx with h|h|h
  ·exact .inl h
  ·simp at h
  ·exact .inr h
 ·obtain⟨z,h1,h2⟩:=hx.inv
  exact .inr (old z (B.q z h1) x h2).2
 ·by_cases g:k+ 1<=r
  ·exact B.n k g h
  ·have e:k=r:=by omega
   subst e
   obtain⟨z,h1,h2⟩:=h.inv
   exact(old z (B.q z h1) s h2).1 rfl
 ·by_cases g:fz= []
  ·exact .inl g
  ·refine .inr ?_
   have hl:=M.l
   have hp:0<fz.length:=List.length_pos_iff.mpr g
   rcases B.b with b|b
   ·exact absurd b hw
   ·omega
theorem a7i:bootBuiltins "reversed"=some (.type "reversed"):=by kernel_rfl
def N2(z:aC):Prop:=Nl z.1/\Nl z.2
theorem N2.lay{z:aC}(h:N2 z):(gX z).canLay0=true:=wH h.1 h.2
theorem aY.upd{p:Addr}:aY p H (upd H p o):=fun b u n e=>by rw[aG n];exact e
def kS(z:aC):List aB:=[.inr z.1,.inr z.2]
theorem a0u{z u:aC}(h:kS z=kS u):z=u:=by
 obtain⟨a,b⟩:=z
 obtain⟨c,d⟩:=u
 simp only[kS,List.cons.injEq,Sum.inr.injEq,and_true]at h
 rw[h.1,h.2]
def fI(H:Hp)(v:V)(z:aC):Prop:=∃a,v= .ref a/\H a=some (.tup [.str z.1,.str z.2])
theorem fI.mapT{v:V}{z:aC}(k:∀a xs,H a=some (.tup xs)->H' a=some (.tup xs))(h:fI H v z):fI H' v z:=let ⟨a,e,g⟩:=h;⟨a,e,k _ _ g⟩
theorem fI.same{v:V}{z:aC}(s:aH H H')(h:fI H v z):fI H' v z:=h.mapT fun a xs e=>s _ _ e
theorem fI.dt{v:V}{z:aC}(h:fI H v z):Dt K H v (gX z):=by
 obtain⟨a,rfl,g⟩:=h
 exact .tup (bU.of g) (.cons (.str _) (.cons (.str _) .nil))
def bZ(H:Hp):List V->List aC->Prop:=Paired (fI H)
theorem bZ.mapT{H H':Hp}(k:∀a xs,H a=some (.tup xs)->H' a=some (.tup xs)):∀{vs:List V} {zs:List aC},bZ H vs zs->bZ H' vs zs
 |_,_,.nil=> .nil
 |_,_,.cons r t=> .cons (r.mapT k) (bZ.mapT k t)
theorem bZ.same{zs:List aC}(s:aH H H')(h:bZ H vs zs):bZ H' vs zs:=h.mapT fun a xs e=>s _ _ e
theorem bZ.length{zs:List aC}(h:bZ H vs zs):vs.length=zs.length:=Paired.length h
theorem bZ.at{H:Hp}:∀{vs:List V} {zs:List aC} {i:Nat} {v:V},bZ H vs zs->vs[i]?=some v->∃z,zs[i]?=some z/\fI H v z
 |_,_,_,_,.nil,e=>by simp at e
 |_,_,0,_,.cons r _,e=>by simp at e;subst e;exact⟨_,rfl,r⟩
 |_,_,i+ 1,v,.cons _ t,e=>by
  obtain⟨z,h1,h2⟩:=bZ.at (i:=i) (v:=v) t (by simpa using e)
  exact⟨z,by simpa using h1,h2⟩
theorem bZ.snoc{H:Hp}{v:V}{z:aC}(h:fI H v z):∀{vs:List V} {zs:List aC},bZ H vs zs->bZ H (vs++ [v]) (zs++ [z])
 |_,_,.nil=> .cons h .nil
 |_,_,.cons r t=> .cons r (bZ.snoc h t)
theorem bZ.rev{H:Hp}:∀{vs:List V} {zs:List aC},bZ H vs zs->bZ H vs.reverse zs.reverse
 |_,_,.nil=> .nil
 |_,_,.cons r t=>by
  rw[List.reverse_cons,List.reverse_cons]
  exact(bZ.rev t).snoc r
theorem bZ.dt{K:Fg}{H:Hp}:∀{vs:List V} {zs:List aC},bZ H vs zs->dI K H vs (zs.map gX)
 |_,_,.nil=> .nil
 |_,_,.cons r t=> .cons r.dt (bZ.dt t)
theorem bZ.last{zs:List aC}{z:aC}(h:bZ H vs (zs++ [z])):∃ws v,vs=ws++ [v] /\fI H v z:=by
 have hl:=h.length
 rw[List.length_append,List.length_singleton]at hl
 have ne:vs≠ []:=fun e=>by rw[e]at hl;simp at hl
 refine⟨vs.dropLast,vs.getLast ne,(List.dropLast_concat_getLast ne).symm,?_⟩
 have hi:vs[zs.length]?=some (vs.getLast ne):=by
  rw[List.getLast_eq_getElem,List.getElem?_eq_getElem (by omega)]
  congr 2
  omega
 obtain⟨u,h1,h2⟩:=h.at hi
 rw[List.getElem?_append_right (Nat.le_refl _)]at h1
 simp at h1
 rw[h1]
 exact h2
def lW(H:Hp)(cvs:List (List aB×V))(cm:aC->Option aC):Prop:=∀z,(cm z=none/\aE cvs (kS z)=none)\/ ∃u v,cm z=some u/\aE cvs (kS z)=some v/\fI H v u
theorem lW.mapT{cvs:List (List aB×V)}(k:∀a xs,H a=some (.tup xs)->H' a=some (.tup xs))(h:lW H cvs cm):lW H' cvs cm:=fun z=>(h z).imp id fun⟨u,v,e1,e2,e3⟩=>⟨u,v,e1,e2,e3.mapT k⟩
theorem oU{α:Type}{xs:List α}{x:α}(h:xs[i]?=some x):xs.take (i+ 1)=xs.take i++ [x]:=by
 rw[List.take_add_one,h]
 rfl
section
inductive yS(K:Fg)(vs:List V)(H:Hp)(Q:VK)(E':XK):Prop
 |mk (cd:Addr) (v0 vl:V) (cvs:List (List aB×V)) (cm:aC->Option aC) (s x:aC) (ps:List aC):(vs= [.ref cd,v0,vl])->(H cd=some (.dT cvs))->(lW H cvs cm)->(fI H v0 s)->(fI H vl x)->(cL cm s x ps)->(ps.length<=900)->((∀p∈ps,N2 p))->(∀H' l vs',aH H H'->H l=none->H' l=some (.lst vs')->bZ H' vs' ps.reverse->Q (.ref l) H')->yS K vs H Q E'
theorem a1k:bA ["came_from","spot","last","way"] ["came_from","spot","last"] (aO a1l):={}
theorem a7p(T:bC K mg):bH P w K mg base aF 1 "way_to" ["came_from","spot","last"] (yS K):=by
 refine T.d_way_to.known a1k (fun _ _ _ _ _ _ us hl=>gM (fun _ _ _=>rfl) us hl) (fun vs H Q E h=> ?_) (fun f cdv A outer s H vs Q E hr h=> ?_)
 ·obtain⟨cd,v0,vl,cvs,cm,z,x,ps,rfl,_⟩:=h
  rfl
 ·obtain⟨cd,v0,vl,cvs,cm,z,x,ps,rfl,hcd,hcm,h0,hx,hB,h900,hN,q⟩:=h
  have hu:=dO hr
  refine⟨_,(aK (cH (i:=3) a1k.nd rfl (Or.inl rfl) (gW (aA (pv 2) aI)))
   (aK (wP PassesOwn.never (cN (nG hr.units) (cM iD (pv 3) (xZ zI bD) (fun _ _=>rfl)) (pv 1) (cX _)) (aL (cA (kL F.plainAttrs_list F.slot_list_append F.type_list_append jC (pv 3) (aA (fD hu (pv 0) (cM iD (pv 3) (xZ zI bD) (fun _ _=>rfl)) (fun _ _=>rfl)) aI)))))
   (aL (bN (a6J rfl (pv 3) rfl T.list jR rfl T.reversed a7i))))),?_⟩
  refine⟨_,rfl,sl,fun wl hwl=> ?_⟩
  have tup0:∀{H2:Hp},aY wl H H2->∀a xs,H a=some (.tup xs)->H2 a=some (.tup xs):=fun{H2} b a xs e=>b _ _ (bE e hwl) e
  have hNz:N2 z:=by
   have:=hB.last
   exact hN z (List.mem_of_getLast? this)
  refine⟨fun m σ H2=>∃(i:Nat) (ws:List V),σ= [some (.ref cd),some v0,some vl,some (.ref wl)] /\m=ps.length- i/\i<ps.length/\aY wl H H2/\H2 wl=some (.lst ws)/\bZ H2 ws (ps.take (i+ 1)),⟨ps.length,0,[vl],rfl,by omega,?_,fun b o n e=>by rw[aG n];exact e,aJ,?_⟩,?_⟩
  ·have:=(List.getElem?_eq_some_iff.mp hB.head).1
   exact this
  ·rw[oU hB.head]
   exact .cons (hx.same (aH.new hwl)) .nil
  ·rintro m σ H2 ⟨i,ws,rfl,rfl,hi,b2,hw2,hS⟩
   obtain⟨y,hy⟩:∃y,ps[i]?=some y:=⟨_,List.getElem?_eq_getElem hi⟩
   have hyN:N2 y:=hN y (List.mem_of_getElem? hy)
   have hBi:=hB.drop hy
   rw[oU hy]at hS
   obtain⟨ws',v,rfl,hv⟩:=hS.last
   have h02:=h0.mapT (tup0 b2)
   refine⟨_,rfl,_,rfl,wl,_,_,_,rfl,rfl,aN.of hw2,xE _ _,_,rfl,_,_,hv.dt,h02.dt,hyN.lay,hNz.lay,(show max 0 (max 0 0)+ 1<=64 by decide),_,rfl,?_⟩
   rw[yN]
   refine cW (fun g=> ?_) (fun g=> ?_)
   ·have g:y≠z:=by simpa using g
    have hlen:(ps.drop i).length=ps.length- i:=List.length_drop
    generalize hD:ps.drop i=pd at hBi hlen
    cases hBi with
    |nil=>exact absurd rfl g
    | @cons _ u ps' _ hu' hb'=>
     have hps':ps.drop (i+ 1)=ps':=by
      have:(ps.drop i).drop 1=ps':=by rw[hD];rfl
      rw[List.drop_drop]at this
      exact this
     have hi1:ps[i+ 1]?=some u:=by
      have:=hb'.head
      rw[<- hps',List.getElem?_drop]at this
      exact this
     obtain⟨av,rfl,hav⟩:=hv
     rcases hcm y with⟨e,_⟩|⟨u',v',e1,e2,e3⟩
     ·rw[e]at hu';cases hu'
     ·rw[e1]at hu'
      cases hu'
      have hl2:ps.take i++ [y]=ps.take (i+ 1):=(oU hy).symm
      have hwl':(ws'++ [V.ref av]).length<=900:=by
       rw[hS.length,hl2,List.length_take]
       omega
      refine⟨fun σ' H'=>∃(j:Nat) (ws:List V),σ'= [some (.ref cd),some v0,some vl,some (.ref wl)] /\j=i+ 1/\j<ps.length/\aY wl H H'/\H' wl=some (.lst ws)/\bZ H' ws (ps.take (j+ 1)),fun σ' H' ⟨j,ws,h1,h2,h3,h4,h5,h6⟩=>⟨ps.length- j,by omega,j,ws,h1,rfl,h3,h4,h5,h6⟩,?_⟩
      refine⟨_,rfl,.inl ⟨rfl,_,aN.of hw2⟩,_,rfl,_,rfl,_,rfl,wl,_,_,_,rfl,rfl,aN.of hw2,xE _ _,cd,v',rfl,e2▸bW.t (k:=kS y) (b2 _ _ (bE hcd hwl) hcd) hav,wl,_,_,rfl,rfl,hw2,cY (by omega),?_⟩
      have tup2:∀a xs,H2 a=some (.tup xs)->upd H2 wl (.lst (ws'++ [.ref av] ++ [v'])) a=some (.tup xs):=fun a xs e=>by rw[aG (jQ e hw2 (fun z=>by cases z))];exact e
      refine⟨i+ 1,_,rfl,rfl,(List.getElem?_eq_some_iff.mp hi1).1,b2.trans aY.upd,aJ,?_⟩
      rw[oU hi1,<- hl2]
      exact(hS.mapT tup2).snoc ((e3.mapT (tup0 b2)).mapT tup2)
   ·have g:y=z:=by
     by_cases e:y=z
     ·exact e
     ·exact absurd (by simp[e]) g
    subst g
    have hi1:i+ 1=ps.length:=by
     have:=cL.uniq hBi .nil
     have hl:(ps.drop i).length=1:=by rw[this];rfl
     rw[List.length_drop]at hl
     omega
    refine⟨_,rfl,wl,_,rfl,aN.of hw2,fun l hl=> ?_⟩
    have s2:=aH.new (o:=.lst (ws'++ [v]).reverse) hl
    refine q _ l _ (fun b o e=>s2 _ _ (b2 _ _ (bE e hwl) e)) ?_ aJ ?_
    ·cases e:H l with
     |none=>rfl
     |some o=>rw[b2 _ _ (fun z=>by rw[z,hw2]at hl;cases hl) e]at hl;cases hl
    ·have e:ps.take i++ [y]=ps:=by rw[<- oU hy,hi1,List.take_length]
     rw[e]at hS
     exact(hS.same s2).rev
end
theorem a8v{n:Nat}(h:n<3000):n<sizeLine:=Nat.lt_trans h (by decide)
def fF(p q:Addr)(H H':Hp):Prop:=∀b o,b≠p->b≠q->H b=some o->H' b=some o
theorem fF.of{p q:Addr}(s:aH H H'):fF p q H H':=fun b o _ _ e=>s b o e
theorem fF.trans{p q:Addr}(a:fF p q H H1)(b:fF p q H1 H2):fF p q H H2:=fun c o n m e=>b c o n m (a c o n m e)
theorem fF.u1{p q:Addr}:fF p q H (upd H p o):=fun b u n _ e=>by rw[aG n];exact e
theorem fF.u2{p q:Addr}:fF p q H (upd H q o):=fun b u _ n e=>by rw[aG n];exact e
theorem wA(s:aH H H')(h:H' l=none):H l=none:=by
 cases e:H l with
 |none=>rfl
 |some o=>rw[s l o e]at h;cases h
theorem cL.each{s:aC}:∀{x:aC} {ps:List aC},cL cm s x ps->∀p∈ps,p=s\/ ∃u,cm p=some u
 |_,_,.nil,p,hp=> .inl (List.mem_singleton.mp hp)
 |_,_,.cons h e b,p,hp=>by
  rcases List.mem_cons.mp hp with rfl|hp
  ·exact .inr ⟨_,e⟩
  ·exact b.each p hp
structure qB(H:Hp)(gd:Addr)(kvs:List (List aB×V))(adj:aC->List aC):Prop where
 d:H gd=some (.dT kvs)
 a:∀z,(aE kvs (kS z)=none/\adj z= [])\/ ∃l vs,aE kvs (kS z)=some (.ref l)/\H l=some (.lst vs)/\bZ H vs (adj z)
 n:∀z,∀y∈adj z,N2 y
 l:∀z,(adj z).length<=100
theorem qB.same{gd:Addr}{kvs:List (List aB×V)}(s:aH H H')(h:qB H gd kvs adj):qB H' gd kvs adj:=
 ⟨s _ _ h.d,fun z=>(h.a z).imp id fun⟨l,vs,e1,e2,e3⟩=>⟨l,vs,e1,s _ _ e2,e3.same s⟩,h.n,h.l⟩
theorem lW.put{cvs:List (List aB×V)}{y x:aC}{v:V}(h:lW H cvs cm)(hv:fI H v x):lW H (aQ cvs (kS y) v) (fW cm y x):=fun z=>by
 unfold fW
 rw[fQ]
 by_cases e:z=y
 ·rw[if_pos e,if_pos (by rw[e])]
  exact .inr ⟨x,v,rfl,rfl,hv⟩
 ·rw[if_neg e,if_neg (fun h=>e (a0u h))]
  exact h z
theorem a2G{κ:Type} [DecidableEq κ](kvs:List (κ×V))(k:κ)(y:V):(aQ kvs k y).length<=kvs.length+ 1:=by
 unfold aQ
 split
 ·rw[List.length_map];omega
 ·rw[List.length_append];exact Nat.le_refl _
structure nX(H0 H:Hp)(cd fl:Addr)(cvs:List (List aB×V))(cm:aC->Option aC)(nodes:List aC)(fvs:List V)(fz:List aC):Prop where
 s:aH H0 H
 c:H cd=some (.dT cvs)
 o:lW H cvs cm
 l:cvs.length+ iG cm nodes<=nodes.length
 f:H fl=some (.lst fvs)
 z:bZ H fvs fz
theorem nX.same{cd fl:Addr}{cvs:List (List aB×V)}{fvs:List V}(s:aH H H')(h:nX H0 H cd fl cvs cm nodes fvs fz):nX H0 H' cd fl cvs cm nodes fvs fz:=
 ⟨h.s.trans s,s _ _ h.c,h.o.mapT fun a xs e=>s _ _ e,h.l,s _ _ h.f,h.z.same s⟩
section
inductive a0l(K:Fg)(vs:List V)(H:Hp)(Q:VK)(E':XK):Prop
 |mk (gd:Addr) (v0:V) (kvs:List (List aB×V)) (adj:aC->List aC) (s:aC) (nodes:List aC):(vs= [.ref gd,v0])->(qB H gd kvs adj)->(fI H v0 s)->(N2 s)->((∀z,∀y∈adj z,y∈nodes))->(nodes.length<=100)->(∀H',aH H H'->((∀n,¬gH adj s (n+ 1) s)->Q .non H')/\∀l vs' ys,H l=none->H' l=some (.lst vs')->bZ H' vs' ys->mG adj s ys->(∀n,n+ 1<ys.length->¬gH adj s (n+ 1) s)->Q (.ref l) H')->a0l K vs H Q E'
theorem nZ:bA ["leanings","spot","came_from","waiting","farther","leaning","leant"] ["leanings","spot"] (aO a3q):={}
theorem a6z(T:bC K mg):bH P w K mg base aF 2 "ring_from" ["leanings","spot"] (a0l K):=by
 have G_way_to:bH P w K mg base aF 1 "way_to" ["came_from","spot","last"] (yS K):=a7p T
 refine T.d_ring_from.known nZ (fun _ _ _ _ _ _ us hl=>dZ (fun _ _=>rfl) us hl) (fun vs H Q E h=> ?_) (fun f cdv A outer s H vs Q E hr h=> ?_)
 ·obtain⟨gd,v0,kvs,adj,z,nodes,rfl,_⟩:=h
  rfl
 ·obtain⟨gd,v0,kvs,adj,z,nodes,rfl,hG,h0,hzN,hnodes,h100,q⟩:=h
  have hu:=dO hr
  refine⟨_,(aK (cH (i:=2) nZ.nd rfl (Or.inl rfl) rM)
   (aK (cH (i:=3) nZ.nd rfl (Or.inl rfl) (gW (aA (pv 1) aI)))
   (aK (wP PassesOwn.never (a0G (pv 3) (fun _=>rfl)) (aK (cH (i:=4) nZ.nd rfl (Or.inl rfl) (gW aI))
   (aK (kH PassesOwn.never rfl (kA (pv 3)) (fT (i:=5) nZ.nd rfl (Or.inl rfl)) (aL (kH PassesOwn.never rfl (kA (a8K hu (pv 0) (pv 5) (gW aI) ⟨rfl,rfl,rfl,rfl⟩)) (fT (i:=6) nZ.nd rfl (Or.inl rfl))
   (aK (bL (cN (a3X hr.units) (pv 6) (pv 1) (cX _)) (aL (bN (bV G_way_to hr.mn aS (aA (pv 2) (aA (pv 1) (aA (pv 5) aI)))))) bO)
   (aL (bL (iN (lJ hu (pv 6) (pv 2))) (aK (iT hu (pv 2) (pv 6) (pv 5) rfl) (aL (cA (kL F.plainAttrs_list F.slot_list_append F.type_list_append jC (pv 4) (aA (pv 6) aI))))) bO))))))
   (aL (cH (i:=3) nZ.nd rfl (Or.inl rfl) (pv 4))))))
   (aL (bN fZ))))),?_⟩
  intro cd hcd
  have s1:=aH.new (o:=.dT []) hcd
  have hc1:=aJ (H:=H) (a:=cd) (o:=.dT [])
  generalize upd H cd (.dT [])=H1 at s1 hc1|-
  refine⟨_,rfl,sl,fun wl hwl=> ?_⟩
  have s2:=aH.new (o:=.lst [v0]) hwl
  let Wf:Nat->St->Hp->Prop:=fun m σ H2=>∃(r:Nat) (cm:aC->Option aC) (wz:List aC) (cvs:List (List aB×V)) (wl:Addr) (wvs:List V) (o4 o5 o6:Option V),σ= [some (.ref gd),some v0,some (.ref cd),some (.ref wl),o4,o5,o6] /\m=2* iG cm nodes+ (if wz= [] then 0 else 1)/\nX H H2 cd wl cvs cm nodes wvs wz/\H wl=none/\kB adj z nodes r cm wz
  refine⟨Wf,⟨_,0,fun _=>none,[z],[],wl,[v0],_,_,_,rfl,rfl,⟨s1.trans s2,s2 _ _ hc1,fun y=> .inl ⟨rfl,rfl⟩,by have:=xF (fun _=>none) nodes;simpa using this,aJ,.cons (h0.same (s1.trans s2)) .nil⟩,wA s1 hwl,kB.start⟩,?_⟩
  clear hwl s2 wl
  rintro m σ H2 ⟨r,cm,wz,cvs,wl,wvs,o4,o5,o6,rfl,hm,A2,hwl,B⟩
  refine⟨_,rfl,_,.inl ⟨wvs,aN.of A2.f,rfl⟩,?_⟩
  refine cW (fun g=> ?_) (fun g=> ?_)
  ·have hwz:wz≠ []:=fun e=>by
    have:=A2.z.length
    rw[e]at this
    have:wvs= []:=List.length_eq_zero_iff.mp this
    rw[this]at g
    cases g
   refine⟨fun σ' H'=>∃m',m'<m/\Wf m' σ' H',fun σ' H' h=>h,?_⟩
   refine⟨sl,fun fl hfl=> ?_⟩
   have s3:=aH.new (o:=.lst []) hfl
   have A3:nX H (upd H2 fl (.lst [])) cd fl cvs cm nodes [] []:=⟨A2.s.trans s3,s3 _ _ A2.c,A2.o.mapT fun a xs e=>s3 _ _ e,A2.l,aJ,.nil⟩
   have hw3:=s3 _ _ A2.f
   have hwz3:=A2.z.same s3
   have ncf:cd≠fl:=bE A2.c hfl
   have nwf:wl≠fl:=bE A2.f hfl
   have nwc:wl≠cd:=jQ A2.f A2.c (fun z=>by cases z)
   have hfl0:H fl=none:=wA A2.s hfl
   generalize upd H2 fl (.lst [])=H3 at A3 hw3 hwz3|-
   refine⟨_,rfl,wl,rfl,⟨_,aN.of hw3⟩,?_⟩
   refine oY (K:=K) (a:=wl) (xs:=wvs) (fun i σ H4=>∃(cm':aC->Option aC) (fz:List aC) (cvs':List (List aB×V)) (fvs:List V) (o5 o6:Option V),σ= [some (.ref gd),some v0,some (.ref cd),some (.ref wl),some (.ref fl),o5,o6] /\fF cd fl H3 H4/\nX H H4 cd fl cvs' cm' nodes fvs fz/\iF adj z nodes r cm wz i cm' fz)
    ⟨cm,[],cvs,[],_,_,rfl,fF.of (aH.refl _),A3,iF.start B⟩ (by rintro i σ H4 _ ⟨_,_,_,_,_,_,_,b4,_⟩;exact aN.of (b4 _ _ nwc nwf hw3)) ?_ ?_
   ·rintro i x σ H4 hx ⟨cm',fz,cvs',fvs,o5,o6,rfl,b4,A4,M4⟩
    obtain⟨xz,hxz,hxs⟩:=hwz3.at hx
    have tup34:∀a xs,H3 a=some (.tup xs)->H4 a=some (.tup xs):=fun a xs e=>b4 _ _ (jQ e A3.c (fun z=>by cases z)) (jQ e A3.f (fun z=>by cases z)) e
    have hx4:=hxs.mapT tup34
    have hG4:=hG.same A4.s
    obtain⟨ax,rfl,hax⟩:=hx4
    refine⟨_,rfl,gd,rfl,.inr ⟨kvs,.inl hG4.d⟩,_,rfl,sl,fun dl hdl=> ?_⟩
    have s5:=aH.new (o:=.lst []) hdl
    have hdl5:=aJ (H:=H4) (a:=dl) (o:=.lst [])
    have A5:=A4.same s5
    have b5:fF cd fl H3 (upd H4 dl (.lst [])):=b4.trans (fF.of s5)
    have ndc:dl≠cd:=fun e=>by rw[e,A4.c]at hdl;cases hdl
    have ndf:dl≠fl:=fun e=>by rw[e,A4.f]at hdl;cases hdl
    have hG5:=hG4.same s5
    have hax5:=s5 _ _ hax
    generalize upd H4 dl (.lst [])=H5 at s5 hdl5 A5 b5 hG5 hax5|-
    obtain⟨la,avs,hget,hla,hSa,nlc,nlf⟩:∃(la:Addr) (avs:List V),(aE kvs (kS xz)).getD (.ref dl)= .ref la/\H5 la=some (.lst avs)/\bZ H5 avs (adj xz)/\la≠cd/\la≠fl:=by
     rcases hG.a xz with⟨e1,e2⟩|⟨l,vs,e1,e2,e3⟩
     ·exact⟨dl,[],by rw[e1];rfl,hdl5,by rw[e2];exact .nil,ndc,ndf⟩
     ·have hs:=A5.s
      exact⟨l,vs,by rw[e1];rfl,hs _ _ e2,e3.same hs,bE e2 hcd,bE e2 hfl0⟩
    refine⟨_,bW.t (k:=kS xz) hG5.d hax5,?_⟩
    refine⟨la,hget,⟨_,aN.of hla⟩,?_⟩
    have hxw:xz∈wz:=List.mem_of_getElem? hxz
    refine oY (K:=K) (a:=la) (xs:=avs) (fun j σ H6=>∃(cm':aC->Option aC) (fz:List aC) (cvs':List (List aB×V)) (fvs:List V) (o6:Option V),σ= [some (.ref gd),some v0,some (.ref cd),some (.ref wl),some (.ref fl),some (.ref ax),o6] /\fF cd fl H5 H6/\nX H H6 cd fl cvs' cm' nodes fvs fz/\iF adj z nodes r cm wz i cm' fz/\∀y∈(adj xz).take j,y≠z/\(cm' y).isSome)
     ⟨cm',fz,cvs',fvs,_,rfl,fF.of (aH.refl _),A5,M4,fun y hy=>by simp at hy⟩ (by rintro j σ H6 _ ⟨_,_,_,_,_,_,b6,_⟩;exact aN.of (b6 _ _ nlc nlf hla)) ?_ ?_
    ·have hc5:=A5.c
     have hf5:=A5.f
     clear A4 M4 A5
     rintro j y σ H6 hy ⟨cm',fz,cvs',fvs,o6,rfl,b6,A6,M6,D6⟩
     obtain⟨yz,hyz,hys⟩:=hSa.at hy
     have tup56:∀a xs,H5 a=some (.tup xs)->H6 a=some (.tup xs):=fun a xs e=>b6 _ _ (jQ e hc5 (fun z=>by cases z)) (jQ e hf5 (fun z=>by cases z)) e
     have hy6:=hys.mapT tup56
     have hx6:=tup56 _ _ hax5
     have h06:=h0.same A6.s
     have hya:yz∈adj xz:=List.mem_of_getElem? hyz
     have hyN:=hG.n xz yz hya
     refine⟨_,rfl,_,rfl,_,_,hy6.dt,h06.dt,hyN.lay,hzN.lay,(show max 0 (max 0 0)+ 1<=64 by decide),_,rfl,?_⟩
     rw[yN]
     refine cW (fun g1=> ?_) (fun g1=> ?_)
     ·have g1:yz=z:=by simpa using g1
      subst g1
      obtain⟨ps,hB,hl⟩:=B.d xz hxw
      have hB':=hB.ext M6.e
      have hbl:r<=100:=by
       rcases B.b with b|b
       ·exact absurd b hwz
       ·omega
      refine⟨_,rfl,_,rfl,_,rfl,cd,v0,.ref ax,cvs',cm',yz,xz,ps,rfl,A6.c,A6.o,h06,⟨ax,rfl,hx6⟩,hB',by omega,fun p hp=> ?_,fun H' l vs' s7 hl' hl7 hS=> ?_⟩
      ·rcases hB'.each p hp with e|⟨u,e⟩
       ·rw[e];exact hzN
       ·exact hG.n u p (M6.c p u e).1
      ·exact(q H' (A6.s.trans s7)).2 l vs' ps.reverse (wA A6.s hl') hl7 hS (hB'.ring (fun z u h=>(M6.c z u h).1) hya) fun n hn=>B.n n (by rw[List.length_reverse]at hn;omega)
     ·have g1:yz≠z:=by simpa using g1
      obtain⟨ay,rfl,hay⟩:=hy6
      refine⟨_,rfl,_,rfl,cd,_,rfl,bW.t (k:=kS yz) A6.c hay,_,rfl,?_⟩
      have tk:(adj xz).take (j+ 1)=(adj xz).take j++ [yz]:=oU hyz
      rcases A6.o yz with⟨c1,c2⟩|⟨u,v,c1,c2,c3⟩
      ·rw[c2]
       refine cQ ?_
       have hl6:=A6.l
       have hMl:=M6.l
       have hll:=xF cm nodes
       refine⟨_,rfl,_,rfl,_,rfl,cd,_,rfl,gC.t (k:=kS yz) A6.c hay (a8v (by omega)),?_⟩
       have s7:aH H (upd H6 cd (.dT (aQ cvs' (kS yz) (.ref ax)))):=A6.s.on hcd
       have hf7:upd H6 cd (.dT (aQ cvs' (kS yz) (.ref ax))) fl=some (.lst fvs):=by rw[aG ncf.symm];exact A6.f
       have tup67:∀a xs,H6 a=some (.tup xs)->upd H6 cd (.dT (aQ cvs' (kS yz) (.ref ax))) a=some (.tup xs):=fun a xs e=>by rw[aG (jQ e A6.c (fun z=>by cases z))];exact e
       have hc7:=aJ (H:=H6) (a:=cd) (o:=.dT (aQ cvs' (kS yz) (.ref ax)))
       have b7:fF cd fl H5 (upd H6 cd (.dT (aQ cvs' (kS yz) (.ref ax)))):=b6.trans fF.u1
       generalize upd H6 cd (.dT (aQ cvs' (kS yz) (.ref ax)))=H7 at s7 hf7 tup67 hc7 b7|-
       have hfz:fvs.length<=100:=by rw[A6.z.length];omega
       refine⟨_,rfl,.inl ⟨rfl,_,aN.of hf7⟩,_,rfl,fl,_,_,rfl,rfl,hf7,cY (by omega),?_⟩
       have tup78:∀a xs,H7 a=some (.tup xs)->upd H7 fl (.lst (fvs++ [.ref ay])) a=some (.tup xs):=fun a xs e=>by rw[aG (jQ e hf7 (fun z=>by cases z))];exact e
       have tup68:=fun a xs e=>tup78 a xs (tup67 a xs e)
       have M8:=M6.put B hxw hya g1 c1 (hnodes xz yz hya)
       refine⟨fW cm' yz xz,fz++ [yz],aQ cvs' (kS yz) (.ref ax),fvs++ [.ref ay],_,rfl,b7.trans fF.u2,⟨s7.on hfl0,by rw[aG ncf];exact hc7,(A6.o.mapT tup68).put ⟨ax,rfl,tup68 _ _ hx6⟩,?_,aJ,(A6.z.mapT tup68).snoc ⟨ay,rfl,tup68 _ _ hay⟩⟩,M8,fun y' hy'=> ?_⟩
       ·have h1:=a2G cvs' (kS yz) (.ref ax)
        have h2:=wB (cm:=cm') (cm':=fW cm' yz xz) (y:=yz) (fun x h=>by unfold fW;split<;>simp_all) c1 (by unfold fW;rw[if_pos rfl];rfl) (hnodes xz yz hya)
        omega
       ·rw[tk]at hy'
        rcases List.mem_append.mp hy' with h|h
        ·obtain⟨d1,d2⟩:=D6 y' h
         exact⟨d1,by unfold fW;split<;>simp_all⟩
        ·rw[List.mem_singleton.mp h]
         exact⟨g1,by unfold fW;rw[if_pos rfl];rfl⟩
      ·rw[c2]
       refine bI ?_
       refine⟨cm',fz,cvs',fvs,_,rfl,b6,A6,M6,fun y' hy'=> ?_⟩
       rw[tk]at hy'
       rcases List.mem_append.mp hy' with h|h
       ·exact D6 y' h
       ·rw[List.mem_singleton.mp h]
        exact⟨g1,by rw[c1];rfl⟩
    ·rintro σ H6 ⟨cm',fz,cvs',fvs,o6,rfl,b6,A6,M6,D6⟩
     refine⟨cm',fz,cvs',fvs,_,_,rfl,b5.trans b6,A6,M6.next hxz fun y hy=>D6 y ?_⟩
     rw[hSa.length,List.take_length]
     exact hy
   ·rintro σ H4 ⟨cm',fz,cvs',fvs,o5,o6,rfl,b4,A4,M4⟩
    rw[hwz3.length]at M4
    have B':=M4.over B hwz
    have hMl:=M4.l
    refine⟨_,rfl,_,?_,r+ 1,cm',fz,cvs',fl,fvs,_,_,_,rfl,rfl,A4,hfl0,B'⟩
    rw[hm,if_neg hwz]
    by_cases e:fz= []
    ·rw[if_pos e]
     omega
    ·rw[if_neg e]
     have:0<fz.length:=List.length_pos_iff.mpr e
     omega
  ·have hwz:wz= []:=by
    have:=A2.z.length
    cases wvs with
    |nil=>exact List.length_eq_zero_iff.mp this.symm
    |cons=>exact absurd rfl g
   subst hwz
   exact(q H2 A2.s).1 B.over
inductive zT(K:Fg)(vs:List V)(H:Hp)(Q:VK)(E':XK):Prop
 |mk (p C dx:Addr) (fs:List (Str×V)) (v:V):(vs= [.ref p,v])->(H p=some (.ins C dx fs))->(cF K C)->(cB K C "function")->(fs.length<1000)->(Q .non (upd H p (.ins C dx (aM "function" v fs))))->zT K vs H Q E'
theorem a50:bA ["self","function"] ["self","function"] (aO a1M):={}
theorem a5O(T:bC K mg)(Y:uC K mg C):aR P w K mg base aF 1 C "__init__" ["self","function"] (zT K):=by
 refine Y.m_init.known a50 (fun _ _ _ _ _ _ us hl=>dZ (fun _ _=>rfl) us hl) (fun vs H Q E h=> ?_) (fun f cdv A outer s H vs Q E hr h=> ?_)
 ·obtain⟨p,C',dx,fs,v,rfl,_⟩:=h
  rfl
 ·obtain⟨p,C',dx,fs,v,rfl,hp,hC,hN,hl,q⟩:=h
  refine⟨_,(aL (cR (pv 0) (pv 1) rfl)),?_⟩
  exact⟨_,rfl,_,rfl,p,C',dx,fs,rfl,hp,hC,hN,hl,q⟩
def gK(nl fa:Addr):List (Str×V):=[("function",V.ref fa),("names",V.ref nl)]
theorem nI(nl fa:Addr):(gK nl fa).lookup ("function":Str)=some (.ref fa)/\(gK nl fa).lookup ("names":Str)=some (.ref nl)/\(gK nl fa).lookup ("leans":Str)=none/\(gK nl fa).lookup ("gather":Str)=none/\(gK nl fa).lookup ("reckon":Str)=none:=⟨rfl,rfl,rfl,rfl,rfl⟩
inductive xA(K:Fg)(C:Addr)(vs:List V)(H:Hp)(Q:VK)(E':XK):Prop
 |mk (p dx a fa:Addr) (zs:List Str):(vs= [.ref p,.ref a,.ref fa])->(H p=some (.ins C dx []))->(aN K H a (zs.map V.str))->(a≠p)->(zs.length<=6)->((∀z∈zs,Nl z))->(∀H' nl,aY p H H'->H nl=none->H' p=some (.ins C dx (gK nl fa))->H' nl=some (.lst (zs.map V.str))->Q .non H')->xA K C vs H Q E'
theorem a8z:bA ["self","names","function"] ["self","names","function"] (aO a2I):={}
theorem a8B(T:bC K mg){R:Addr}(Z:uC K mg R)(Y:lE K mg C):eM P w K mg base aF 4 C ["self","names","function"] (xA K C):=by
 have G_init:aR P w K mg base aF 1 R "__init__" ["self","function"] (zT K):=a5O T Z
 have G_names:bH P w K mg base aF 3 "checked_names" ["names"] (wC K):=a6h T
 refine(Y.m_init.known a8z (fun _ _ _ _ _ _ us hl=>gM (fun _ _ _=>rfl) us hl) (fun vs H Q E h=> ?_) (fun f cdv A outer s H vs Q E hr h=> ?_)).init Y.mks Y.kc
 ·obtain⟨p,dx,a,fa,zs,rfl,_⟩:=h
  rfl
 ·obtain⟨p,dx,a,fa,zs,rfl,hp,hS,nap,z6,hz,q⟩:=h
  refine⟨_,(aK (cA (a7U (zL Z.c) Z.v_init G_init hr.mn aS (aA (pv 0) (aA (pv 2) aI))))
   (aL (cR (pv 0) (bV G_names hr aS (aA (pv 1) aI)) rfl))),?_⟩
  refine⟨_,rfl,_,rfl,p,C,dx,[],.ref fa,rfl,hp,Y.cl,Y.n_function,by decide,?_⟩
  have b1:aY p H (upd H p (.ins C dx (aM "function" (.ref fa) []))):=aY.upd
  have p1:upd H p (.ins C dx (aM "function" (.ref fa) [])) p=some (.ins C dx (aM "function" (.ref fa) [])):=aJ
  have n1:∀{b:Addr},upd H p (.ins C dx (aM "function" (.ref fa) [])) b=none->H b=none/\b≠p:=jT
  generalize upd H p (.ins C dx (aM "function" (.ref fa) []))=H1 at b1 p1 n1|-
  have hS1:aN K H1 a (zs.map V.str):=by
   rcases hS with(h|⟨o,h⟩)|h
   ·exact .inl (.inl (b1 _ _ nap h))
   ·exact .inl (.inr ⟨o,b1 _ _ nap h⟩)
   ·exact .inr h
  refine⟨_,rfl,a,zs,rfl,hS1,z6,hz,fun H2 nl s2 hnl h2=> ?_⟩
  obtain⟨hn0,nnp⟩:=n1 hnl
  refine⟨_,rfl,p,C,dx,_,rfl,s2 _ _ p1,Y.cl,Y.n_names,(by show 1<1000;decide),?_⟩
  exact q _ nl ((b1.trans (aY.of s2)).trans aY.upd) hn0 aJ (by rw[aG nnp];exact h2)
inductive a0f(vs:List V)(H:Hp)(Q:VK)(E':XK):Prop
 |mk (a:Addr) (xs:List V) (zs:List aC):(vs= [.ref a])->(H a=some (.lst xs))->(bZ H xs zs)->((∀z∈zs,N2 z))->(zs.length<=100)->(∀H' l ys,aH H H'->H l=none->H' l=some (.lst ys)->bZ H' ys (fA zs)->Q (.ref l) H')->a0f vs H Q E'
theorem a40(T:bC K mg):bH P w K mg base aF 2 "each_once" ["spots"] a0f:=by
 refine T.d_each_once.known vU (fun _ _ _ _ _ _ us hl=>fK (fun _=>rfl) us hl) (fun vs H Q E h=> ?_) (fun f cdv A outer s H vs Q E hr h=> ?_)
 ·obtain⟨a,xs,ps,rfl,_⟩:=h
  rfl
 ·obtain⟨a,xs,ps,rfl,ha,hsp,hN,h100,q⟩:=h
  refine⟨_,(aK (cH (i:=1) vU.nd rfl (Or.inl rfl) (gW aI))
   (aK (kH PassesOwn.never rfl (kA (pv 0)) (fT (i:=2) vU.nd rfl (Or.inl rfl)) (aL (bL (cN (a42 hr.units) (pv 2) (pv 1) (by with_unfolding_all rfl)) (aL (cA (kL F.plainAttrs_list F.slot_list_append F.type_list_append jC (pv 1) (aA (pv 2) aI)))) bO)))
   (aL (bN (pv 1))))),?_⟩
  have hq:aN K H a xs:=aN.of ha
  have hlx:xs.length=ps.length:=hsp.length
  refine⟨sl,fun l hl=> ?_⟩
  refine⟨_,rfl,a,rfl,⟨_,(aH.new hl).seq hq⟩,?_⟩
  refine oY (K:=K) (a:=a) (xs:=xs) (fun i σ H2=>∃o ys,σ= [some (.ref a),some (.ref l),o] /\aH H H2/\H2 l=some (.lst ys)/\bZ H ys (fA (ps.take i))) ⟨_,[],rfl,aH.new hl,aJ,.nil⟩ (fun i σ H2 _ ⟨_,_,_,s2,_⟩=>s2.seq hq) ?_ ?_
  ·rintro i x σ H2 hx ⟨o,ys,rfl,s2,h2,hd⟩
   obtain⟨p,e,hp2⟩:=hsp.at hx
   have hp:=List.mem_of_getElem? e
   have hle:=hd.length
   have hyl:ys.length<=100:=by
    have h3:=xT (ps.take i)
    rw[List.length_take]at h3
    omega
   have lay2:(PyData.list ((fA (ps.take i)).map gX)).canLay0=true:=a1a fun p' hp'=>hN p' (List.mem_of_mem_take (a1L hp'))
   have et:fA (ps.take (i+ 1))=if p∈fA (ps.take i) then fA (ps.take i) else fA (ps.take i)++ [p]:=by
    rw[List.take_add_one,e]
    exact a6e _ _
   refine⟨_,rfl,_,rfl,gX p,_,(fI.dt hp2).same s2,Dt.lst (aN.of h2) (dI.same s2 (bZ.dt hd)),wH (hN p hp).1 (hN p hp).2,lay2,(show max 0 (max 0 0)+ 1<=62 by decide),_,rfl,?_⟩
   rw[a3H]
   by_cases hm:p∈fA (ps.take i)
   ·rw[decide_eq_true hm]
    rw[if_pos hm]at et
    exact bI ⟨_,ys,rfl,s2,h2,by rw[et];exact hd⟩
   ·rw[decide_eq_false hm]
    rw[if_neg hm]at et
    refine cQ ?_
    refine⟨_,rfl,.inl ⟨rfl,_,aN.of h2⟩,_,rfl,l,_,_,rfl,rfl,h2,cY (by omega),?_⟩
    have s3:aH H (upd H2 l (.lst (ys++ [x]))):=s2.on hl
    refine⟨_,ys++ [x],rfl,s3,aJ,?_⟩
    rw[et]
    exact hd.snoc hp2
  ·rintro σ H2 ⟨o,ys,rfl,s2,h2,hd⟩
   refine⟨_,rfl,q H2 l ys s2 hl h2 ?_⟩
   rw[hlx,List.take_length]at hd
   exact hd.same s2
inductive sF(C:Addr)(vs:List V)(H:Hp)(Q:VK)(E':XK):Prop
 |mk (p dx nl fa:Addr) (t:Str) (zs:List Str):(vs= [.ref p,.str t])->(H p=some (.ins C dx (gK nl fa)))->(H nl=some (.lst (zs.map V.str)))->(zs.length<=6)->((∀z∈zs,Nl z))->(Nl t)->(∀H' l ys,aH H H'->H l=none->H' l=some (.lst ys)->bZ H' ys (fA (zs.map fun z=>(t,z)))->Q (.ref l) H')->sF C vs H Q E'
theorem a7Y:bA ["self","table"] ["self","table"] (aO rS):={}
theorem a4H(T:bC K mg)(Y:lE K mg C):aR P w K mg base aF 3 C "leans" ["self","table"] (sF C):=by
 have G_each_once:bH P w K mg base aF 2 "each_once" ["spots"] a0f:=a40 T
 refine Y.m_leans.known a7Y (fun _ _ _ _ _ _ us hl=>dZ (fun _ _=>rfl) us hl) (fun vs H Q E h=> ?_) (fun f cdv A outer s H vs Q E hr h=> ?_)
 ·obtain⟨p,dx,nl,fa,t,zs,rfl,_⟩:=h
  rfl
 ·obtain⟨p,dx,nl,fa,t,zs,rfl,h1,h4,h6,h5,ht,q⟩:=h
  have hcl:∀x,(dM aF P w K mg base ["self","table"] "Cells.leans" (aO rS) f cdv A outer s H E).nox.env.scope.names.lookup x=some .cell->∃c,(dM aF P w K mg base ["self","table"] "Cells.leans" (aO rS) f cdv A outer s H E).nox.env.cells.lookup x=some c:=fun x hx=>Option.isSome_iff_exists.mp (W.cellsFrom_some _ _ _ (.inl hx))
  refine⟨_,(aL (bN (bV G_each_once hr.mn aS (aA (oP (mC (sc:=aO rS) (N:=["self","table"]) (cp:=[(1,"table")]) hcl) rfl rfl (by decide) (kA (aW (pv 0) rfl)) (fun _ _ _ _ _=>mD) (fun _ _ _ _ _=>(fV (aA (pv 1) (aA (pv 0) aI))))) aI)))),?_⟩
  refine⟨_,rfl,p,C,dx,_,_,rfl,h1,Y.cl,Y.n_names,(nI nl fa).2.1,nl,rfl,⟨_,aN.of h4⟩,fun D hD=> ?_⟩
  refine sV (K:=K) (a:=nl) (xs:=zs.map V.str) (fun i ys H2=>aH H H2/\bZ H2 ys ((zs.take i).map fun z=>(t,z))) ⟨aH.new hD,.nil⟩ (by rintro i ys H2 _ ⟨s2,_⟩;exact aN.of (s2 _ _ h4)) ?_ ?_
  ·rintro i x ys H2 hx h2D ⟨s2,hd⟩
   rw[List.getElem?_map]at hx
   cases e:zs[i]? with
   |none=>rw[e]at hx;cases hx
   |some z=>
    rw[e]at hx
    cases hx
    have hi:i<zs.length:=(List.getElem?_eq_some_iff.mp e).1
    have hyl:ys.length<=6:=by
     have:=hd.length
     rw[List.length_map,List.length_take]at this
     omega
    refine⟨_,rfl,_,rfl,sl,fun tp htp=> ?_⟩
    have s3:aH H2 (upd H2 tp (.tup [.str t,.str z])):=aH.new htp
    have t3:upd H2 tp (.tup [.str t,.str z]) tp=some (.tup [.str t,.str z]):=aJ
    generalize upd H2 tp (.tup [.str t,.str z])=H3 at s3 t3|-
    have h3D:=s3 _ _ h2D
    refine⟨h3D,cY (by omega),(s2.trans s3).on hD,?_⟩
    have kt:∀a xs,H3 a=some (.tup xs)->upd H3 D (.lst (ys++ [.ref tp])) a=some (.tup xs):=fun a xs e=>by
     rw[aG (fun y=>by rw[y,h3D]at e;cases e)]
     exact e
    have et:((zs.take (i+ 1)).map fun z=>(t,z))=((zs.take i).map fun z=>(t,z))++ [(t,z)]:=by
     rw[List.take_add_one,e,List.map_append]
     rfl
    rw[et]
    exact((hd.same s3).mapT kt).snoc ⟨tp,rfl,kt _ _ t3⟩
  ·rintro ys H2 h2D ⟨s2,hd⟩
   rw[List.length_map,List.take_length]at hd
   refine⟨D,ys,_,rfl,h2D,hd,fun z hz=> ?_,by rw[List.length_map];omega,fun H4 l' ys' s4 hl' h4' hs=> ?_⟩
   ·obtain⟨y,hy,rfl⟩:=List.mem_map.mp hz
    exact⟨ht,h5 y hy⟩
   ·exact q H4 l' ys' (s2.trans s4) (iM s2 hl') h4' hs
inductive vT(CS CB CT:Addr)(vs:List V)(H:Hp)(Q:VK)(E':XK):Prop
 |mk (s bd ch fi dx l:Addr) (sv:V) (kb:List (aB×V)) (ys:List V) (zs:List aC):(vs= [.ref s,sv,.ref l])->(H s=some (.ins CS dx (dW bd ch fi)))->(H bd=some (.dK kb))->(H l=some (.lst ys))->(bZ H ys zs)->((∀z∈zs,N2 z/\∃B:BM,aE kb (.inr z.1:aB)=some (.ref B.b)/\cD CB CT H B/\z.2∈B.ord))->(∀H',aH H H'->Q .non H')->vT CS CB CT vs H Q E'
theorem sT:bA ["self","spot","leans","table","column","there"] ["self","spot","leans"] (aO a3r):={}
theorem a5h(T:bC K mg)(Y:gA K mg CS)(W:cV K mg CB):aR P w K mg base aF 3 CS "check_leans" ["self","spot","leans"] (vT CS CB CT):=by
 have G_has:aR P w K mg base aF 2 CB "has_column" ["self","column"] (uD CB CT):=a3I T W
 refine Y.m_check_leans.known sT (fun _ _ _ _ _ _ us hl=>gM (fun _ _ _=>rfl) us hl) (fun vs H Q E h=> ?_) (fun f cdv A outer s H vs Q E hr h=> ?_)
 ·obtain⟨s',bd,ch,fi,dx,l,sv,kb,ys,zs,rfl,_⟩:=h
  rfl
 ·obtain⟨s',bd,ch,fi,dx,l,sv,kb,ys,zs,rfl,h1,h2,h3,hz,hb,q⟩:=h
  have hu:=dO hr
  refine⟨_,(aL (kH PassesOwn.never rfl (kA (pv 2)) (wJ rfl (nF (fT (i:=3) sT.nd rfl (Or.inl rfl)) (nF (fT (i:=4) sT.nd rfl (Or.inl rfl)) zR)))
   (aK (cH (i:=5) sT.nd rfl (Or.inl rfl) (pC (vR (nV hu (pv 3) (aW (pv 0) rfl))) (oJ (cC (fD hu (aW (pv 0) rfl) (pv 3) (fun _ _=>rfl)) W.cl G_has hr aS (aA (pv 4) aI)))))
   (aL (bL (PW.pt (oQ (eV (eF (pv 5) (fun _=>rfl))) (oV (cN (nG hr.units) (fV (aA (pv 3) (aA (pv 4) aI))) (pv 1) (cX _))))) (aL cE) bO))))),?_⟩
  refine⟨_,rfl,l,rfl,⟨_,aN.of h3⟩,?_⟩
  refine oY (K:=K) (a:=l) (xs:=ys) (fun i σ H2=>∃o3 o4 o5,σ= [some (.ref s'),some sv,some (.ref l),o3,o4,o5] /\aH H H2) ⟨_,_,_,rfl,aH.refl _⟩ (by rintro i σ H2 _ ⟨_,_,_,_,s2⟩;exact aN.of (s2 _ _ h3)) ?_ ?_
  ·rintro i x σ H2 hx ⟨o3,o4,o5,rfl,s2⟩
   obtain⟨z,e,hz2⟩:=hz.at hx
   obtain⟨a,rfl,ha⟩:=hz2.same s2
   obtain⟨nz,B,b1,b2,b3⟩:=hb z (List.mem_of_getElem? e)
   have hB2:=b2.same s2
   obtain⟨dB,hB⟩:=hB2.at_
   refine⟨a,_,rfl,bU.of ha,rfl,_,_,rfl,_,_,rfl,rfl,?_⟩
   refine⟨_,rfl,_,rfl,s',CS,dx,_,_,rfl,s2 _ _ h1,Y.cl,Y.n_boards,(lI _ _ _).1,bd,_,rfl,bW.k (k:=Sum.inr z.1) (s2 _ _ h2),?_⟩
   rw[b1]
   refine⟨_,rfl,cQ ?_⟩
   refine⟨_,rfl,s',CS,dx,_,_,rfl,s2 _ _ h1,Y.cl,Y.n_boards,(lI _ _ _).1,_,rfl,bd,_,rfl,b1▸bW.k (k:=Sum.inr z.1) (s2 _ _ h2),B.b,dB,_,rfl,hB,nH,_,rfl,B,z.2,rfl,hB2,nz.2,fun H3 s3=> ?_⟩
   rw[decide_eq_true b3]
   exact⟨_,rfl,_,rfl,bI ⟨_,_,_,rfl,s2.trans s3⟩⟩
  ·rintro σ H2 ⟨o3,o4,o5,rfl,s2⟩
   exact q H2 s2
theorem vN{κ:Type} [DecidableEq κ]:∀{kvs:List (κ×V)} {kv:κ×V},(kvs.map (·.1)).Nodup->kv∈kvs->aE kvs kv.1=some kv.2
 | [],_,_,h=>by cases h
 |x::xs,kv,nd,h=>by
  rw[List.map_cons,List.nodup_cons]at nd
  unfold aE
  rcases List.mem_cons.mp h with rfl|h
  ·simp[List.find?]
  ·have ne:¬x.1=kv.1:=fun y=>nd.1 (y▸List.mem_map.mpr ⟨kv,h,rfl⟩)
   have ih:=vN nd.2 h
   unfold aE at ih
   rw[List.find?_cons_of_neg (by simpa using ne)]
   exact ih
def iJ(H H':Hp):Prop:=∀b o,((∃C dx fs,o= .ins C dx fs)\/ ∃xs,o= .lst xs)->H b=some o->H' b=some o
theorem iJ.of(s:aH H H'):iJ H H':=fun b o _ e=>s _ _ e
theorem iJ.trans(a:iJ H H1)(b:iJ H1 H2):iJ H H2:=fun x o h e=>b _ _ h (a _ _ h e)
def pV(spl:Sp)(gr:Addr)(nm:Str)(ys:List aC)(H:Hp):Prop:=∀(Hb:Hp) (Q':VK),iJ H Hb->(∀H' l vs,aH Hb H'->Hb l=none->H' l=some (.lst vs)->bZ H' vs ys->Q' (.ref l) H')->spl [.ref gr,.str nm] Hb Q' E0
theorem a14{gr nl:Addr}{nm:Str}{zs:List Str}(h1:H gr=some (.ins C dx (gK nl fa)))(h2:H nl=some (.lst (zs.map V.str)))(z6:zs.length<=6)(hz:∀z∈zs,Nl z)(ht:Nl nm):pV (sF C) gr nm (fA (zs.map fun z=>(nm,z))) H:=
 fun Hb Q' k q=>⟨gr,dx,nl,fa,nm,zs,rfl,k _ _ (.inl ⟨_,_,_,rfl⟩) h1,k _ _ (.inr ⟨_,rfl⟩) h2,z6,hz,ht,q⟩
inductive oT(CB CT CG bd:Addr)(spl:Sp)(gl:List aC)(H:Hp)(kv:aB×V):Prop
 |mk (nm:Str) (B:BM):(kv=((.inr nm:aB),V.ref B.b))->(Nl nm)->(cD CB CT H B)->(bd≠B.ru)->((B.rus.map (·.1)).Nodup)->(B.rus.length<=8)->(∀rv∈B.rus,∃(c:Str) (gr dx:Addr) (fs:List (Str×V)) (ys:List aC),rv=((.inr c:aB),V.ref gr)/\Nl c/\H gr=some (.ins CG dx fs)/\fs.lookup ("leans":Str)=none/\pV spl gr nm ys H/\(∀y∈ys,N2 y/\y∈gl)/\ys.length<=100)->oT CB CT CG bd spl gl H kv
inductive yB(CS CB CT CG:Addr)(spl:Sp)(vs:List V)(H:Hp)(Q:VK)(E':XK):Prop
 |mk (s bd ch fi dx l:Addr) (sv:V) (kb:List (aB×V)) (ys:List V) (sp:aC) (zs gl:List aC):(vs= [.ref s,sv,.ref l])->(H s=some (.ins CS dx (dW bd ch fi)))->(H bd=some (.dK kb))->((kb.map (·.1)).Nodup)->(kb.length<=4)->(H l=some (.lst ys))->(bZ H ys zs)->((∀z∈zs,N2 z/\z∈gl))->(zs.length<=100)->(fI H sv sp)->(N2 sp)->(sp∉gl)->(gl.length<=100)->((∀kv∈kb,oT CB CT CG bd spl gl H kv))->(∀H',aH H H'->Q .non H')->yB CS CB CT CG spl vs H Q E'
abbrev Ncr:List Str:=["self","spot","leans","leanings","table","rules","column","found"]
theorem pX:bA Ncr ["self","spot","leans"] (aO a1K):={}
def iO(gl:List aC)(n:Nat)(gd:Addr)(H:Hp):Prop:=∃kvs adj,qB H gd kvs adj/\(∀z,∀y∈adj z,y∈gl)/\kvs.length<=n
theorem iO.put{gl:List aC}{n:Nat}{gd:Addr}{z:aC}{ys:List aC}{kvs:List (List aB×V)}(g:qB H gd kvs adj)(ha:∀z,∀y∈adj z,y∈gl)(hn:kvs.length<=n)(u:aY gd H H')(e:H' gd=some (.dT (aQ kvs (kS z) (.ref l))))(hl:H l=some (.lst vs))(hs:bZ H vs ys)(hy:∀y∈ys,N2 y/\y∈gl)(h100:ys.length<=100):iO gl (n+ 1) gd H':=by
 have k:∀{x:Addr} {o:HO},H x=some o->(∀y,o≠ .dT y)->H' x=some o:=fun e2 n=>u _ _ (fun y=>by rw[y,g.d]at e2;exact n _ (Option.some.inj e2).symm) e2
 have kt:∀a xs,H a=some (.tup xs)->H' a=some (.tup xs):=fun a xs e2=>k e2 nk
 refine⟨aQ kvs (kS z) (.ref l),fun x=>if x=z then ys else adj x,⟨e,fun x=> ?_,fun x y hm=> ?_,fun x=> ?_⟩,fun x y hm=> ?_,Nat.le_trans (a2G _ _ _) (by omega)⟩
 ·rw[fQ]
  by_cases h:x=z
  ·rw[if_pos (by rw[h])]
   exact .inr ⟨l,vs,rfl,k hl nk,by show bZ H' vs (if x=z then ys else adj x);rw[if_pos h];exact hs.mapT kt⟩
  ·rw[if_neg (fun y=>h (a0u y))]
   rcases g.a x with⟨a1,a2⟩|⟨l',vs',a1,a2,a3⟩
   ·exact .inl ⟨a1,by show(if x=z then ys else adj x)= [];rw[if_neg h];exact a2⟩
   ·exact .inr ⟨l',vs',a1,k a2 nk,by show bZ H' vs' (if x=z then ys else adj x);rw[if_neg h];exact a3.mapT kt⟩
 ·have hm:y∈(if x=z then ys else adj x):=hm
  split at hm
  ·exact(hy y hm).1
  ·exact g.n x y hm
 ·show(if x=z then ys else adj x).length<=100
  split
  ·exact h100
  ·exact g.l x
 ·have hm:y∈(if x=z then ys else adj x):=hm
  split at hm
  ·exact(hy y hm).2
  ·exact ha x y hm
theorem iO.mv{gl:List aC}{n:Nat}{gd:Addr}(u:∀b o,(∀y,o≠ .dK y)->(∀q y,o≠ .frz q y)->H b=some o->H' b=some o)(h:iO gl n gd H):iO gl n gd H':=by
 obtain⟨kvs,adj,g,h1,h2⟩:=h
 exact⟨kvs,adj,⟨u _ _ nk (fun _ _ y=>by cases y) g.d,fun z=>(g.a z).imp id fun⟨l,vs,e1,e2,e3⟩=>⟨l,vs,e1,u _ _ nk (fun _ _ y=>by cases y) e2,e3.mapT fun a xs e=>u _ _ nk (fun _ _ y=>by cases y) e⟩,g.n,g.l⟩,h1,h2⟩
theorem a3M(T:bC K mg)(Y:gA K mg CS)(W:cV K mg CB)(clG:cF K CG)(G_le:aR P w K mg base aF 3 CG "leans" ["self","table"] spl):aR P w K mg base aF 4 CS "check_ring" ["self","spot","leans"] (yB CS CB CT CG spl):=by
 have G_ring:bH P w K mg base aF 2 "ring_from" ["leanings","spot"] (a0l K):=a6z T
 refine Y.m_check_ring.known pX (fun _ _ _ _ _ _ us hl=>gM (fun _ _ _=>rfl) us hl) (fun vs H Q E h=> ?_) (fun f cdv A outer s H vs Q E hr h=> ?_)
 ·obtain⟨s',bd,ch,fi,dx,l,sv,kb,ys,sp,zs,gl,rfl,_⟩:=h
  rfl
 ·obtain⟨s',bd,ch,fi,dx,l,sv,kb,ys,sp,zs,gl,rfl,h1,h2,nd,k4,h3,hz,hN,z100,hsv,nsp,hns,g100,hb,q⟩:=h
  have hu:=dO hr
  refine⟨_,(aK (cH (i:=3) pX.nd rfl (Or.inl rfl) rM)
   (aK (a1m PassesOwn.never rfl (aW (pv 0) rfl) (fT (i:=4) pX.nd rfl (Or.inl rfl)) (aK (cH (i:=5) pX.nd rfl (Or.inl rfl) (aW (fD hu (aW (pv 0) rfl) (pv 4) (fun _ _=>rfl)) rfl))
   (aL (a1m PassesOwn.never rfl (pv 5) (fT (i:=6) pX.nd rfl (Or.inl rfl)) (aL (iT hu (pv 3) (fV (aA (pv 4) (aA (pv 6) aI))) (cC (fD hu (pv 5) (pv 6) (fun _ _=>rfl)) clG G_le hr aS (aA (pv 4) aI)) rfl))))))
   (aK (iT hu (pv 3) (pv 1) (pv 2) rfl)
   (aK (cH (i:=7) pX.nd rfl (Or.inl rfl) (bV G_ring hr.mn aS (aA (pv 3) (aA (pv 1) aI))))
   (aL (bL (cN a5J (pv 7) fZ (cX _)) (aL cE) bO)))))),?_⟩
  intro gd hgd
  have s1:=aH.new (o:=.dT []) hgd
  have g1:upd H gd (.dT []) gd=some (.dT []):=aJ
  generalize upd H gd (.dT [])=H1 at s1 g1|-
  have h2':=s1 _ _ h2
  refine⟨_,rfl,s',CS,dx,_,_,rfl,s1 _ _ h1,Y.cl,Y.n_boards,(lI _ _ _).1,bd,_,rfl,h2',fun nf ob=> ?_⟩
  obtain⟨Hf,eHf⟩:∃Hf,Hf=upd H1 bd (.frz ob (.dK kb)):=⟨_,rfl⟩
  rw[<- eHf]
  have hf:Hf bd=some (.frz ob (.dK kb)):=by rw[eHf,aJ]
  have ngb:gd≠bd:=fun y=>by rw[y,h2]at hgd;cases hgd
  have kf:∀{x:Addr} {o:HO},x≠bd->H1 x=some o->Hf x=some o:=fun n e=>by rw[eHf,aG n];exact e
  have gf:Hf gd=some (.dT []):=kf ngb g1
  have ins_f:iJ H Hf:=fun b o h e=>kf (fun y=>by rw[y,h2]at e;rcases h with⟨_,_,_,rfl⟩|⟨_,rfl⟩<;>cases e) (s1 _ _ e)
  have gr0:iO gl 0 gd Hf:=⟨[],fun _=> [],⟨gf,fun z=> .inl ⟨rfl,rfl⟩,fun z y hy=>by{cases hy},fun z=>Nat.zero_le _⟩,fun z y hy=>by{cases hy},Nat.le_refl _⟩
  refine a2h (a:=bd) (ob:=ob) (kvs:=kb) (fun i σ H2=>(∃o4 o5 o6,σ= [some (.ref s'),some sv,some (.ref l),some (.ref gd),o4,o5,o6,none])/\aY gd Hf H2/\iO gl (8* i) gd H2) ⟨⟨_,_,_,rfl⟩,aY.of (aH.refl _),gr0⟩ (fun i σ H2 _ ⟨_,b2,_⟩=>b2 _ _ ngb.symm hf) ?_ ?_
  ·rintro j pv' σ H2 hp ⟨⟨o4,o5,o6,rfl⟩,b2,gS⟩
   have hpm:=List.mem_of_getElem? hp
   have hj:j<kb.length:=(List.getElem?_eq_some_iff.mp hp).1
   obtain⟨nm,B,rfl,nnm,b1,nbr,ndr,r8,hrv⟩:=hb pv' hpm
   have hv:aE kb (.inr nm:aB)=some (.ref B.b):=vN nd hpm
   obtain⟨dB,e1⟩:=(b1.same s1).at_
   have nb:B.b≠bd:=fun y=>by rw[y,h2']at e1;cases e1
   have ns:s'≠bd:=fun y=>by rw[y,h2]at h1;cases h1
   have ng:∀{x:Addr} {o:HO},Hf x=some o->(∀y,o≠ .dT y)->x≠gd:=fun e n y=>by rw[y,gf]at e;exact n _ (Option.some.inj e).symm
   have up2:∀{x:Addr} {o:HO},Hf x=some o->(∀y,o≠ .dT y)->H2 x=some o:=fun e n=>b2 _ _ (ng e n) e
   have eb:=up2 (kf nb e1) nk
   have es:=up2 (kf ns (s1 _ _ h1)) nk
   have er:=up2 (kf nbr.symm (b1.same s1).rul) nk
   have bd2:=up2 hf nk
   refine⟨_,rfl,s',CS,dx,_,_,rfl,es,Y.cl,Y.n_boards,(lI _ _ _).1,_,rfl,bd,_,rfl,.inl ⟨kb,.inr nm,.inr ⟨ob,bd2⟩,rfl,hv.symm⟩,B.b,CB,dB,_,_,rfl,eb,W.cl,W.n_rules,(dJ _ _ _ _).2.1,?_⟩
   refine⟨_,rfl,B.ru,_,rfl,er,fun nf2 ob2=> ?_⟩
   obtain⟨Hg,eHg⟩:∃Hg,Hg=upd H2 B.ru (.frz ob2 (.dK B.rus)):=⟨_,rfl⟩
   rw[<- eHg]
   have hg:Hg B.ru=some (.frz ob2 (.dK B.rus)):=by rw[eHg,aJ]
   have kg:∀{x:Addr} {o:HO},x≠B.ru->H2 x=some o->Hg x=some o:=fun n e=>by rw[eHg,aG n];exact e
   have gSg:iO gl (8* j) gd Hg:=gS.mv fun b o n1 n2 e=>kg (fun y=>by rw[y,er]at e;exact n1 _ (Option.some.inj e).symm) e
   have gg:∃kvs,Hg gd=some (.dT kvs):=let ⟨kvs,_,g,_⟩:=gSg;⟨kvs,g.d⟩
   obtain⟨kv0,gg0⟩:=gg
   have ngr:B.ru≠gd:=fun y=>by rw[y,gg0]at hg;cases hg
   have ins_g:iJ H Hg:=fun b o h e=>kg (fun y=>by rw[y,b1.rul]at e;rcases h with⟨_,_,_,rfl⟩|⟨_,rfl⟩<;>cases e) (up2 (ins_f b o h e) (fun y ey=>by rcases h with⟨_,_,_,rfl⟩|⟨_,rfl⟩<;>cases ey))
   refine a2h (a:=B.ru) (ob:=ob2) (kvs:=B.rus) (fun i σ H3=>(∃o6,σ= [some (.ref s'),some sv,some (.ref l),some (.ref gd),some (.str nm),some (.ref B.ru),o6,none])/\aY gd Hg H3/\iO gl (8* j+ i) gd H3) ⟨⟨_,rfl⟩,aY.of (aH.refl _),gSg⟩ (fun i σ H3 _ ⟨_,b3,_⟩=>b3 _ _ ngr hg) ?_ ?_
   ·rintro i rv σ H3 hr3 ⟨⟨o6,rfl⟩,b3,gS3⟩
    have hi:i<B.rus.length:=(List.getElem?_eq_some_iff.mp hr3).1
    have hrm:=List.mem_of_getElem? hr3
    obtain⟨c,gr,dg,fs,ys2,rfl,nc,hgr,hnl,le,hy2,y100⟩:=hrv rv hrm
    have hvr:aE B.rus (.inr c:aB)=some (.ref gr):=vN ndr hrm
    have ng3:∀{x:Addr} {o:HO},Hg x=some o->(∀y,o≠ .dT y)->H3 x=some o:=fun e n=>b3 _ _ (fun y=>by rw[y,gg0]at e;exact n _ (Option.some.inj e).symm) e
    have ins_3:iJ H H3:=fun b o h e=>ng3 (ins_g b o h e) (fun y ey=>by rcases h with⟨_,_,_,rfl⟩|⟨_,rfl⟩<;>cases ey)
    refine⟨_,rfl,_,rfl,B.ru,_,rfl,.inl ⟨B.rus,.inr c,.inr ⟨ob2,ng3 hg nk⟩,rfl,hvr.symm⟩,gr,dg,fs,rfl,ins_3 _ _ (.inl ⟨_,_,_,rfl⟩) hgr,hnl,_,rfl,le H3 _ ins_3 fun H4 l4 vs4 s4 hl4 h4 hs4=> ?_⟩
    obtain⟨kvs,adj,G3,ha3,hn3⟩:=gS3
    refine⟨_,rfl,_,rfl,_,rfl,sl,fun tp htp=> ?_⟩
    have s5:=aH.new (o:=.tup [V.str nm,kV ((Sum.inr c:aB),V.ref gr).fst]) htp
    have t5:upd H4 tp (.tup [V.str nm,kV ((Sum.inr c:aB),V.ref gr).fst]) tp=some (.tup [.str nm,.str c]):=aJ
    generalize upd H4 tp (.tup [V.str nm,kV ((Sum.inr c:aB),V.ref gr).fst])=H5 at s5 t5|-
    have s35:=s4.trans s5
    have G5:=G3.same s35
    refine⟨gd,_,rfl,.inr ⟨kvs,kS (nm,c),tp,G5.d,rfl,t5,cY (by omega),rfl⟩,?_⟩
    have u6:aY gd H5 (upd H5 gd (.dT (aQ kvs (kS (nm,c)) (.ref l4)))):=aY.upd
    have e6:upd H5 gd (.dT (aQ kvs (kS (nm,c)) (.ref l4))) gd=some (.dT (aQ kvs (kS (nm,c)) (.ref l4))):=aJ
    generalize upd H5 gd (.dT (aQ kvs (kS (nm,c)) (.ref l4)))=H6 at u6 e6|-
    exact⟨⟨_,rfl⟩,fun b o n e=>u6 _ _ n (s35 _ _ (b3 _ _ n e)),iO.put G5 ha3 hn3 u6 e6 (s5 _ _ h4) (hs4.same s5) hy2 y100⟩
   ·rintro σ H3 ⟨⟨o6,rfl⟩,b3,gS3⟩
    refine⟨B.ru,ob2,B.rus,nf2,b3 _ _ ngr hg,⟨_,_,_,rfl⟩,fun b o n e=> ?_,?_⟩
    ·by_cases y:b=B.ru
     ·rw[y,aJ]
      rw[y]at e
      rw[b2 _ _ ngr e]at er
      exact er.symm
     ·rw[aG y]
      exact b3 _ _ n (kg y (b2 _ _ n e))
    ·have m:iO gl (8* j+ B.rus.length) gd (upd H3 B.ru (.dK B.rus)):=gS3.mv fun b o n1 n2 e=>by
      rw[aG (fun y=>by rw[y,b3 _ _ ngr hg]at e;exact n2 _ _ (Option.some.inj e).symm)]
      exact e
     obtain⟨kvs,adj,x1,x2,x3⟩:=m
     exact⟨kvs,adj,x1,x2,by omega⟩
  ·rintro σ H2 ⟨⟨o4,o5,o6,rfl⟩,b2,gS⟩
   have bd2:=b2 _ _ ngb.symm hf
   refine⟨bd,ob,kb,nf,bd2,?_⟩
   have b3:aY gd H1 (upd H2 bd (.dK kb)):=fun b o n e=>by
    by_cases y:b=bd
    ·rw[y,aJ]
     rw[y,h2']at e
     exact e
    ·rw[aG y]
     exact b2 _ _ n (kf y e)
   have gS3:iO gl (8* kb.length) gd (upd H2 bd (.dK kb)):=gS.mv fun b o n1 n2 e=>by
    rw[aG (fun y=>by rw[y,bd2]at e;exact n2 _ _ (Option.some.inj e).symm)]
    exact e
   generalize upd H2 bd (.dK kb)=H3 at b3 gS3|-
   have s13:aH H H3:=fun b o e=>b3 _ _ (bE e hgd) (s1 _ _ e)
   obtain⟨sa,rfl,hsa⟩:=hsv.same s13
   obtain⟨kvs,adj,G3,ha3,hn3⟩:=gS3
   refine⟨_,rfl,_,rfl,_,rfl,gd,_,rfl,.inr ⟨kvs,kS sp,sa,G3.d,rfl,hsa,cY (by omega),rfl⟩,?_⟩
   have s4:aH H (upd H3 gd (.dT (aQ kvs (kS sp) (.ref l)))):=s13.on hgd
   have u4:aY gd H3 (upd H3 gd (.dT (aQ kvs (kS sp) (.ref l)))):=aY.upd
   have g4:upd H3 gd (.dT (aQ kvs (kS sp) (.ref l))) gd=some (.dT (aQ kvs (kS sp) (.ref l))):=aJ
   generalize upd H3 gd (.dT (aQ kvs (kS sp) (.ref l)))=H4 at s4 u4 g4|-
   obtain⟨kvs',adj',G4,ha4,_⟩:=iO.put G3 ha3 hn3 u4 g4 (s13 _ _ h3) (hz.same s13) hN z100
   refine⟨_,rfl,_,rfl,gd,_,kvs',adj',sp,gl,rfl,G4,hsv.same s4,nsp,ha4,g100,fun H5 s5=>⟨fun _=> ?_,fun l' vs' ys' _ _ _ R _=> ?_⟩⟩
   ·exact⟨_,rfl,rfl,_,rfl,bI (q H5 (s4.trans s5))⟩
   ·exfalso
    have:=R.back
    obtain⟨m,hm⟩:∃m,ys'.length=m+ 1:=⟨ys'.length- 1,by have:=R.pos;omega⟩
    rw[hm]at this
    obtain⟨x,_,hx⟩:=this.inv
    exact hns (ha4 x sp hx)
theorem pV.mv{gr:Addr}{nm:Str}{ys:List aC}(k:iJ H H')(h:pV spl gr nm ys H):pV spl gr nm ys H':=fun Hb Q' kb q=>h Hb Q' (k.trans kb) q
theorem oT.same{gl:List aC}{kv:aB×V}(s:aH H H')(h:oT CB CT CG bd spl gl H kv):oT CB CT CG bd spl gl H' kv:=by
 obtain⟨nm,B,h1,h2,h3,h4,h5,h6,h7⟩:=h
 refine⟨nm,B,h1,h2,h3.same s,h4,h5,h6,fun rv hrv=> ?_⟩
 obtain⟨c,gr,dx,fs,ys,e1,e2,e3,e4,e5,e6,e7⟩:=h7 rv hrv
 exact⟨c,gr,dx,fs,ys,e1,e2,s _ _ e3,e4,e5.mv (iJ.of s),e6,e7⟩
inductive zQ(K:Fg)(CS CF CB CT CG:Addr)(spl:Sp)(vs:List V)(H:Hp)(Q:VK)(E':XK):Prop
 |mk (s bd ch gr dg:Addr) (cs:List V) (kb:List (aB×V)) (nm t:Str) (fs:List (Str×V)) (B:BM) (zs gl:List aC):(vs= [.ref s,.str nm,.str t,.ref gr])->(uU CS s bd ch cs kb H)->(cs.length<900)->(Nl nm)->(aE kb (.inr nm:aB)=some (.ref B.b))->(cD CB CT H B)->(B.sep)->(lP bd ch B)->(pJ B t)->(Nl t)->(H gr=some (.ins CG dg fs))->(fs.lookup ("leans":Str)=none)->(pV spl gr nm zs H)->((∀z∈zs,N2 z/\z∈gl/\∃B':BM,aE kb (.inr z.1:aB)=some (.ref B'.b)/\cD CB CT H B'/\z.2∈B'.ord))->(zs.length<=100)->((nm,t)∉gl)->(gl.length<=100)->((kb.map (·.1)).Nodup)->(kb.length<=4)->((∀kv∈kb,oT CB CT CG bd spl gl H kv))->(B.rus.length<100)->(B.mes.length<100)->(B.ord.length<8)->(∀H' fi fd lk c m,nR CS CF s bd ch fi fd lk (cs++ [.ref c]) kb H H'->H m=none->cD CB CT H' {B with rus:=aQ B.rus (.inr t:aB) (.ref gr),mes:=aQ B.mes (.inr t:aB) (.ref m),ord:=B.ord++ [t]} ->H' m=some (.dK [])->(∀x o,x≠s->x≠ch->x≠B.od->x≠B.ru->x≠B.me->H x=some o->H' x=some o)->Q .non H')->zQ K CS CF CB CT CG spl vs H Q E'
theorem xH:bA ["self","table","column","rule","board","leans"] ["self","table","column","rule"] (aO a0P):={}
structure RIs(K:Fg)(C:Addr):Prop where
 cl:cF K C
 ty:∀{H:Hp} {a dx:Addr} {fs:List (Str×V)},H a=some (.ins C dx fs)->fU K H (.ref a) (.ref C)
 isl:W.kitOne K (.ref C) (.type "list")=some false
theorem a8f(T:bC K mg)(Y:gA K mg CS)(Z:eT K mg CF)(W:cV K mg CB)(U:dR K mg CT)(C:oZ K mg CC)(Gr:RIs K CG)(G_le:aR P w K mg base aF 3 CG "leans" ["self","table"] spl):aR P w K mg base aF 9 CS "rule" ["self","table","column","rule"] (zQ K CS CF CB CT CG spl):=by
 have G_for:aR P w K mg base aF 3 CS "board_for" ["self","table","column"] (sG CS CB CT):=a2q T Y W
 have G_cl:aR P w K mg base aF 3 CS "check_leans" ["self","spot","leans"] (vT CS CB CT):=a5h T Y W
 have G_cr:aR P w K mg base aF 4 CS "check_ring" ["self","spot","leans"] (yB CS CB CT CG spl):=a3M T Y W Gr.cl G_le
 have GI:eM P w K mg base aF 1 CC ["self","board","column","content"] (vI CC):=a1Q T C
 have G_make:aR P w K mg base aF 8 CS "make" ["self","change"] (oN CS CF CC (rQ CC CB CT (uX K CB CT))):=uW T Y Z C.cl (a0o a7K) (a1i T C W (a8C T W))
 refine Y.m_rule.known xH (fun _ _ _ _ _ _ us hl=>jG (fun _ _ _ _=>rfl) us hl) (fun vs H Q E h=> ?_) (fun f cdv A outer s H vs Q E hr h=> ?_)
 ·obtain⟨s',bd,ch,gr,dg,cs,kb,nm,t,fs,B,zs,gl,rfl,_⟩:=h
  rfl
 ·obtain⟨s',bd,ch,gr,dg,cs,kb,nm,t,fs,B,zs,gl,rfl,hS,cl,hn,hv,hB,sep,ss,new,ht,hgr,hnl,le,hzs,z100,ngl,g100,nd,k4,hbd,r100,m100,o8,q⟩:=h
  refine⟨_,(aK (cH (i:=4) xH.nd rfl (Or.inl rfl) (cC (pv 0) Y.cl G_for hr.mn aS (aA (pv 1) (aA (pv 2) aI))))
   (aK (cH (i:=5) xH.nd rfl (Or.inl rfl) (cC (pv 3) Gr.cl G_le hr.mn aS (aA (pv 1) aI)))
   (aK (cA (cC (pv 0) Y.cl G_cl hr.mn aS (aA (fV (aA (pv 1) (aA (pv 2) aI))) (aA (pv 5) aI))))
   (aK (cA (cC (pv 0) Y.cl G_cr hr.mn aS (aA (fV (aA (pv 1) (aA (pv 2) aI))) (aA (pv 5) aI))))
   (aL (cA (cC (pv 0) Y.cl G_make hr aS (aA (jX GI hr.mn C.c aS (aA (pv 4) (aA (pv 2) (aA (pv 3) aI)))) aI)))))))),?_⟩
  obtain⟨⟨dx,fi0,h1⟩,h2,h3⟩:=hS
  refine⟨_,rfl,s',dx,_,rfl,h1,fL,_,rfl,_,rfl,s',bd,ch,fi0,dx,kb,nm,t,B,rfl,h1,h3,hn,hv,hB,ht,o8,fun H1 s1=> ?_⟩
  refine⟨_,rfl,gr,dg,_,rfl,s1 _ _ hgr,hnl,_,rfl,le H1 _ (iJ.of s1) fun H2 l ys s2 hl h2l hsp=> ?_⟩
  have s12:=s1.trans s2
  refine⟨_,rfl,s',dx,_,rfl,s12 _ _ h1,fL,_,rfl,_,rfl,sl,fun t1 ht1=> ?_⟩
  have s3':=aH.new (o:=.tup [.str nm,.str t]) ht1
  have tt1:upd H2 t1 (.tup [.str nm,.str t]) t1=some (.tup [.str nm,.str t]):=aJ
  generalize upd H2 t1 (.tup [.str nm,.str t])=H3 at s3' tt1|-
  have s3:=s12.trans s3'
  refine⟨_,rfl,s',bd,ch,fi0,dx,l,.ref t1,kb,ys,zs,rfl,s3 _ _ h1,s3 _ _ h3,s3' _ _ h2l,hsp.same s3',fun z hz=> ?_,fun H4 s4=> ?_⟩
  ·obtain⟨n2,_,B',b1,b2,b3⟩:=hzs z hz
   exact⟨n2,B',b1,b2.same s3,b3⟩
  have s4':=s3.trans s4
  refine⟨_,rfl,s',dx,_,rfl,s4' _ _ h1,fL,_,rfl,_,rfl,sl,fun t2 ht2=> ?_⟩
  have s5':=aH.new (o:=.tup [.str nm,.str t]) ht2
  have tt2:upd H4 t2 (.tup [.str nm,.str t]) t2=some (.tup [.str nm,.str t]):=aJ
  generalize upd H4 t2 (.tup [.str nm,.str t])=H5 at s5' tt2|-
  have s5:=s4'.trans s5'
  have s25:=(s3'.trans s4).trans s5'
  refine⟨_,rfl,s',bd,ch,fi0,dx,l,.ref t2,kb,ys,(nm,t),zs,gl,rfl,s5 _ _ h1,s5 _ _ h3,nd,k4,s25 _ _ h2l,hsp.same s25,fun z hz=>⟨(hzs z hz).1,(hzs z hz).2.1⟩,z100,⟨t2,rfl,tt2⟩,⟨hn,ht⟩,ngl,g100,fun kv hkv=>(hbd kv hkv).same s5,fun H6 s6'=> ?_⟩
  have s6:=s5.trans s6'
  refine⟨_,rfl,s',dx,_,rfl,s6 _ _ h1,fL,_,rfl,_,rfl,_,rfl,?_⟩
  intro c dc hc hdc ne
  refine⟨c,dc,B.b,gr,t,rfl,aJ,fun H7 b7 c7=>⟨rfl,?_⟩⟩
  have s7:aH H H7:=fun b o z=>b7 b o (bE (s6 _ _ z) hc) (by rw[aG (bE (s6 _ _ z) hc),aG (bE (s6 _ _ z) hdc)];exact s6 _ _ z)
  have hB7:=hB.same s7
  have gr7:=s7 _ _ hgr
  refine⟨s',c,bd,ch,fi0,dx,dc,cs,_,rfl,c7,(xB _ _ _).2.2.2.1,c,dc,gr,B,t,rfl,c7,hB7,new,B,t,gr,CG,dg,_,rfl,hB7,sep,new,gr7,Gr.ty gr7,Gr.isl,r100,m100,by omega,fun H8 m hm B8 m8 u8=> ?_⟩
  have ho:=hB.ord
  have hru:=hB.rul
  have hme:=hB.mem
  have k8:∀{x:Addr} {o:HO},H x=some o->x≠B.od->x≠B.ru->x≠B.me->H8 x=some o:=fun e n1 n2 n3=>u8 _ _ n1 n2 n3 (s7 _ _ e)
  have ns4:=k8 h1 (fun y=>by rw[y,ho]at h1;cases h1) (fun y=>by rw[y,hru]at h1;cases h1) (fun y=>by rw[y,hme]at h1;cases h1)
  have ch4:=k8 h2 ss.o (fun y=>by rw[y,hru]at h2;cases h2) (fun y=>by rw[y,hme]at h2;cases h2)
  refine⟨ns4,ch4,cl,fun H9 fi fd lk df f1 f2 f3 nfl g1 g2 g3 g4 g5 u9=> ?_⟩
  have nn:∀{x:Addr},H8 x=none->H x=none:=fun{x} e=>by
   cases e2:H x with
   |none=>rfl
   |some o=>
    by_cases y:x=B.od
    ·rw[y,B8.ord]at e;cases e
    ·by_cases y2:x=B.ru
     ·rw[y2,B8.rul]at e;cases e
     ·by_cases y3:x=B.me
      ·rw[y3,B8.mem]at e;cases e
      ·rw[k8 e2 y y2 y3]at e;cases e
  have hm0:H m=none:=iM s7 hm
  have nm':m≠s'/\m≠ch:=⟨fun y=>by{rw[y,h1]at hm0;cases hm0},fun y=>by{rw[y,h2]at hm0;cases hm0}⟩
  have nb:bd≠s'/\bd≠ch:=⟨fun y=>by{rw[y,h1]at h3;cases h3},fun y=>by{rw[y,h2]at h3;cases h3}⟩
  exact q H9 fi fd lk c m ⟨⟨dx,g1⟩,g2,u9 _ _ nb.1 nb.2 (k8 h3 (fun y=>by rw[y,ho]at h3;cases h3) ss.u ss.m),⟨df,g3⟩,g4,g5,nfl,nn f1,nn f2,nn f3⟩ hm0 (B8.off ⟨dx,bd,ch,fi0,ns4⟩ ch4 ss.r ss.o u9) (u9 _ _ nm'.1 nm'.2 m8) (fun x o n1 n2 n3 n4 n5 e=>u9 _ _ n1 n2 (k8 e n3 n4 n5))
theorem a5f(Y:lE K mg C):RIs K C:=⟨Y.cl,fun e=> .ins e Y.cl Y.hc Y.own.2.1 Y.own.2.2 Y.own.1,Y.isl⟩
theorem a8L(Y:lE K mg C):rZ K C:=⟨Y.cl,Y.m_reckon,Y.n_function⟩
inductive rR(P:Program)(w:World)(K:Fg)(mg:Str->Option Value)(base:Heap)(C:Addr)(vs:List V)(H:Hp)(Q:VK)(E':XK):Prop
 |mk (gr look many nl fa dx:Addr) (nm c:Str) (p:Nat) (zs:List Str) (Vc:aU->Prop) (J:Option GT->Hp->Prop) (W M:List Addr):(vs= [.ref gr,.ref look,.ref many,.str nm,.str c,.int (p:Int)])->(H gr=some (.ins C dx (gK nl fa)))->(H nl=some (.lst (zs.map V.str)))->(zs.length<=6)->(eI P w K mg base 6 look (oC K Vc J M))->(J (some (gQ .done (zs.map fun z=>(nm,z,p)) [])) H)->(gD J W M)->((∀z∈zs,Vc (nm,z,p)))->(∀H' fv tf,eL M H H'->pY K H H' fv tf->(J (some (.done tf)) H'\/ J none H')->Q fv H')->rR P w K mg base C vs H Q E'
abbrev sC:List Str:=["self","look","many","table","column","place"]
theorem a6V:bA sC sC (aO qO):={}
theorem a6n(T:bC K mg)(Y:lE K mg C):aR P w K mg base aF 8 C "gather" ["self","look","many","table","column","place"] (rR P w K mg base C):=by
 have G_turn:bH P w K mg base aF 7 "look_in_turn" ["look","cells"] (wK P w K mg base 6):=a6r T (by decide)
 refine Y.m_gather.known a6V (fun _ _ _ _ _ _ us hl=>bi6 (fun _ _ _ _ _ _=>rfl) us hl) (fun vs H Q E h=> ?_) (fun f cdv A outer s H vs Q E hr h=> ?_)
 ·obtain⟨gr,look,many,nl,fa,dx,nm,c,p,zs,Vc,J,W,M,rfl,_⟩:=h
  rfl
 ·obtain⟨gr,look,many,nl,fa,dx,nm,c,p,zs,Vc,J,W,M,rfl,h1,h4,z6,F1,hJ,S,hV,q⟩:=h
  have hcl:∀x,(dM aF P w K mg base sC "Cells.gather" (aO qO) f cdv A outer s H E).nox.env.scope.names.lookup x=some .cell->∃c,(dM aF P w K mg base sC "Cells.gather" (aO qO) f cdv A outer s H E).nox.env.cells.lookup x=some c:=fun x hx=>Option.isSome_iff_exists.mp (PySem.W.cellsFrom_some _ _ _ (.inl hx))
  refine⟨_,(aL (bN (bV G_turn hr aS (aA (pv 1) (aA (oP (mC (sc:=aO qO) (N:=sC) (cp:=[(3,"table"),(5,"place")]) hcl) rfl rfl (by decide) (kA (aW (pv 0) rfl)) (fun _ _ _ _ _=>mD) (fun _ _ _ _ _=>(fV (aA (pv 1) (aA (pv 0) (aA (pv 2) aI)))))) aI))))),?_⟩
  refine⟨_,rfl,_,rfl,gr,C,dx,_,_,rfl,h1,Y.cl,Y.n_names,(nI nl fa).2.1,nl,rfl,⟨_,aN.of h4⟩,fun D hD=> ?_⟩
  refine sV (K:=K) (a:=nl) (xs:=zs.map V.str) (fun i ys H2=>aH H H2/\Paired (nQ H2) ys ((zs.map fun z=>(nm,z,p)).take i)) ⟨aH.new hD,.nil⟩ (by rintro i ys H2 _ ⟨s2,_⟩;exact aN.of (s2 _ _ h4)) ?_ ?_
  ·rintro i xv ys H2 hx h2D ⟨s2,hd⟩
   rw[List.getElem?_map]at hx
   cases e:zs[i]? with
   |none=>rw[e]at hx;cases hx
   |some z=>
    rw[e]at hx
    cases hx
    have hi:i<zs.length:=(List.getElem?_eq_some_iff.mp e).1
    have hyl:ys.length<=6:=by
     have:=Paired.length hd
     rw[List.length_take,List.length_map]at this
     omega
    refine⟨_,rfl,_,rfl,_,rfl,sl,fun tp htp=> ?_⟩
    have s3:aH H2 (upd H2 tp (.tup [.str nm,.str z,.int (p:Int)])):=aH.new htp
    have t3:upd H2 tp (.tup [.str nm,.str z,.int (p:Int)]) tp=some (.tup [.str nm,.str z,.int (p:Int)]):=aJ
    generalize upd H2 tp (.tup [.str nm,.str z,.int (p:Int)])=H3 at s3 t3|-
    have h3D:=s3 _ _ h2D
    refine⟨h3D,cY (by omega),(s2.trans s3).on hD,?_⟩
    have kt:bS H3 (upd H3 D (.lst (ys++ [.ref tp]))):=fun a xs e=>by
     rw[aG (fun y=>by rw[y,h3D]at e;cases e)]
     exact e
    have kt2:bS H2 (upd H3 D (.lst (ys++ [.ref tp]))):=fun a xs e=>kt _ _ (s3 _ _ e)
    rw[List.take_add_one,List.getElem?_map,e]
    exact Paired.snoc ⟨tp,rfl,kt _ _ t3⟩ (Paired.imp (fun a b h=>h.keep kt2) hd)
  ·rintro ys H2 h2D ⟨s2,hd⟩
   rw[List.length_map,show zs.length=(zs.map fun z=>(nm,z,p)).length by rw[List.length_map],List.take_length]at hd
   refine⟨look,D,Vc,J,W,M,.done,ys,_,rfl,F1,S.same s2 hJ,S,h2D,hd,fun c hc=> ?_,by rw[List.length_map];omega,fun H' fv tf f' t j=>q H' fv tf (fun b o n1 e=>f' _ _ n1 (s2 _ _ e)) (a61 s2 t) (j.imp id fun h=>h.2)⟩
   obtain⟨z,hz,rfl⟩:=List.mem_map.mp hc
   exact hV z hz
def iP(nm:Str)(zs:List Str)(p:Nat):GT:=gQ .done (zs.map fun z=>(nm,z,p)) []
theorem a4a{gr nl:Addr}{nm:Str}{zs:List Str}(h1:H gr=some (.ins C dx (gK nl fa)))(h2:H nl=some (.lst (zs.map V.str)))(z6:zs.length<=6)(hV:∀z∈zs,Vc (nm,z,p)):lU P w K mg base (rR P w K mg base C) gr [gr,nl] tabs Vc nm c p (iP nm zs p) H:=
 fun look many J W M HB Q' kx n hJ S L1 L2 q=>⟨gr,look,many,nl,fa,dx,nm,c,p,zs,Vc,J,W,M,rfl,kx _ aa _ h1,kx _ (List.mem_cons_of_mem _ aa) _ h2,z6,L1,hJ,S,hV,q⟩
def KnR(CF CB CT:Addr)(C:Addr)(sp:Sp):Prop:=C=CF/\(sp=uT CF CB CT\/ sp=qM CF CB CT)
inductive sO(CR CF CB CT pU:Addr)(vs:List V)(H:Hp)(Q:VK)(E':XK):Prop
 |mk (tr tl fi bd fd lk dx:Addr) (nm c:Str) (p:Nat) (B:BM) (kf kt:List (Ky×V)) (u:V):(vs= [.ref tr,.str nm,.str c,.int (p:Int)])->(H tr=some (.ins CR dx (dP fi tl u)))->(H tl=some (.dT kt))->(kt.length<900)->(tl≠fd)->(dL CF CB CT H fi bd fd lk nm B kf)->(((u= .non/\∃l ys v,aE B.rus (.inr c:aB)=none/\Nl c/\aE B.kvs (.inr c:aB)=some (.ref l)/\H l=some (.lst ys)/\p<B.xs.length/\cI ys (p:Int)=some v/\(∀v',aE kf (bF nm c p)=some v'->v'=v)/\kf.length<899/\
  ∀H' kf',(kf'=kf\/ kf'=aQ kf (bF nm c p) v)->aE kf' (bF nm c p)=some v->dL CF CB CT H' fi bd fd lk nm B kf'->H' tl=some (.dT (aQ kt (bF nm c p) (.bl true)))->(∀x o,x≠fd->x≠tl->H x=some o->H' x=some o)->Q v H')\/
  (u= .non/\∃r v,aE B.rus (.inr c:aB)=some r/\aE kf (bF nm c p)=some v/\∀H',H' tl=some (.dT (aQ kt (bF nm c p) (.bl true)))->(∀x o,x≠tl->H x=some o->H' x=some o)->Q v H')\/
  (u= .non/\∃r,aE B.rus (.inr c:aB)=some r/\aE kf (bF nm c p)=none/\∀H' la,H la=none->H' la=some (.tup ((bF nm c p).map kV))->H' tr=some (.ins CR dx (dP fi tl (.ref la)))->H' tl=some (.dT (aQ kt (bF nm c p) (.bl true)))->(∀x o,x≠tl->x≠tr->H x=some o->H' x=some o)->Q (.ref pU) H')\/
  ((∃la,u= .ref la)/\∀H',H' tl=some (.dT (aQ kt (bF nm c p) (.bl true)))->(∀x o,x≠tl->H x=some o->H' x=some o)->Q (.ref pU) H')))->sO CR CF CB CT pU vs H Q E'
theorem a5F(T:bC K mg){CR pU:Addr}(hpU:mg "UNKNOWN"=some (.ref pU))(X:nJ K mg CR)(Y:eT K mg CF)(W:cV K mg CB)(Z:dR K mg CT):aR P w K mg base aF 5 CR "look" ["self","table","column","place"] (sO CR CF CB CT pU):=by
 have G_knows:∀C sp,KnR CF CB CT C sp->cF K C/\aR P w K mg base aF 4 C "knows" ["self","cell"] sp:=fun C sp h=>by
  obtain⟨rfl,rfl|rfl⟩:=h
  ·exact⟨Y.cl,a2k T Y W Z⟩
  ·exact⟨Y.cl,wY T Y W⟩
 refine X.m_look.known a2w (fun _ _ _ _ _ _ us hl=>jG (fun _ _ _ _=>rfl) us hl) (fun vs H Q E h=> ?_) (fun f cdv A outer s H vs Q E hr h=> ?_)
 ·obtain⟨tr,tl,fi,bd,fd,lk,dx,nm,c,p,B,kf,kt,u,rfl,_⟩:=h
  rfl
 ·obtain⟨tr,tl,fi,bd,fd,lk,dx,nm,c,p,B,kf,kt,u,rfl,htr,htl,ktl,ntf,hF,q⟩:=h
  have hu:=dO hr
  refine⟨_,(aK (cH (i:=4) a2w.nd rfl (Or.inl rfl) (fV (aA (pv 1) (aA (pv 2) (aA (pv 3) aI)))))
   (aK (iT hu (aW (pv 0) rfl) (pv 4) qG rfl)
   (aK (bL (PW.pt (oQ (cN oF (aW (pv 0) rfl) fZ (cX _)) (oV (eV (eF (zK (aW (pv 0) rfl) G_knows hr aS (aA (pv 4) aI)) (fun _=>rfl)))))) (aL (cR (pv 0) (pv 4) rfl)) bO)
   (aK (bL (cN oF (aW (pv 0) rfl) fZ (cX _)) (aL (bN (fD hu (aW (aW (pv 0) rfl) rfl) (pv 4) (fun _ _=>rfl)))) bO)
   (aL (bN (zL hpU))))))),?_⟩
  obtain⟨a1,a2,a3,a4⟩:=oH fi tl u
  refine⟨_,rfl,_,rfl,_,rfl,sl,fun ce hce=> ?_⟩
  have s1:=aH.new (o:=.tup ((bF nm c p).map kV)) hce
  have c1:upd H ce (.tup ((bF nm c p).map kV)) ce=some (.tup ((bF nm c p).map kV)):=aJ
  have hcf:H ce=none:=hce
  generalize hH1:upd H ce (.tup ((bF nm c p).map kV))=H1 at s1 c1
  rw[show upd H ce (.tup [V.str nm,V.str c,V.int (p:Int)])=H1 from hH1]
  have nct:ce≠tl:=fun z=>by rw[z,htl]at hcf;cases hcf
  refine⟨_,rfl,tr,CR,dx,_,_,rfl,s1 _ _ htr,X.cl,X.n_looked,a2,_,rfl,tl,_,rfl,.inr ⟨kt,bF nm c p,ce,s1 _ _ htl,rfl,c1,cY (by omega),rfl⟩,?_⟩
  have u2:aY tl H1 (upd H1 tl (.dT (aQ kt (bF nm c p) (.bl true)))):=fun b o n z=>by rw[aG n];exact z
  have t2:upd H1 tl (.dT (aQ kt (bF nm c p) (.bl true))) tl=some (.dT (aQ kt (bF nm c p) (.bl true))):=aJ
  generalize upd H1 tl (.dT (aQ kt (bF nm c p) (.bl true)))=H2 at u2 t2|-
  have ntr:tr≠tl:=fun z=>by rw[z,htl]at htr;cases htr
  have tr2:=u2 _ _ ntr (s1 _ _ htr)
  have hF1:=hF.same s1
  have hl1:=s1 _ _ htl
  have nd:∀{x:Addr} {o:HO},H1 x=some o->(∀kvs,o≠ .dT kvs)->H2 x=some o:=fun z n=>u2 _ _ (fun y=>by rw[y,hl1]at z;exact n _ (Option.some.inj z).symm) z
  have F2:dL CF CB CT H2 fi bd fd lk nm B kf:=by
   obtain⟨d0,e1⟩:=hF1.fin
   obtain⟨kb,e2,e3⟩:=hF1.bds
   obtain⟨⟨d1,b1⟩,⟨⟨d2,b2⟩,b3,b4⟩,b5,b6,b7⟩:=hF1.B
   exact⟨⟨d0,nd e1 (fun _ z=>by cases z)⟩,⟨kb,nd e2 (fun _ z=>by cases z),e3⟩,⟨⟨d1,nd b1 (fun _ z=>by cases z)⟩,⟨⟨d2,nd b2 (fun _ z=>by cases z)⟩,nd b3 (fun _ z=>by cases z),nd b4 (fun _ z=>by cases z)⟩,nd b5 (fun _ z=>by cases z),nd b6 (fun _ z=>by cases z),nd b7 (fun _ z=>by cases z)⟩,u2 _ _ ntf.symm hF1.fnd,hF1.len⟩
  obtain⟨df,f2⟩:=F2.fin
  have ce2:=u2 _ _ nct c1
  have u12:∀x o,x≠tl->H x=some o->H2 x=some o:=fun x o n z=>u2 _ _ n (s1 _ _ z)
  have ntrf:tr≠fd:=fun z=>by rw[z,hF.fnd]at htr;cases htr
  have ncf:ce≠fd:=fun z=>by rw[z,hF.fnd]at hcf;cases hcf
  have ncr:ce≠tr:=fun z=>by rw[z,htr]at hcf;cases hcf
  rcases q with⟨rfl,l,ys,v,hru,hc,hv,hl,hp,ha,hcon,kl,q⟩|⟨rfl,r,v,hru,hv,q⟩|⟨rfl,r,hru,hv,q⟩|⟨⟨la,rfl⟩,q⟩
  ·refine⟨_,rfl,tr,CR,dx,_,_,rfl,tr2,X.cl,X.n_lacking,a3,rfl,_,rfl,cQ ?_⟩
   refine⟨_,rfl,tr,CR,dx,_,_,rfl,tr2,X.cl,X.n_finder,a1,CF,_,fi,df,_,⟨rfl,.inl rfl⟩,rfl,f2,iL,_,rfl,fi,bd,fd,lk,ce,l,nm,c,p,B,kf,ys,v,rfl,F2,ce2,hru,hc,hv,nd (s1 _ _ hl) (fun _ z=>by cases z),hp,ha,hcon,kl,fun H3 kf' hk' vk' F3 b3=>⟨_,rfl,bI ?_⟩⟩
   have tr3:=b3 _ _ ntrf tr2
   obtain⟨df3,f3⟩:=F3.fin
   refine⟨_,rfl,tr,CR,dx,_,_,rfl,tr3,X.cl,X.n_lacking,a3,rfl,_,rfl,cQ ?_⟩
   refine⟨_,rfl,tr,CR,dx,_,_,rfl,tr3,X.cl,X.n_finder,a1,fi,CF,df3,_,_,rfl,f3,Y.cl,Y.n_found,(iH _ _ _).2.1,_,rfl,fd,v,rfl,?_,?_⟩
   ·rw[<- vk']
    exact .inr ⟨_,bF nm c p,ce,.inl F3.fnd,rfl,b3 _ _ ncf ce2,rfl⟩
   ·exact q H3 kf' hk' vk' F3 (b3 _ _ ntf t2) (fun x o n1 n2 z=>b3 _ _ n1 (u12 _ _ n2 z))
  ·refine⟨_,rfl,tr,CR,dx,_,_,rfl,tr2,X.cl,X.n_lacking,a3,rfl,_,rfl,cQ ?_⟩
   refine⟨_,rfl,tr,CR,dx,_,_,rfl,tr2,X.cl,X.n_finder,a1,CF,_,fi,df,_,⟨rfl,.inr rfl⟩,rfl,f2,iL,_,rfl,fi,bd,fd,lk,ce,nm,c,p,B,kf,r,rfl,F2,ce2,hru,?_⟩
   rw[hv]
   refine⟨_,rfl,bI ?_⟩
   refine⟨_,rfl,tr,CR,dx,_,_,rfl,tr2,X.cl,X.n_lacking,a3,rfl,_,rfl,cQ ?_⟩
   refine⟨_,rfl,tr,CR,dx,_,_,rfl,tr2,X.cl,X.n_finder,a1,fi,CF,df,_,_,rfl,f2,Y.cl,Y.n_found,(iH _ _ _).2.1,_,rfl,fd,v,rfl,?_,q H2 t2 u12⟩
   rw[<- hv]
   exact .inr ⟨_,bF nm c p,ce,.inl F2.fnd,rfl,ce2,rfl⟩
  ·refine⟨_,rfl,tr,CR,dx,_,_,rfl,tr2,X.cl,X.n_lacking,a3,rfl,_,rfl,cQ ?_⟩
   refine⟨_,rfl,tr,CR,dx,_,_,rfl,tr2,X.cl,X.n_finder,a1,CF,_,fi,df,_,⟨rfl,.inr rfl⟩,rfl,f2,iL,_,rfl,fi,bd,fd,lk,ce,nm,c,p,B,kf,r,rfl,F2,ce2,hru,?_⟩
   rw[hv]
   refine⟨_,rfl,cQ ?_⟩
   refine⟨_,rfl,_,rfl,tr,CR,dx,_,rfl,tr2,X.cl,X.n_lacking,(by show 3<1000;decide),?_⟩
   rw[show aM "lacking" (.ref ce) (dP fi tl .non)=dP fi tl (.ref ce) from rfl]
   have u3:aY tr H2 (upd H2 tr (.ins CR dx (dP fi tl (.ref ce)))):=fun b o n z=>by rw[aG n];exact z
   have t3:upd H2 tr (.ins CR dx (dP fi tl (.ref ce))) tr=some (.ins CR dx (dP fi tl (.ref ce))):=aJ
   generalize upd H2 tr (.ins CR dx (dP fi tl (.ref ce)))=H3 at u3 t3|-
   refine⟨_,rfl,tr,CR,dx,_,_,rfl,t3,X.cl,X.n_lacking,(oH fi tl (.ref ce)).2.2.1,rfl,_,rfl,bI ?_⟩
   exact q H3 ce hcf (u3 _ _ ncr ce2) t3 (u3 _ _ ntr.symm t2) (fun x o n1 n2 z=>u3 _ _ n2 (u12 _ _ n1 z))
  ·refine⟨_,rfl,tr,CR,dx,_,_,rfl,tr2,X.cl,X.n_lacking,a3,rfl,_,rfl,bI ?_⟩
   refine bI ?_
   refine⟨_,rfl,tr,CR,dx,_,_,rfl,tr2,X.cl,X.n_lacking,a3,rfl,_,rfl,bI ?_⟩
   exact q H2 t2 u12
end
def dX(Ks:List Ky)(kvs:List (Ky×V)):Prop:=(kvs.map (·.1)).Nodup/\∀k∈kvs.map (·.1),k∈Ks
theorem sJ{α:Type} [DecidableEq α]:∀{l m:List α},l.Nodup->(∀x∈l,x∈m)->l.length<=m.length
 | [],_,_,_=>Nat.zero_le _
 |x::r,m,h,hs=>by
  rw[List.nodup_cons]at h
  have hx:=hs x List.mem_cons_self
  have:=sJ (l:=r) (m:=m.erase x) h.2 fun y hy=>(List.mem_erase_of_ne (fun e=>by rw[e]at hy;exact h.1 hy)).mpr (hs y (List.mem_cons_of_mem _ hy))
  rw[List.length_erase_of_mem hx]at this
  have:0<m.length:=List.length_pos_of_mem hx
  rw[List.length_cons]
  omega
theorem dX.len{Ks:List Ky}{kvs:List (Ky×V)}(h:dX Ks kvs):kvs.length<=Ks.length:=by
 have:=sJ h.1 h.2
 rwa [List.length_map]at this
theorem dX.nil{Ks:List Ky}:dX Ks []:=⟨List.nodup_nil,fun k hk=>by cases hk⟩
theorem a5i{kvs:List (Ky×V)}{k:Ky}{v x:V}(h:aE kvs k=some x):(aQ kvs k v).map (·.1)=kvs.map (·.1):=by
 unfold aQ
 rw[lO,h,if_pos (show(some x).isSome=true from rfl),List.map_map]
 refine List.map_congr_left fun p _=> ?_
 show(if p.1=k then _ else _:Ky×V).1=p.1
 split<;>rfl
theorem dX.put{Ks:List Ky}{kvs:List (Ky×V)}{k:Ky}{v:V}(h:dX Ks kvs)(hk:k∈Ks):dX Ks (aQ kvs k v):=by
 cases e:aE kvs k with
 |some x=>unfold dX;rw[a5i e];exact h
 |none=>
  refine⟨a0D v h.1 e,fun k' hk'=> ?_⟩
  rw[uV v e,List.map_append]at hk'
  rcases List.mem_append.mp hk' with hk'|hk'
  ·exact h.2 k' hk'
  ·rw[List.mem_singleton.mp hk']
   exact hk
theorem zX{t t' c':Str}{p':Nat}(h:bF t c p=bF t' c' p'):t=t'/\c=c'/\p=p':=by
 unfold bF at h
 simp only[List.cons.injEq,Sum.inr.injEq,Sum.inl.injEq,and_true]at h
 exact⟨h.1,h.2.1,by omega⟩
theorem dL.mvW{nm:Str}{B:BM}(F:dL CF CB CT H fi bd fd lk nm B kf)(u:∀b o,b∈ [fi,bd,fd] ++ B.foot->H b=some o->H' b=some o):dL CF CB CT H' fi bd fd lk nm B kf:=by
 obtain⟨dx,e1⟩:=F.fin
 obtain⟨kb,e2,e3⟩:=F.bds
 obtain⟨⟨d1,b1⟩,⟨⟨d2,b2⟩,b3,b4⟩,b5,b6,b7⟩:=F.B
 exact⟨⟨dx,u _ _ (by simp[BM.foot]) e1⟩,⟨kb,u _ _ (by simp[BM.foot]) e2,e3⟩,⟨⟨d1,u _ _ (by simp[BM.foot]) b1⟩,⟨⟨d2,u _ _ (by simp[BM.foot]) b2⟩,u _ _ (by simp[BM.foot]) b3,u _ _ (by simp[BM.foot]) b4⟩,u _ _ (by simp[BM.foot]) b5,u _ _ (by simp[BM.foot]) b6,u _ _ (by simp[BM.foot]) b7⟩,u _ _ (by simp[BM.foot]) F.fnd,F.len⟩
theorem dL.isthere{nm:Str}{B:BM}(F:dL CF CB CT H fi bd fd lk nm B kf)(hb:b∈ [fi,bd,fd] ++ B.foot):H b≠none:=fun z=>by
 obtain⟨dx,e1⟩:=F.fin
 obtain⟨kb,e2,e3⟩:=F.bds
 obtain⟨⟨d1,b1⟩,⟨⟨d2,b2⟩,b3,b4⟩,b5,b6,b7⟩:=F.B
 have e0:=F.fnd
 simp only[BM.foot,List.cons_append,List.nil_append,List.mem_cons,List.not_mem_nil,or_false]at hb
 rcases hb with rfl|rfl|rfl|rfl|rfl|rfl|rfl|rfl|rfl|rfl
 ·rw[e1]at z;cases z
 ·rw[e2]at z;cases z
 ·rw[e0]at z;cases z
 ·rw[b1]at z;cases z
 ·rw[b2]at z;cases z
 ·rw[b3]at z;cases z
 ·rw[b4]at z;cases z
 ·rw[b5]at z;cases z
 ·rw[b6]at z;cases z
 ·rw[b7]at z;cases z
theorem a1C{κ:Type} [DecidableEq κ]{kvs:List (κ×V)}{k:κ}{v:V}(h:aE kvs k=some v):(k,v)∈kvs:=by
 unfold aE at h
 cases e:kvs.find? fun kv=>decide (kv.1=k)with
 |none=>rw[e]at h;cases h
 |some kv=>
  rw[e]at h
  have h2:kv.2=v:=Option.some.inj h
  have h1:kv.1=k:=by have:=List.find?_some e;simpa using this
  rw[<- h1,<- h2]
  exact List.mem_of_find?_eq_some e
open Classical in
noncomputable def yD (tabs:List (Str×BM)) (gv:Str->Str->Option (List V)):List Addr:=tabs.flatMap fun tb=>tb.2.kvs.filterMap fun kv=>match kv with
 |(.inr c,.ref l)=>if(gv tb.1 c).isSome/\aE tb.2.kvs (.inr c:aB)=some (.ref l) then some l else none
 |_=>none
theorem a5t{gv:Str->Str->Option (List V)}{t:Str}{B:BM}(g:gv t c=some ys)(h:(t,B)∈tabs)(e:aE B.kvs (.inr c:aB)=some (.ref l)):l∈yD tabs gv:=by
 refine List.mem_flatMap.mpr ⟨(t,B),h,List.mem_filterMap.mpr ⟨_,a1C e,?_⟩⟩
 show(if(gv t c).isSome/\aE B.kvs (.inr c:aB)=some (.ref l) then some l else none)=some l
 rw[if_pos ⟨by rw[g];rfl,e⟩]
theorem a70{gv:Str->Str->Option (List V)}(h:l∈yD tabs gv):∃t c ys B,gv t c=some ys/\(t,B)∈tabs/\aE B.kvs (.inr c:aB)=some (.ref l):=by
 obtain⟨tb,h1,h2⟩:=List.mem_flatMap.mp h
 obtain⟨kv,h3,h4⟩:=List.mem_filterMap.mp h2
 split at h4
 ·next c l'=>
  split at h4
  ·next hc=>
   cases h4
   obtain⟨ys,hy⟩:=Option.isSome_iff_exists.mp hc.1
   exact⟨tb.1,c,ys,tb.2,hy,h1,hc.2⟩
  ·cases h4
 ·cases h4
theorem dL.noext{nm:Str}{B:BM}(F:dL CF CB CT H fi bd fd lk nm B kf)(hb:b∈ [fi,bd,fd] ++ B.foot){φ:Heap->Prop}(z:H b=some (HO.ext φ)):False:=by
 obtain⟨dx,e1⟩:=F.fin
 obtain⟨kb,e2,e3⟩:=F.bds
 obtain⟨⟨d1,b1⟩,⟨⟨d2,b2⟩,b3,b4⟩,b5,b6,b7⟩:=F.B
 have e0:=F.fnd
 simp only[BM.foot,List.cons_append,List.nil_append,List.mem_cons,List.not_mem_nil,or_false]at hb
 rcases hb with rfl|rfl|rfl|rfl|rfl|rfl|rfl|rfl|rfl|rfl
 ·rw[e1]at z;cases z
 ·rw[e2]at z;cases z
 ·rw[e0]at z;cases z
 ·rw[b1]at z;cases z
 ·rw[b2]at z;cases z
 ·rw[b3]at z;cases z
 ·rw[b4]at z;cases z
 ·rw[b5]at z;cases z
 ·rw[b6]at z;cases z
 ·rw[b7]at z;cases z
structure iQ where
 fi:Addr
 bd:Addr
 fd:Addr
 lk:Addr
 tr:Addr
 tl:Addr
 tabs:List (Str×BM)
 Ks:List Ky
 gv:Str->Str->Option (List V)
 Vc:aU->Prop
 val:aU->PyData
 kf0:List (Ky×V)
 t0:GT
structure OkT(tabs:List (Str×BM))(Ks:List Ky)(gv:Str->Str->Option (List V))(Vc:aU->Prop):Prop where
 k8:Ks.length<=800
 v:∀x,Vc x->cK x∈Ks/\∃B,(x.1,B)∈tabs/\x.2.2<B.xs.length/\((∃ys,gv x.1 x.2.1=some ys/\ys.length=B.xs.length/\Nl x.2.1/\aE B.rus (.inr x.2.1:aB)=none)\/ (gv x.1 x.2.1=none/\∃r,aE B.rus (.inr x.2.1:aB)=some r))
def nT(CR:Addr)(X:iQ)(kt:List (Ky×V))(H:Hp):Option GT->Prop
 |some τ=>(∃dx,H X.tr=some (.ins CR dx (dP X.fi X.tl .non)))/\∃us,GT.Path X.val X.t0 us τ/\(∀x,(aE kt (cK x)).isSome=true↔x∈us)/\∀y∈us,X.gv y.1 y.2.1=none->(aE X.kf0 (cK y)).isSome=true
 |none=>∃dx la x,H X.tr=some (.ins CR dx (dP X.fi X.tl (.ref la)))/\H la=some (.tup ((cK x).map kV))/\x∈X.t0.looks X.val/\X.Vc x/\X.gv x.1 x.2.1=none/\aE X.kf0 (cK x)=none
theorem nT.tr{CR:Addr}{X:iQ}{kt:List (Ky×V)}:∀{o:Option GT},nT CR X kt H o->∃dx u,H X.tr=some (.ins CR dx (dP X.fi X.tl u))
 |some _,⟨⟨dx,e⟩,_⟩=>⟨dx,_,e⟩
 |none,⟨dx,la,_,e,_⟩=>⟨dx,_,e⟩
theorem nT.mv{CR:Addr}{X:iQ}{kt:List (Ky×V)}(k:bS H H')(e:∀o,H X.tr=some o->H' X.tr=some o):∀{o:Option GT},nT CR X kt H o->nT CR X kt H' o
 |some _,⟨⟨dx,h⟩,r⟩=>⟨⟨dx,e _ h⟩,r⟩
 |none,⟨dx,la,x,h,h2,r⟩=>⟨dx,la,x,e _ h,k _ _ h2,r⟩
structure JT(K:Fg)(CR CF CB CT:Addr)(X:iQ)(o:Option GT)(H:Hp):Prop where
 kf:∃kf,(∀tb∈X.tabs,dL CF CB CT H X.fi X.bd X.fd X.lk tb.1 tb.2 kf)/\H X.fd=some (.dT kf)/\dX X.Ks kf/\(∀t c p v ys,X.gv t c=some ys->aE kf (bF t c p)=some v->cI ys (p:Int)=some v)/\∀t c p,X.gv t c=none->aE kf (bF t c p)=aE X.kf0 (bF t c p)
 pd:∀x v,X.Vc x->X.gv x.1 x.2.1=none->aE X.kf0 (cK x)=some v->Pd K H v (X.val x)
 tl:∃kt,H X.tl=some (.dT kt)/\dX X.Ks kt/\nT CR X kt H o
 cols:∀t c ys B,X.gv t c=some ys->(t,B)∈X.tabs->∃l,aE B.kvs (.inr c:aB)=some (.ref l)/\H l=some (.lst ys)
 cd:∀t c ys (p:Nat) v,X.gv t c=some ys->cI ys (p:Int)=some v->Pd K H v (X.val (t,c,p))
structure tP(X:iQ)(W:List Addr):Prop where
 o:X.fd∈W/\X.tr∈W/\X.tl∈W
 f:∀tb∈X.tabs,∀b∈ [X.fi,X.bd,X.fd] ++ tb.2.foot,b∈W
 c:∀t c ys B l,X.gv t c=some ys->(t,B)∈X.tabs->aE B.kvs (.inr c:aB)=some (.ref l)->l∈W
 n:∀b∈W,b=X.fd\/ b=X.tr\/ b=X.tl\/ (∃tb∈X.tabs,b∈ [X.fi,X.bd,X.fd] ++ tb.2.foot)\/ ∃t c ys B,X.gv t c=some ys/\(t,B)∈X.tabs/\aE B.kvs (.inr c:aB)=some (.ref b)
theorem JT.st{CR:Addr}{X:iQ}{W:List Addr}(w:tP X W):gD (JT K CR CF CB CT X) W [X.fd,X.tl,X.tr] where
 there:=fun o H h b mb z=>by
  obtain⟨kf,F,e0,_⟩:=h.kf
  obtain⟨kt,t2,_,tr⟩:=h.tl
  obtain⟨d3,u,t1⟩:=tr.tr
  rcases w.n b mb with rfl|rfl|rfl|⟨tb,h1,h2⟩|⟨t,c,ys,B,g1,g2,g3⟩
  ·rw[e0]at z;cases z
  ·rw[t1]at z;cases z
  ·rw[t2]at z;cases z
  ·exact(F tb h1).isthere h2 z
  ·obtain⟨l,g4,g5⟩:=h.cols t c ys B g1 g2
   rw[g3]at g4
   cases g4
   rw[g5]at z;cases z
 stay:=fun o H H' k kz kt h=>by
  obtain⟨kf,F,e0,r1,r2,r3⟩:=h.kf
  obtain⟨kt',t2,t3,tr⟩:=h.tl
  exact⟨⟨kf,fun tb htb=>(F tb htb).mvW fun b o hb e=>k _ _ (w.f tb htb b hb) e,k _ _ w.o.1 e0,r1,r2,r3⟩,fun x v a b c=>(h.pd x v a b c).keep kt,⟨kt',k _ _ w.o.2.2 t2,t3,tr.mv kt.t (fun o e=>k _ _ w.o.2.1 e)⟩,fun t c ys B g1 g2=>by
   obtain⟨l,g3,g4⟩:=h.cols t c ys B g1 g2
   exact⟨l,g3,k _ _ (w.c t c ys B l g1 g2 g3) g4⟩,fun t c ys p v a b=>(h.cd t c ys p v a b).keep kt⟩
 mt:=fun o H h b hb=>by
  obtain⟨kf,_,e,_⟩:=h.kf
  obtain⟨kt,e2,_,tr⟩:=h.tl
  obtain⟨d3,u,t1⟩:=tr.tr
  simp only[List.mem_cons,List.not_mem_nil,or_false]at hb
  rcases hb with rfl|rfl|rfl
  ·exact .inl ⟨kf,e⟩
  ·exact .inl ⟨kt,e2⟩
  ·exact .inr ⟨_,_,_,t1⟩
theorem a23{X:iQ}{kt:List (Ky×V)}{us:List aU}{c:aU}(h:∀x,(aE kt (cK x)).isSome=true↔x∈us)(v:V):∀x,(aE (aQ kt (cK c) v) (cK x)).isSome=true↔x∈us++ [c]:=fun x=>by
 rw[fQ,List.mem_append,List.mem_singleton]
 by_cases e:cK x=cK c
 ·rw[if_pos e]
  exact⟨fun _=> .inr (qI e),fun _=>rfl⟩
 ·rw[if_neg e]
  exact⟨fun y=> .inl ((h x).mp y),fun y=>y.elim (h x).mpr (fun z=>absurd (by rw[z]) e)⟩
theorem a4o(bd fd lk fi tl:Addr)(u:V):fR bd fd lk≠dP fi tl u:=fun h=>by
 have h1:(fR bd fd lk).map (·.1)=(dP fi tl u).map (·.1):=by rw[h]
 exact absurd h1 (show¬([("boards":Str),("found":Str),("looked":Str)]= [("finder":Str),("looked":Str),("lacking":Str)])by decide+kernel)
theorem a7X(r:Addr)(n:Int)(d fi tl:Addr)(u:V):kP r n d≠dP fi tl u:=fun h=>by
 have h1:(kP r n d).map (·.1)=(dP fi tl u).map (·.1):=by rw[h]
 exact absurd h1 (show¬([("row_numbers":Str),("fresh_number":Str),("kept":Str)]= [("finder":Str),("looked":Str),("lacking":Str)])by decide+kernel)
section
theorem JT.look{CR pU:Addr}(hU:∀H,bU K H pU [V.str ("fault":Str),V.str ("unknown":Str)]){X:iQ}{W:List Addr}(wf:tP X W)(ne:X.tl≠X.fd)(O:OkT X.tabs X.Ks X.gv X.Vc){o:Option GT}{t:Str}(hJ:JT K CR CF CB CT X o H)(hV:X.Vc (t,c,p))(hτ:∀τ,o=some τ->∃k,τ= .look (t,c,p) k){Q:VK}
 (q:∀H' v d,eL [X.fd,X.tl,X.tr] H H'->Pd K H' v d->((∃k,o=some (.look (t,c,p) k)/\JT K CR CF CB CT X (some (k d)) H')\/ (d=kZ/\JT K CR CF CB CT X none H'))->Q v H'):
 sO CR CF CB CT pU [.ref X.tr,.str t,.str c,.int (p:Int)] H Q E0:=by
 obtain⟨kf,F,e0,r1,r2,r3⟩:=hJ.kf
 obtain⟨kt,t2,t3,trO⟩:=hJ.tl
 obtain⟨dx,u,htr⟩:=trO.tr
 obtain⟨kin,B,hB,hp,hcase⟩:=O.v _ hV
 have k8:=O.k8
 have lk:=r1.len
 have lt:=t3.len
 have S:=JT.st (K:=K) (CR:=CR) (CF:=CF) (CB:=CB) (CT:=CT) wf
 have nrf:X.tr≠X.fd:=fun y=>by rw[y,e0]at htr;cases htr
 have nrl:X.tr≠X.tl:=fun y=>by rw[y,t2]at htr;cases htr
 have fr3:∀{H':Hp},(∀x o,x≠X.fd->x≠X.tl->x≠X.tr->H x=some o->H' x=some o)->eL [X.fd,X.tl,X.tr] H H':=fun h b ob n e=>by
  simp only[List.mem_cons,List.not_mem_nil,or_false,not_or]at n
  exact h b ob n.1 n.2.1 n.2.2 e
 have upd':Pd K H (.ref pU) kZ:=⟨a4V,.tup (hU H) (.cons (.str _) (.cons (.str _) .nil))⟩
 have mk:∀{H':Hp} {o':Option GT} {kf' kt':List (Ky×V)},(∀x ob,x≠X.fd->x≠X.tl->x≠X.tr->H x=some ob->H' x=some ob)->H' X.fd=some (.dT kf')->kf'.length<900->dX X.Ks kf'->(∀t c p v ys,X.gv t c=some ys->aE kf' (bF t c p)=some v->cI ys (p:Int)=some v)->(∀t c p,X.gv t c=none->aE kf' (bF t c p)=aE X.kf0 (bF t c p))->H' X.tl=some (.dT kt')->dX X.Ks kt'->nT CR X kt' H' o'->JT K CR CF CB CT X o' H':=fun{H' o' kf' kt'} fr h1 h1l h2 h3 h4 h5 h6 h7=>by
  have k:∀{x:Addr} {ob:HO},H x=some ob->(∀y,ob≠ .dT y)->x≠X.tr->H' x=some ob:=fun e n m=>fr _ _ (fun y=>by rw[y,e0]at e;exact n _ (Option.some.inj e).symm) (fun y=>by rw[y,t2]at e;exact n _ (Option.some.inj e).symm) m e
  have kt:=S.tup hJ (fr3 fr)
  have nt:∀{x:Addr} {ob:HO},H x=some ob->(∀a b c,ob≠ .ins a b c)->x≠X.tr:=fun e n y=>by rw[y,htr]at e;exact n _ _ _ (Option.some.inj e).symm
  refine⟨⟨kf',fun tb htb=> ?_,h1,h2,h3,h4⟩,fun x v a b c=>(hJ.pd x v a b c).keep kt,⟨kt',h5,h6,h7⟩,fun t c ys B g1 g2=> ?_,fun t c ys p v a b=>(hJ.cd t c ys p v a b).keep kt⟩
  ·obtain⟨d0,e1⟩:=(F tb htb).fin
   obtain⟨kb,e2,e3⟩:=(F tb htb).bds
   obtain⟨⟨d1,b1⟩,⟨⟨d2,b2⟩,b3,b4⟩,b5,b6,b7⟩:=(F tb htb).B
   have n1:X.fi≠X.tr:=fun y=>by
    rw[y,htr]at e1
    exact a4o _ _ _ _ _ _ (HO.ins.inj (Option.some.inj e1)).2.2.symm
   have n2:tb.2.g≠X.tr:=fun y=>by
    rw[y,htr]at b2
    exact a7X _ _ _ _ _ _ (HO.ins.inj (Option.some.inj b2)).2.2.symm
   exact⟨⟨d0,k e1 nk n1⟩,⟨kb,k e2 nk (nt e2 (fun _ _ _ y=>by cases y)),e3⟩,⟨⟨d1,k b1 nk (uS b1 htr (show 4≠3 by decide))⟩,⟨⟨d2,k b2 nk n2⟩,k b3 nk (nt b3 (fun _ _ _ y=>by cases y)),k b4 nk (nt b4 (fun _ _ _ y=>by cases y))⟩,k b5 nk (nt b5 (fun _ _ _ y=>by cases y)),k b6 nk (nt b6 (fun _ _ _ y=>by cases y)),k b7 nk (nt b7 (fun _ _ _ y=>by cases y))⟩,h1,h1l⟩
  ·obtain⟨l,g3,g4⟩:=hJ.cols t c ys B g1 g2
   exact⟨l,g3,k g4 nk (nt g4 (fun _ _ _ y=>by cases y))⟩
 have ktp:dX X.Ks (aQ kt (bF t c p) (.bl true)):=t3.put kin
 refine⟨X.tr,X.tl,X.fi,X.bd,X.fd,X.lk,dx,t,c,p,B,kf,kt,u,rfl,htr,t2,by omega,ne,F _ hB,?_⟩
 cases o with
 |none=>
  obtain⟨dx',la,x,g1,g2,g3⟩:=trO
  have eu:u= .ref la:=by
   rw[htr]at g1
   have:=(HO.ins.inj (Option.some.inj g1)).2.2
   have h2:(dP X.fi X.tl u).lookup ("lacking":Str)=(dP X.fi X.tl (.ref la)).lookup ("lacking":Str):=by rw[this]
   exact Option.some.inj h2
  refine .inr (.inr (.inr ⟨⟨la,eu⟩,fun H' h1 h2=> ?_⟩))
  have fr:∀x ob,x≠X.fd->x≠X.tl->x≠X.tr->H x=some ob->H' x=some ob:=fun x ob _ n _ e=>h2 x ob n e
  have kt2:=S.tup hJ (fr3 fr)
  exact q H' _ kZ (fr3 fr) (upd'.keep kt2) (.inr ⟨rfl,mk fr (h2 _ _ ne.symm e0) (by omega) r1 r2 r3 h1 ktp ⟨dx',la,x,h2 _ _ nrl g1,kt2.t _ _ g2,g3⟩⟩)
 |some τ=>
  obtain⟨⟨dx',g1⟩,us,path,hus,hkn⟩:=trO
  have eu:u= .non:=by
   rw[htr]at g1
   have:=(HO.ins.inj (Option.some.inj g1)).2.2
   have h2:(dP X.fi X.tl u).lookup ("lacking":Str)=(dP X.fi X.tl .non).lookup ("lacking":Str):=by rw[this]
   exact Option.some.inj h2
  obtain⟨kk,rfl⟩:=hτ _ rfl
  have path':=path.snoc
  rcases hcase with⟨ys,g,ly,nc,hru⟩|⟨g,r,hru⟩
  ·obtain⟨l,hv,hl⟩:=hJ.cols t c ys B g hB
   have hpy:p<ys.length:=by rw[ly];exact hp
   obtain⟨v,hv'⟩:∃v,ys[p]?=some v:=⟨_,List.getElem?_eq_getElem hpy⟩
   have ha:=jB hv'
   refine .inl ⟨eu,l,ys,v,hru,nc,hv,hl,hp,ha,fun v' e=> ?_,by omega,fun H' kf' hk vk F' h1 h2=> ?_⟩
   ·have:=r2 t c p v' ys g e
    rw[ha]at this
    exact(Option.some.inj this).symm
   ·have fr:∀x ob,x≠X.fd->x≠X.tl->x≠X.tr->H x=some ob->H' x=some ob:=fun x ob n1 n2 _ e=>h2 x ob n1 n2 e
    have kt2:=S.tup hJ (fr3 fr)
    have w1':dX X.Ks kf':=by
     rcases hk with rfl|rfl
     ·exact r1
     ·exact r1.put kin
    refine q H' v (X.val (t,c,p)) (fr3 fr) ((hJ.cd t c ys p v g ha).keep kt2) (.inl ⟨kk,rfl,mk fr F'.fnd F'.len w1' (fun t' c' p' v' ys' g' e=> ?_) (fun t' c' p' g'=> ?_) h1 ktp ⟨⟨dx',h2 _ _ nrf nrl g1⟩,us++ [(t,c,p)],path',a23 (X:=X) (c:=(t,c,p)) hus _,fun y hy gy=>(List.mem_append.mp hy).elim (fun h=>hkn y h gy) (fun h=>by rw[List.mem_singleton]at h;subst h;rw[show X.gv t c=some ys from g]at gy;cases gy)⟩⟩)
    ·rcases hk with rfl|rfl
     ·exact r2 t' c' p' v' ys' g' e
     ·rw[fQ]at e
      split at e
      ·next h=>
       obtain⟨rfl,rfl,rfl⟩:=zX h
       rw[g]at g'
       rw[<- Option.some.inj g',<- Option.some.inj e]
       exact ha
      ·exact r2 t' c' p' v' ys' g' e
    ·rcases hk with rfl|rfl
     ·exact r3 t' c' p' g'
     ·rw[fQ,if_neg (fun h=>by
       obtain⟨rfl,rfl,rfl⟩:=zX h
       rw[g]at g'
       cases g')]
      exact r3 t' c' p' g'
  ·have k0:=r3 t c p g
   cases hv:aE kf (bF t c p)with
   |some v=>
    refine .inr (.inl ⟨eu,r,v,hru,rfl,fun H' h1 h2=> ?_⟩)
    have fr:∀x ob,x≠X.fd->x≠X.tl->x≠X.tr->H x=some ob->H' x=some ob:=fun x ob _ n _ e=>h2 x ob n e
    have kt2:=S.tup hJ (fr3 fr)
    exact q H' v (X.val (t,c,p)) (fr3 fr) ((hJ.pd (t,c,p) v hV g (by rw[<- hv];exact k0.symm)).keep kt2) (.inl ⟨kk,rfl,mk fr (h2 _ _ ne.symm e0) (by omega) r1 r2 r3 h1 ktp ⟨⟨dx',h2 _ _ nrl g1⟩,us++ [(t,c,p)],path',a23 (X:=X) (c:=(t,c,p)) hus _,fun y hy gy=>(List.mem_append.mp hy).elim (fun h=>hkn y h gy) (fun h=>by rw[List.mem_singleton]at h;subst h;rw[show aE X.kf0 (cK (t,c,p))=some v from by rw[<- hv];exact k0.symm];rfl)⟩⟩)
   |none=>
    refine .inr (.inr (.inl ⟨eu,r,hru,rfl,fun H' la h0 h1 h2 h3 h4=> ?_⟩))
    have fr:∀x ob,x≠X.fd->x≠X.tl->x≠X.tr->H x=some ob->H' x=some ob:=fun x ob _ n m e=>h4 x ob n m e
    have kt2:=S.tup hJ (fr3 fr)
    refine q H' _ kZ (fr3 fr) (upd'.keep kt2) (.inr ⟨rfl,mk fr (h4 _ _ ne.symm nrf.symm e0) (by omega) r1 r2 r3 h3 ktp ⟨dx,la,(t,c,p),h2,h1,?_,hV,g,by rw[<- hv];exact k0.symm⟩⟩)
    rw[path.looks]
    exact List.mem_append_right _ aa
end
theorem yK{H₁:Hp}{f:dY}{cv:List V}{k:Nat}{spB:List V->Hp->VK->Prop}{sc:Scope}(la:fS q params body scope (fH X.env.cells scope.names []) H₁ fa)(L:jD X σ H₁ f)
 (hcell:∀x,X.env.scope.names.lookup x=some .cell->∃c,X.env.cells.lookup x=some c)
 (hcv:cp.map (fun p=>σ[p.1]?)=cv.map fun v=>some (some v))
 (hb:∀(pm ctv:Value) (c:Addr) (clos:List (Str×Addr)) (us:List Value),us.length=ps.length->bindArgs (W.kla_fn "<lambda>" q params body scope clos pm (.ref c) ctv) ⟨us,[]⟩=pure (ps.zip us))
 (hbody:∀(cd:Value) (A:Around) (outer:List Env) (s:Shared) (H:Hp) (vs:List V) (Q:VK),bT k (A.deeper (W.envX q scope s.heap.objs.size fa cd (fH X.env.cells scope.names [])))->spB vs H Q->
  ∃t,PE (qW X.prog X.w X.K X.mg X.base (ps++ cp.map (·.2)) q scope fa cd (fH X.env.cells scope.names []) A outer s H) body t/\t ((vs++ cv).map some) H Q)
 (hs:X.env.scope=sc:=by rfl)(hN:X.N=N:=by rfl)
 (hcp:∀p∈cp,N[p.1]?=some p.2/\sc.names.lookup p.2=some .cell/\scope.names.lookup p.2=some .free:=by decide+kernel)
 (free:∀y∈scope.names,y.2= .free->sc.names.lookup y.1=some .cell:=by decide+kernel)
 (kind:scope.kind= .function:=by rfl)(co:scope.isCoroutine=false:=by rfl)(gen:scope.isGenerator=false:=by rfl)(nocell:∀y∈scope.names,y.2≠ .cell:=by decide+kernel)(par:∀x∈ps,scope.names.lookup x=some .local:=by decide+kernel)(nd:(ps++ cp.map (·.2)).Nodup:=by decide+kernel):
 eI X.prog X.w X.K X.mg X.base (k+ 1) fa (nA fa f q params body scope (fH X.env.cells scope.names []) ps.length spB):=by
 subst hs hN
 exact a4g L hcell hcv hcp free kind co gen nocell par nd hb hbody
theorem qA{P:Addr}(s:aH H H')(h:fM q H P):fM q H' P:=by
 obtain⟨S,e,r⟩:=h
 exact⟨S,s _ _ e,fun c hc=>let ⟨o,e1,e2⟩:=r c hc;⟨o,s _ _ e1,e2⟩⟩
theorem pD{f:dY}(h:dF f H b=some o):f b=none/\H b=some o:=by
 cases e:f b with
 |none=>rw[dG e]at h;exact⟨rfl,h⟩
 |some ob=>rw[jK e]at h;cases h
theorem wU{f:dY}(h:∀b o,f b=some o->H b=none):dF f (cU f H)=H:=by
 funext b
 cases e:f b with
 |none=>rw[dG e,cZ e]
 |some ob=>rw[jK e,h b ob e]
theorem oX(s:cS H H')(h:fS q params body scope clos H fa):fS q params body scope clos H' fa:=by
 obtain⟨pm,c,ctv,o,e1,e2,e3⟩:=h
 exact⟨pm,c,ctv,o,s _ _ e1,s _ _ e2,e3⟩
def lN(f:dY)(LL:Hp->Prop)(J:Option GT->Hp->Prop)(o:Option GT)(H:Hp):Prop:=LL H/\(∀b ob,f b=some ob->H b=some (Fz ob))/\J o (dF f H)
theorem lN.st{f:dY}{W:List Addr}(S:gD J W M)(sl:∀H H',cS H H'->LL H->LL H'):gD (lN f LL J) W M where
 there:=fun o H h b mb z=>S.there _ _ h.2.2 b mb (by
  cases e:f b with
  |none=>rw[dG e];exact z
  |some ob=>exact jK e)
 stay:=fun o H H' k kz kt h=>⟨sl _ _ kz h.1,fun b ob e=>kz _ _ (h.2.1 b ob e),S.stay _ _ _ (fun b ob mb e=>by
  obtain⟨e1,e2⟩:=pD e
  rw[dG e1]
  exact k _ _ mb e2) (fun b u e=>by
  obtain⟨e1,e2⟩:=pD e
  rw[dG e1]
  exact kz _ _ e2) (fun x ob hx e=>by
  obtain⟨e1,e2⟩:=pD e
  rw[dG e1]
  exact kt _ _ hx e2) h.2.2⟩
 mt:=fun o H h b hb=>(S.mt o _ h.2.2 b hb).imp (fun⟨k,e⟩=>⟨k,(pD e).2⟩) (fun⟨C,dx,fs,e⟩=>⟨C,dx,fs,(pD e).2⟩)
section
variable{k:Nat}{f:dY}
theorem a3a{W:List Addr}(S:gD J W M)(sl:∀H H',cS H H'->LL H->LL H'){o o':Option GT}(h:lN f LL J o H)(fr:∀b ob,f b=some ob->H' b=none)(u:eL M (dF f H) H')(j:J o' H'):eL M H (cU f H')/\lN f LL J o' (cU f H'):=by
 have f2:eL M H (cU f H'):=fun b ob n1 e=>by
  cases e2:f b with
  |none=>rw[cZ e2];exact u _ _ n1 (by rw[dG e2];exact e)
  |some ob=>rw[h.2.1 b ob e2]at e;rw[kU e2];exact e
 refine⟨f2,sl _ _ (fun b u' e=>f2 _ _ (fun hm=> ?_) e) h.1,fun b ob e=>kU e,?_⟩
 ·rcases S.mt _ _ h.2.2 b hm with⟨k,e2⟩|⟨C,dx,fs,e2⟩<;>rw[(pD e2).2]at e<;>cases e
 ·rw[wU fr]
  exact j
def zS(K:Fg)(Vc:aU->Prop)(J:Option GT->Hp->Prop)(M:List Addr):List V->Hp->VK->Prop:=fun vs H Q=>∃(t c:Str) (p:Nat) (o:Option GT),vs= [.str t,.str c,.int (p:Int)] /\J o H/\Vc (t,c,p)/\(∀τ,o=some τ->∃k,τ= .look (t,c,p) k)/\
 ∀H' v d,eL M H H'->Pd K H' v d->((∃k,o=some (.look (t,c,p) k)/\J (some (k d)) H')\/ (d=kZ/\J none H'))->Q v H'
theorem a5G{W:List Addr}(S:gD J W M)(sl:∀H H',cS H H'->LL H->LL H')(la:∀H,LL H->fS q params body scope clos H fa)
 (F:eI P w K mg base k fa (nA fa f q params body scope clos 3 (zS K Vc J M))):eI P w K mg base k fa (oC K Vc (lN f LL J) M):=by
 refine F.imp fun vs H Q E h=> ?_
 obtain⟨t,c,p,o,rfl,hJ,hV,hτ,qq⟩:=h
 refine⟨rfl,la _ hJ.1,hJ.2.1,t,c,p,o,rfl,hJ.2.2,hV,hτ,fun H' v d fm pd en fr=> ?_⟩
 have kt:eD H' (cU f H'):=fun x ob _ e=>by
  cases e2:f x with
  |none=>rw[cZ e2];exact e
  |some ob2=>rw[fr x ob2 e2]at e;cases e
 rcases en with⟨kk,e1,j⟩|⟨rfl,j⟩
 ·obtain⟨f2,j2⟩:=a3a S sl hJ fr fm j
  exact qq _ v d f2 (pd.keep kt) (.inl ⟨kk,e1,j2⟩)
 ·obtain⟨f2,j2⟩:=a3a S sl hJ fr fm j
  exact qq _ v _ f2 (pd.keep kt) (.inr ⟨rfl,j2⟩)
def a0j(J:Option GT->Hp->Prop)(mv:Str->Nat->Prop):List V->Hp->VK->Prop:=fun vs H Q=>∃(t:Str) (m:Nat) (o:Option GT),vs= [.str t] /\mv t m/\J o H/\∀H',aH H H'->Q (.int (m:Int)) H'
theorem a4f{mv:Str->Nat->Prop}(la:∀H,LL H->fS q params body scope clos H fa)
 (F:eI P w K mg base k fa (nA fa f q params body scope clos 1 (a0j J mv))):eI P w K mg base k fa (vQ (lN f LL J) mv):=by
 refine F.imp fun vs H Q E h=> ?_
 obtain⟨t,m,o,rfl,hm,hJ,qq⟩:=h
 refine⟨rfl,la _ hJ.1,hJ.2.1,t,m,o,rfl,hm,hJ.2.2,fun H' s' fr=> ?_⟩
 refine qq _ (fun b ob e=> ?_)
 cases e2:f b with
 |none=>rw[cZ e2];exact s' b ob (by rw[dG e2];exact e)
 |some ob=>rw[hJ.2.1 b ob e2]at e;rw[kU e2];exact e
end
theorem a3U{k:Nat}{q':Str}{params':Arguments}{body':Expr}{scope':Scope}{clos':List (Str×Addr)}{la lm:Addr}{f:dY}{W:List Addr}{mv:Str->Nat->Prop}{o:Option GT}(S:gD J W M)(free:∀b ob,f b=some ob->H b=none)(hJ:J o H)(lA:fS q params body scope clos H la)(lB:fS q' params' body' scope' clos' H lm)
 (F1:eI P w K mg base k la (nA la f q params body scope clos 3 (zS K Vc J M)))(F2:eI P w K mg base k lm (nA lm f q' params' body' scope' clos' 1 (a0j J mv))):
 ∃J',J' o (cU f H)/\gD J' W M/\(∀o1 H1,J' o1 H1->(∀b ob,f b=some ob->H1 b=some (Fz ob))/\J o1 (dF f H1))/\eI P w K mg base k la (oC K Vc J' M)/\eI P w K mg base k lm (vQ J' mv):=by
 have st:∀H H':Hp,cS H H'->(fS q params body scope clos H la/\fS q' params' body' scope' clos' H lm)->fS q params body scope clos H' la/\fS q' params' body' scope' clos' H' lm:=fun H H' s h=>⟨oX s h.1,oX s h.2⟩
 have kz:cS H (cU f H):=fun b u e=>by
  cases e2:f b with
  |none=>rw[cZ e2];exact e
  |some ob=>rw[free b ob e2]at e;cases e
 refine⟨lN f (fun H=>fS q params body scope clos H la/\fS q' params' body' scope' clos' H lm) J,⟨st _ _ kz ⟨lA,lB⟩,fun b ob e=>kU e,?_⟩,lN.st S st,fun o1 H1 h=>h.2,a5G S st (fun H h=>h.1) F1,a4f (fun H h=>h.2) F2⟩
 rw[wU free]
 exact hJ
abbrev mE:Str:=("Finder.gathered":Str)++ ".<locals>." ++ "<lambda>"
section
inductive zV(P:Program)(w:World)(K:Fg)(mg:Str->Option Value)(base:Heap)(CR CF CB CT zt:Addr)(RG:Addr->Sp->Prop)(vs:List V)(H:Hp)(Q:VK)(E':XK):Prop
 |mk (X:iQ) (W ft:List Addr) (gr dx CG:Addr) (spg:Sp) (fs:List (Str×V)) (nm c:Str) (B:BM) (p:Nat):(vs= [.ref X.fi,.ref X.tr,.str nm,.str c,.int (p:Int)])->(JT K CR CF CB CT X (some X.t0) H)->(X.tl≠X.fd)->(OkT X.tabs X.Ks X.gv X.Vc)->(tP X W)->(zt∉W)->((nm,B)∈X.tabs)->(aE B.rus (.inr c:aB)=some (.ref gr))->(H gr=some (.ins CG dx fs))->(gr≠X.tr)->(RG CG spg)->(fs.lookup ("gather":Str)=none)->(fM mE H zt)->(zt∉ft)->(lU P w K mg base spg gr ft X.tabs X.Vc nm c p X.t0 H)->(∀H' fv tf,(∀b o,b≠X.fd->b≠X.tl->b≠X.tr->b≠zt->H b=some o->H' b=some o)->fM mE H' zt->pY K H H' fv tf->(JT K CR CF CB CT X (some (.done tf)) H'\/ JT K CR CF CB CT X none H')->Q fv H')->zV P w K mg base CR CF CB CT zt RG vs H Q E'
abbrev kI:List Str:=["self","trial","table","column","place"]
theorem a7C:bA kI kI (aO gO):={}
theorem a8m(T:bC K mg){CR:Addr}(R:nJ K mg CR)(Y:eT K mg CF)(Wb:cV K mg CB)(Z:dR K mg CT){z:Addr×Addr}(B2:kJ K mg "Finder" "gathered" "Finder.gathered" gO z)(M:jA mg base z.1 z.2)(hRG:∀C sp,RG C sp->cF K C/\aR P w K mg base aF 8 C "gather" ["self","look","many","table","column","place"] sp):aR P w K mg base aF 9 CF "gathered" kI (zV P w K mg base CR CF CB CT z.2 RG):=by
 obtain⟨pU,hpU,hU⟩:=T.g_UNKNOWN
 have G_look:aR P w K mg base aF 5 CR "look" ["self","table","column","place"] (sO CR CF CB CT pU):=a5F T hpU R Y Wb Z
 have G_many:aR P w K mg base aF 1 CT "many" ["self"] (lD CT):=mW T Z
 refine B2.known Y.c a7C (fun _ _ _ _ _ _ us hl=>wL (fun _ _ _ _ _=>rfl) us hl) (fun vs H Q E h=> ?_) (fun f A outer s H vs Q E hr h=> ?_)
 ·obtain⟨X,W,ft,gr,dx,CG,spg,fs,nm,c,B,p,rfl,_⟩:=h
  rfl
 ·obtain⟨X,W,ft,gr,dx,CG,spg,fs,nm,c,B,p,rfl,hJ,netl,O,wof,nzW,hB,hru,hgr,ngt,hG,hno,tb,nft,use,q⟩:=h
  have S:=JT.st (K:=K) (CR:=CR) (CF:=CF) (CB:=CB) (CT:=CT) wof
  have hu:=dO hr
  have hcl:∀x,(dM aF P w K mg base kI "Finder.gathered" (aO gO) f (.ref z.1) A outer s H E).nox.env.scope.names.lookup x=some .cell->∃c,(dM aF P w K mg base kI "Finder.gathered" (aO gO) f (.ref z.1) A outer s H E).nox.env.cells.lookup x=some c:=fun x hx=>Option.isSome_iff_exists.mp (PySem.W.cellsFrom_some _ _ _ (.inl hx))
  refine⟨_,(aL (bN (a8y (fD hu (aW (fD hu (aW (pv 0) rfl) (pv 2) (fun _ _=>rfl)) rfl) (pv 3) (fun _ _=>rfl)) hRG hr (aA (xU M rfl (mC (sc:=aO gO) (N:=kI) (cp:=[(1,"trial")]) hcl).clos rfl) (aA (xU M rfl (mC (sc:=aO gO) (N:=kI) (cp:=[(0,"self")]) hcl).clos rfl) (aA (pv 2) (aA (pv 3) (aA (pv 4) aI)))))))),?_⟩
  obtain⟨kf,F0,e0,r1,r2,r3⟩:=hJ.kf
  have F:=F0 _ hB
  obtain⟨d0,e1⟩:=F.fin
  obtain⟨kb,e2,e3⟩:=F.bds
  obtain⟨⟨d1,b1⟩,_,b5,_,_⟩:=id F.B
  refine⟨_,rfl,X.fi,CF,d0,_,_,rfl,e1,Y.cl,Y.n_boards,(iH _ _ _).1,_,rfl,X.bd,_,rfl,e3▸bW.k (k:=Sum.inr nm) e2,B.b,CB,d1,_,_,rfl,b1,Wb.cl,Wb.n_rules,(dJ _ _ _ _).2.1,_,rfl,B.ru,_,rfl,hru▸bW.k (k:=Sum.inr c) b5,CG,spg,gr,dx,_,hG,rfl,hgr,hno,tb,fun la HA hla sA tA lA=>⟨tA,fun lm HB hlm sB tB lB=>⟨_,rfl,_,rfl,_,rfl,fun f' Ln=> ?_⟩⟩⟩
  obtain⟨S0,t0,_⟩:=id tb
  have uB:nY z.2 H HB:=fun b o n e=>sB b o n (sA b o n e)
  have nz:∀{b:Addr} {o:HO},H b=some o->(∀φ,o≠ .ext φ)->b≠z.2:=fun e n y=>by rw[y,t0]at e;exact n _ (Option.some.inj e).symm
  obtain⟨SA,tA0,_⟩:=id tA
  have kzAB:cS HA HB:=fun b u e=>sB _ _ (fun y=>by rw[y,tA0]at e;cases e) e
  have kzB:cS H HB:=fun b u e=>uB _ _ (nz e (fun φ y=>by cases y)) e
  have ktB:eD H HB:=fun b u hx e=>uB _ _ (nz e (fun φ y=>by obtain⟨xs,rfl|⟨q,rfl⟩⟩:=hx<;>cases y)) e
  have JB:JT K CR CF CB CT X (some X.t0) HB:=S.stay _ _ _ (fun b o mb e=>uB _ _ (fun y=>nzW (y▸mb)) e) kzB ktB hJ
  have F1:=yK (sc:=aO gO) (N:=kI) (ps:=["theirs","name","row"]) (cp:=[(1,"trial")]) (cv:=[.ref X.tr]) (k:=5) (spB:=zS K X.Vc (JT K CR CF CB CT X) [X.fd,X.tl,X.tr]) (oX kzAB lA) Ln hcl rfl (fun _ _ _ _ us hl=>gM (fun _ _ _=>rfl) us hl) (fun cd A' outer' s' H' vs Q' hr' h'=>by
   obtain⟨t',c',p',o',rfl,hJ',hV',hτ',q'⟩:=h'
   refine⟨_,(cC (pv 3) R.cl G_look hr' aS (aA (pv 0) (aA (pv 1) (aA (pv 2) aI)))),?_⟩
   obtain⟨kt',t2,t3,trO⟩:=hJ'.tl
   obtain⟨d3,u,t1⟩:=trO.tr
   exact⟨_,rfl,X.tr,d3,_,rfl,t1,(oH _ _ _).2.2.2,_,rfl,_,rfl,_,rfl,JT.look hU wof netl O hJ' hV' hτ' q'⟩)
  have F2:=yK (sc:=aO gO) (N:=kI) (ps:=["theirs"]) (cp:=[(0,"self")]) (cv:=[.ref X.fi]) (k:=5) (spB:=a0j (JT K CR CF CB CT X) (mvX X.tabs)) lB Ln hcl rfl (fun _ _ _ _ us hl=>fK (fun _=>rfl) us hl) (fun cd A' outer' s' H' vs Q' hr' h'=>by
   obtain⟨t',m',o',rfl,⟨B',hB',rfl⟩,hJ',q'⟩:=h'
   refine⟨_,(mH (aW (fD (dO hr') (aW (pv 1) rfl) (pv 0) (fun _ _=>rfl)) rfl) Z.cl G_many (hr'.mono (by decide)) aS),?_⟩
   obtain⟨kf',F0',_⟩:=hJ'.kf
   have F':=F0' _ hB'
   obtain⟨d0',e1'⟩:=F'.fin
   obtain⟨kb',e2',e3'⟩:=F'.bds
   obtain⟨⟨d1',b1'⟩,tb',_,_,_⟩:=id F'.B
   obtain⟨⟨d2',b2'⟩,_,_⟩:=id tb'
   exact⟨_,rfl,X.fi,CF,d0',_,_,rfl,e1',Y.cl,Y.n_boards,(iH _ _ _).1,_,rfl,X.bd,_,rfl,e3'▸bW.k (k:=Sum.inr t') e2',B'.b,CB,d1',_,_,rfl,b1',Wb.cl,Wb.n_given,(dJ _ _ _ _).1,B'.g,d2',_,rfl,b2',gN,B'.g,B'.r,B'.e,B'.xs,B'.n,B'.kvs,rfl,tb',q' _ (aH.refl _)⟩)
  obtain⟨J',j1,S',j2,L1,L2⟩:=a3U S Ln.free JB (oX kzAB lA) lB F1 F2
  have nofL:∀b o,HB b=some o->f' b=none:=fun b o e=>by
   cases e2:f' b with
   |none=>rfl
   |some ob=>rw[Ln.free b ob e2]at e;cases e
  have sL:aH HB (cU f' HB):=fun b o e=>by rw[cZ (nofL b o e)];exact e
  have ngM:gr∉ [X.fd,X.tl,X.tr]:=fun hm=>by
   simp only[List.mem_cons,List.not_mem_nil,or_false]at hm
   obtain⟨kt',t2,_⟩:=hJ.tl
   rcases hm with h|h|h
   ·rw[h,e0]at hgr;cases hgr
   ·rw[h,t2]at hgr;cases hgr
   ·exact ngt h
  refine use la lm J' W [X.fd,X.tl,X.tr] (cU f' HB) _ (fun b hb o e=>sL _ _ (uB _ _ (fun y=>nft (y▸hb)) e)) ngM j1 S' L1 L2 fun H' fv tf fr told J2=> ?_
  have lf:∀b ob,f' b=some ob->H' b=some (Fz ob):=J2.elim (fun h=>(j2 _ _ h).1) (fun h=>(j2 _ _ h).1)
  have JJ:JT K CR CF CB CT X (some (.done tf)) (dF f' H')\/ JT K CR CF CB CT X none (dF f' H'):=J2.imp (fun h=>(j2 _ _ h).2) (fun h=>(j2 _ _ h).2)
  have KN:∀{b:Addr} {o:HO},(∀u,o≠Fz u)->H' b=some o->dF f' H' b=some o:=fun{b o} n e=>by
   cases e2:f' b with
   |none=>rw[dG e2];exact e
   |some ob=>rw[lf b ob e2]at e;exact absurd (Option.some.inj e).symm (n ob)
  have up:∀{b:Addr} {o:HO},b∉ [X.fd,X.tl,X.tr] ->HB b=some o->dF f' H' b=some o:=fun{b o} n1 e=>by
   rw[dG (nofL b o e)]
   exact fr _ _ n1 (sL _ _ e)
  refine q _ fv tf (fun b o n1 n2 n3 n4 e=>up (by simp only[List.mem_cons,List.not_mem_nil,or_false,not_or];exact⟨n1,n2,n3⟩) (uB _ _ n4 e)) ?_ ?_ JJ
  ·obtain⟨SB,tB0,tB1⟩:=tB
   refine⟨SB,up (S.out JB tB0 nk (fun _ _ _ y=>by cases y)) tB0,fun c' hc'=> ?_⟩
   obtain⟨o,o1,o2⟩:=tB1 c' hc'
   exact⟨o,up (S.out JB o1 nk (fun _ _ _ y=>by cases y)) o1,o2⟩
  ·have ktu:eD H' (dF f' H'):=fun a o hx e=>KN (fun u y=>by obtain⟨xs,rfl|⟨q,rfl⟩⟩:=hx<;>(unfold Fz at y;cases y)) e
   cases tf with
   |inl d=>
    obtain⟨a,v,r1',r2',r3'⟩:=told
    exact⟨a,v,r1',ktu.t _ _ r2',r3'.keep ktu⟩
   |inr is=>
    obtain⟨a,l,r1',r2',r3',r4'⟩:=told
    refine⟨a,l,r1',ktu.t _ _ r2',KN (fun u y=>by cases y) r3',?_⟩
    cases e:H l with
    |none=>rfl
    |some o=>
     exfalso
     by_cases y:l=z.2
     ·rw[y]at r4'
      obtain⟨SB,tB0,_⟩:=tB
      rw[sL _ _ tB0]at r4'
      cases r4'
     ·rw[sL _ _ (uB _ _ y e)]at r4'
      cases r4'
end
structure RD where
 gr:Addr
 fa:Addr
 mc:Addr
 CG:Addr
 fs:List (Str×V)
 ft:List Addr
 mrk:Option V
 g:List Int->PyData
 ok:List Int->Prop
 spg:Sp
structure SX where
 fi:Addr
 bd:Addr
 fd:Addr
 lk:Addr
 tabs:List (Str×BM)
 Ks:List Ky
 gv:Str->Str->Option (List V)
 Vc:aU->Prop
 val:aU->PyData
 rl:Str->Str->Option RD
 tree:aU->GT
 rk:aU->Nat
 Rs:List aU
 num:Str->Nat->Nat
 bnd:Nat
 ca:Option Addr
 fx:List Addr
 abn:Str->Nat->Prop
 wa:Str->Str->Nat->Option (List Int×V)
def tI(g:List Int->PyData):PyData ⊕ List Int->PyData
 | .inl d=>d
 | .inr is=>fC (g is)
structure gU(X:SX):Prop where
 o:OkT X.tabs X.Ks X.gv X.Vc
 un:∀t B B',(t,B)∈X.tabs->(t,B')∈X.tabs->B=B'
 rr:∀x,X.Vc x->X.gv x.1 x.2.1=none->∃R,X.rl x.1 x.2.1=some R
 ru:∀t c R B,X.rl t c=some R->(t,B)∈X.tabs->aE B.rus (.inr c:aB)=some (.ref R.gr)/\aE B.mes (.inr c:aB)=some (.ref R.mc)
 no:∀t c R,X.rl t c=some R->X.gv t c=none
 rf:∀t c R,X.rl t c=some R->RF R.fs R.fa/\R.fs.lookup ("gather":Str)=none
 gg:∀t c R,X.rl t c=some R->∀is,R.ok is->jI (R.g is)/\Vd (fC (R.g is))
 ft:∀t c R,X.rl t c=some R->R.gr∈R.ft/\∀b∈R.ft,X.ca≠some b
 mb:∀t c R,X.rl t c=some R->R.mc≠X.bd
 mm:∀t c R,X.rl t c=some R->∀tb∈X.tabs,R.mc≠tb.2.e/\R.mc≠tb.2.ru/\R.mc≠tb.2.me
 md:∀t c R t' c' R',X.rl t c=some R->X.rl t' c'=some R'->R.mc=R'.mc->t=t'/\c=c'
 cc:∀tb∈X.tabs,X.ca≠some tb.2.r/\X.ca≠some tb.2.od
 cl:∀t c ys B l,X.gv t c=some ys->(t,B)∈X.tabs->aE B.kvs (.inr c:aB)=some (.ref l)->X.ca≠some l
 fl:X.fd≠X.lk
 nu:∀t B p,(t,B)∈X.tabs->p<B.xs.length->cI B.xs (p:Int)=some (.int ((X.num t p:Nat):Int))/\X.num t p<X.bnd
 ni:∀t B p p',(t,B)∈X.tabs->p<B.xs.length->p'<B.xs.length->X.num t p=X.num t p'->p=p'
 b8:X.bnd<=85
 ab:∀t B p j,(t,B)∈X.tabs->p<B.xs.length->X.abn t j->X.num t p≠j
 cf:∀a,X.ca=some a->a∈X.fx
 rs:∀x,X.Vc x->X.gv x.1 x.2.1=none->x∈X.Rs
 rs':∀x∈X.Rs,X.gv x.1 x.2.1=none
 rn:X.Rs.Nodup
 sem:∀x R,X.Vc x->X.rl x.1 x.2.1=some R->X.val x=tI R.g ((X.tree x).run X.val)
 lks:∀x R,X.Vc x->X.rl x.1 x.2.1=some R->∀y∈(X.tree x).looks X.val,X.Vc y/\(X.gv y.1 y.2.1=none->X.rk y<X.rk x)
 oks:∀x R,X.Vc x->X.rl x.1 x.2.1=some R->∀is,(X.tree x).run X.val= .inr is->R.ok is/\is.length<=100
theorem gU.B{X:SX}(O:gU X){x:aU}(h:X.Vc x):∃B,(x.1,B)∈X.tabs/\x.2.2<B.xs.length:=by
 obtain⟨_,B,h1,h2,_⟩:=O.o.v x h
 exact⟨B,h1,h2⟩
def jV(n:Nat)(mk:List (aB×V)):Prop:=(mk.map (·.1)).Nodup/\∀k∈mk.map (·.1),∃j:Nat,k=(.inl (j:Int):aB)/\j<n
theorem jV.len{n:Nat}(h:jV n mk):mk.length<=n:=by
 have h2:=sJ (m:=(List.range n).map fun j:Nat=>(.inl (j:Int):aB)) h.1 (fun x hx=>by
  obtain⟨j,rfl,hj⟩:=h.2 x hx
  exact List.mem_map.mpr ⟨j,List.mem_range.mpr hj,rfl⟩)
 rw[List.length_map,List.length_map,List.length_range]at h2
 exact h2
theorem jV.nil{n:Nat}:jV n []:=⟨List.nodup_nil,fun k hk=>by cases hk⟩
theorem a5V{κ:Type} [DecidableEq κ]{kvs:List (κ×V)}{k:κ}{v x:V}(h:aE kvs k=some x):(aQ kvs k v).map (·.1)=kvs.map (·.1):=by
 unfold aQ
 rw[lO,h,if_pos (show(some x).isSome=true from rfl),List.map_map]
 refine List.map_congr_left fun p _=> ?_
 show(if p.1=k then _ else _:κ×V).1=p.1
 split<;>rfl
theorem jV.put{n:Nat}{v:V}(h:jV n mk)(hj:j<n):jV n (aQ mk (.inl (j:Int):aB) v):=by
 cases e:aE mk (.inl (j:Int):aB)with
 |some x=>
  have:(aQ mk (.inl (j:Int):aB) v).map (·.1)=mk.map (·.1):=a5V e
  exact⟨by rw[this];exact h.1,fun k hk=>h.2 k (by rw[<- this];exact hk)⟩
 |none=>
  refine⟨a0D v h.1 e,fun k hk=> ?_⟩
  rw[uV v e,List.map_append]at hk
  rcases List.mem_append.mp hk with hk|hk
  ·exact h.2 k hk
  ·rw[List.map_cons,List.map_nil,List.mem_singleton]at hk
   exact⟨j,hk,hj⟩
def gJ(fx:List Addr)(H:Hp)(mk:List (aB×V))(n:Int):Option (List Int×V)->Prop
 |none=>aE mk (.inl n:aB)=none
 |some jv=>∃tp lo,aE mk (.inl n:aB)=some (.ref tp)/\H tp=some (.tup [.ref lo,jv.2])/\H lo=some (.lst (jv.1.map V.int))/\lo∉fx
theorem gJ.mv{fx:List Addr}{mk':List (aB×V)}{n:Int}(e:aE mk' (.inl n:aB)=aE mk (.inl n:aB))(k:bS H H')(u:∀b ys,b∉fx->H b=some (.lst ys)->H' b=some (.lst ys)):∀{wo:Option (List Int×V)},gJ fx H mk n wo->gJ fx H' mk' n wo
 |none,h=>by show aE mk' _=none;rw[e];exact h
 |some jv,⟨tp,lo,a,b,c,d⟩=>⟨tp,lo,by rw[e];exact a,k _ _ b,u _ _ d c,d⟩
def lY(fx:List Addr)(H:Hp)(v:V)(n:Option V×List Int):Prop:=∃lc,rE H n.1 n.2 v lc/\lc∉fx
theorem lY.mv{fx:List Addr}{v:V}{n:Option V×List Int}(k:bS H H')(u:∀b ys,b∉fx->H b=some (.lst ys)->H' b=some (.lst ys))(h:lY fx H v n):lY fx H' v n:=by
 obtain⟨lc,h1,h2⟩:=h
 exact⟨lc,h1.mv k (u _ _ h2 h1.1),h2⟩
section
structure SB(P:Program)(w:World)(K:Fg)(mg:Str->Option Value)(base:Heap)(RG:Addr->Sp->Prop)(CF CB CT zt:Addr)(X:SX)(kf kl:List (Ky×V))(mem:Str->Str->List (aB×V))(wo:aU->Option (List Int×V))(cs:List V)(ns:List (Option V×List Int))(H:Hp):Prop where
 F:∀tb∈X.tabs,dL CF CB CT H X.fi X.bd X.fd X.lk tb.1 tb.2 kf
 fd:H X.fd=some (.dT kf)
 ko:dX X.Ks kf
 fo:∀t c p v ys,X.gv t c=some ys->aE kf (bF t c p)=some v->cI ys (p:Int)=some v
 fp:∀x v,X.Vc x->X.gv x.1 x.2.1=none->aE kf (cK x)=some v->Pd K H v (X.val x)/\∀is,(X.tree x).run X.val= .inr is->wo x=some (is,v)
 lp:∀x v,X.Vc x->X.gv x.1 x.2.1=none->aE kf (cK x)=some v->∃tl kt,aE kl (cK x)=some (.ref tl)/\H tl=some (.dT kt)/\tl≠X.fd/\tl≠X.lk/\dX X.Ks kt/\∀y,(aE kt (cK y)).isSome=true↔y∈(X.tree x).looks X.val
 ln:∀x,X.Vc x->X.gv x.1 x.2.1=none->aE kf (cK x)=none->aE kl (cK x)=none
 cz:∀x v,X.Vc x->X.gv x.1 x.2.1=none->aE kf (cK x)=some v->∀y∈(X.tree x).looks X.val,X.gv y.1 y.2.1=none->(aE kf (cK y)).isSome=true
 hl:H X.lk=some (.dT kl)
 lo:dX X.Ks kl
 cols:∀t c ys B,X.gv t c=some ys->(t,B)∈X.tabs->∃l,aE B.kvs (.inr c:aB)=some (.ref l)/\H l=some (.lst ys)
 cd:∀t c ys (p:Nat) v,X.gv t c=some ys->cI ys (p:Int)=some v->Pd K H v (X.val (t,c,p))
 rg:∀t c R,X.rl t c=some R->(∃dx,H R.gr=some (.ins R.CG dx R.fs))/\RG R.CG R.spg/\rZ K R.CG
 rm:∀t c R,X.rl t c=some R->H R.mc=some (.dK (mem t c))/\jV X.bnd (mem t c)
 rt:∀t c R,X.rl t c=some R->∀b∈R.ft,∃o,H b=some o/\(∀y,o≠ .dT y)/\(∀y,o≠ .dK y)/\(∀y,o≠ .ext y)/\∀u,o≠Fz u
 ra:∀t c R,X.rl t c=some R->∀p,X.Vc (t,c,p)->lU P w K mg base R.spg R.gr R.ft X.tabs X.Vc t c p (X.tree (t,c,p)) H
 me:∀x R,X.Vc x->X.rl x.1 x.2.1=some R->gJ X.fx H (mem x.1 x.2.1) (X.num x.1 x.2.2:Int) (wo x)/\∀is v,wo x=some (is,v)->Pd K H v (fC (R.g is))
 ab:∀t c R j,X.rl t c=some R->X.abn t j->gJ X.fx H (mem t c) (j:Int) (X.wa t c j)/\∀is v,X.wa t c j=some (is,v)->Pd K H v (fC (R.g is))
 ca:eU X.ca cs H
 nt:X.ca≠none->Paired (lY X.fx H) cs ns
 fx:∀b∈X.fx,H b≠none
 tb:fM mE H zt
def lX(P:Program)(w:World)(K:Fg)(mg:Str->Option Value)(base:Heap)(X:SX)(H:Hp):Prop:=∀t c R,X.rl t c=some R->iS P w K mg base 4 H R.fa X.ca R.mrk R.g R.ok
theorem lX.keep{X:SX}(k:cS H H')(h:lX P w K mg base X H):lX P w K mg base X H':=fun t c R e=>(h t c R e).keep k
variable{X:SX}{mem:Str->Str->List (aB×V)}
def dA(X:SX)(zt:Addr)(H H':Hp):Prop:=∀b o,b≠X.fd->b≠X.lk->b≠zt->X.ca≠some b->(∀t c R,X.rl t c=some R->b≠R.mc)->H b=some o->H' b=some o
theorem dA.of(s:aH H H'):dA X zt H H':=fun b o _ _ _ _ _ e=>s _ _ e
theorem dA.trans(a:dA X zt H H1)(b:dA X zt H1 H2):dA X zt H H2:=fun x o n1 n2 n3 n4 n5 e=>b x o n1 n2 n3 n4 n5 (a x o n1 n2 n3 n4 n5 e)
theorem SB.k(S:SB P w K mg base RG CF CB CT zt X kf kl mem wo cs ns H)(f:dA X zt H H')(e:H b=some o)(n1:∀y,o≠ .dT y)(n2:∀y,o≠ .dK y)(n3:∀y,o≠ .ext y)(n4:X.ca≠some b):H' b=some o:=by
 obtain⟨Sz,tz,_⟩:=S.tb
 exact f b o (fun y=>by rw[y,S.fd]at e;exact n1 _ (Option.some.inj e).symm) (fun y=>by rw[y,S.hl]at e;exact n1 _ (Option.some.inj e).symm) (fun y=>by rw[y,tz]at e;exact n3 _ (Option.some.inj e).symm) n4 (fun t c R hR y=>by rw[y,(S.rm t c R hR).1]at e;exact n2 _ (Option.some.inj e).symm) e
theorem SB.nl(S:SB P w K mg base RG CF CB CT zt X kf kl mem wo cs ns H)(e:H b=some o)(n:∀y,o≠ .lst y):X.ca≠some b:=S.ca.ne e n
theorem SB.ktt(S:SB P w K mg base RG CF CB CT zt X kf kl mem wo cs ns H)(f:dA X zt H H'):eD H H':=fun x o hx e=>S.k f e (fun y z=>by obtain⟨xs,rfl|⟨q,rfl⟩⟩:=hx<;>cases z) (fun y z=>by obtain⟨xs,rfl|⟨q,rfl⟩⟩:=hx<;>cases z) (fun y z=>by obtain⟨xs,rfl|⟨q,rfl⟩⟩:=hx<;>cases z) (S.nl e (fun y z=>by obtain⟨xs,rfl|⟨q,rfl⟩⟩:=hx<;>cases z))
theorem SB.kz(S:SB P w K mg base RG CF CB CT zt X kf kl mem wo cs ns H)(f:dA X zt H H'):cS H H':=fun x u e=>S.k f e (fun y z=>by cases z) (fun y z=>by cases z) (fun y z=>by cases z) (S.nl e (fun y z=>by cases z))
theorem SB.kl'(S:SB P w K mg base RG CF CB CT zt X kf kl mem wo cs ns H)(O:gU X)(f:dA X zt H H'):∀b ys,b∉X.fx->H b=some (.lst ys)->H' b=some (.lst ys):=fun b ys n e=>S.k f e (fun y z=>by cases z) (fun y z=>by cases z) (fun y z=>by cases z) (fun y=>n (O.cf b y))
theorem SB.to(S:SB P w K mg base RG CF CB CT zt X kf kl mem wo cs ns H)(O:gU X)(f:dA X zt H H'){kl':List (Ky×V)}{mem':Str->Str->List (aB×V)}
 (hfd:H' X.fd=some (.dT kf'))(ko:dX X.Ks kf')(fo:∀t c p v ys,X.gv t c=some ys->aE kf' (bF t c p)=some v->cI ys (p:Int)=some v)
 (fp:∀x v,X.Vc x->X.gv x.1 x.2.1=none->aE kf' (cK x)=some v->Pd K H' v (X.val x)/\∀is,(X.tree x).run X.val= .inr is->wo' x=some (is,v))
 (lp:∀x v,X.Vc x->X.gv x.1 x.2.1=none->aE kf' (cK x)=some v->∃tl kt,aE kl' (cK x)=some (.ref tl)/\H' tl=some (.dT kt)/\tl≠X.fd/\tl≠X.lk/\dX X.Ks kt/\∀y,(aE kt (cK y)).isSome=true↔y∈(X.tree x).looks X.val)
 (ln:∀x,X.Vc x->X.gv x.1 x.2.1=none->aE kf' (cK x)=none->aE kl' (cK x)=none)
 (cz:∀x v,X.Vc x->X.gv x.1 x.2.1=none->aE kf' (cK x)=some v->∀y∈(X.tree x).looks X.val,X.gv y.1 y.2.1=none->(aE kf' (cK y)).isSome=true)
 (hl:H' X.lk=some (.dT kl'))(lo:dX X.Ks kl')(rm:∀t c R,X.rl t c=some R->H' R.mc=some (.dK (mem' t c))/\jV X.bnd (mem' t c))
 (me:∀x R,X.Vc x->X.rl x.1 x.2.1=some R->gJ X.fx H' (mem' x.1 x.2.1) (X.num x.1 x.2.2:Int) (wo' x)/\∀is v,wo' x=some (is,v)->Pd K H' v (fC (R.g is)))
 (ab:∀t c R j,X.rl t c=some R->X.abn t j->gJ X.fx H' (mem' t c) (j:Int) (X.wa t c j)/\∀is v,X.wa t c j=some (is,v)->Pd K H' v (fC (R.g is)))
 (ca:eU X.ca cs' H')(nt:X.ca≠none->Paired (lY X.fx H') cs' ns')(tb:fM mE H' zt):SB P w K mg base RG CF CB CT zt X kf' kl' mem' wo' cs' ns' H':=by
 have kt:=S.ktt f
 have l8:=ko.len
 have k8:=O.o.k8
 have kd:∀{b:Addr} {y:List (aB×V)},H b=some (.dK y)->(∀t c R,X.rl t c=some R->b≠R.mc)->H' b=some (.dK y):=fun{b y} e n=>by
  obtain⟨Sz,tz,_⟩:=S.tb
  exact f b _ (fun y=>by rw[y,S.fd]at e;cases e) (fun y=>by rw[y,S.hl]at e;cases e) (fun y=>by rw[y,tz]at e;cases e) (S.nl e (fun _ z=>by cases z)) n e
 have ki:∀{b C dx:Addr} {fs:List (Str×V)},H b=some (.ins C dx fs)->H' b=some (.ins C dx fs):=fun e=>S.k f e (fun _ z=>by cases z) (fun _ z=>by cases z) (fun _ z=>by cases z) (S.nl e (fun _ z=>by cases z))
 have kls:∀{b:Addr} {xs:List V},H b=some (.lst xs)->X.ca≠some b->H' b=some (.lst xs):=fun e n=>S.k f e (fun _ z=>by cases z) (fun _ z=>by cases z) (fun _ z=>by cases z) n
 refine⟨fun tb htb=> ?_,hfd,ko,fo,fp,lp,ln,cz,hl,lo,fun t c ys B g h=> ?_,fun t c ys p v a b=>(S.cd t c ys p v a b).keep kt,fun t c R hR=> ?_,rm,fun t c R hR b hb=> ?_,fun t c R hR p hp=> ?_,me,ab,ca,nt,fun b hb y=> ?_,tb⟩
 ·obtain⟨d0,e1⟩:=(S.F tb htb).fin
  obtain⟨kb,e2,e3⟩:=(S.F tb htb).bds
  obtain⟨⟨d1,b1⟩,⟨⟨d2,b2⟩,b3,b4⟩,b5,b6,b7⟩:=(S.F tb htb).B
  exact⟨⟨d0,ki e1⟩,⟨kb,kd e2 (fun t c R h=>(O.mb t c R h).symm),e3⟩,⟨⟨d1,ki b1⟩,⟨⟨d2,ki b2⟩,kls b3 (O.cc tb htb).1,kd b4 (fun t c R h=>(O.mm t c R h tb htb).1.symm)⟩,kd b5 (fun t c R h=>(O.mm t c R h tb htb).2.1.symm),kd b6 (fun t c R h=>(O.mm t c R h tb htb).2.2.symm),kls b7 (O.cc tb htb).2⟩,hfd,by omega⟩
 ·obtain⟨l,h1,h2⟩:=S.cols t c ys B g h
  exact⟨l,h1,kls h2 (O.cl t c ys B l g h h1)⟩
 ·obtain⟨⟨dx,e⟩,h1⟩:=S.rg t c R hR
  exact⟨⟨dx,ki e⟩,h1⟩
 ·obtain⟨o,e,n1,n2,n3,n4⟩:=S.rt t c R hR b hb
  exact⟨o,S.k f e n1 n2 n3 ((O.ft t c R hR).2 b hb),n1,n2,n3,n4⟩
 ·refine(S.ra t c R hR p hp).mv fun b hb o e=> ?_
  obtain⟨o',e',n1,n2,n3,n4⟩:=S.rt t c R hR b hb
  rw[e]at e'
  cases e'
  exact S.k f e n1 n2 n3 ((O.ft t c R hR).2 b hb)
 ·cases e:H b with
  |none=>exact S.fx b hb e
  |some o=>
   by_cases h1:b=X.fd
   ·rw[h1,hfd]at y;cases y
   ·by_cases h2:b=X.lk
    ·rw[h2,hl]at y;cases y
    ·by_cases h3:b=zt
     ·obtain⟨S',tz,_⟩:=tb
      rw[h3,tz]at y;cases y
     ·by_cases h4:X.ca=some b
      ·rw[ca.2 b h4]at y;cases y
      ·by_cases h5:∃t c R,X.rl t c=some R/\b=R.mc
       ·obtain⟨t,c,R,hR,rfl⟩:=h5
        rw[(rm t c R hR).1]at y;cases y
       ·rw[f b o h1 h2 h3 h4 (fun t c R hR z=>h5 ⟨t,c,R,hR,z⟩) e]at y
        cases y
theorem SB.mv(S:SB P w K mg base RG CF CB CT zt X kf kl mem wo cs ns H)(D:List Addr)(k1:∀b o,H b=some o->(∀y,o≠ .lst y)->(∀u,o≠Fz u)->H' b=some o)(k2:∀b ys,b∉D->H b=some (.lst ys)->H' b=some (.lst ys))(fx':∀b∈X.fx,H' b≠none)
 (d0:∀b∈D,b∈X.fx)(d1:∀b∈D,∀tb∈X.tabs,b≠tb.2.r/\b≠tb.2.od)(d2:∀b∈D,∀t c ys B,X.gv t c=some ys->(t,B)∈X.tabs->aE B.kvs (.inr c:aB)≠some (.ref b))(d3:∀b∈D,∀t c R,X.rl t c=some R->b∉R.ft)
 (ca':eU X.ca cs' H')(nt':X.ca≠none->Paired (lY X.fx H') cs' ns')(tb':fM mE H' zt):SB P w K mg base RG CF CB CT zt X kf kl mem wo cs' ns' H':=by
 have kt:eD H H':=fun x o hx e=>k1 x o e (fun y z=>by obtain⟨xs,rfl|⟨q,rfl⟩⟩:=hx<;>cases z) (fun u z=>by obtain⟨xs,rfl|⟨q,rfl⟩⟩:=hx<;>(unfold Fz at z;cases z))
 have kd:∀{b:Addr} {y:List (Ky×V)},H b=some (.dT y)->H' b=some (.dT y):=fun e=>k1 _ _ e (fun _ z=>by cases z) (fun _ z=>by cases z)
 have kd':∀{b:Addr} {y:List (aB×V)},H b=some (.dK y)->H' b=some (.dK y):=fun e=>k1 _ _ e (fun _ z=>by cases z) (fun _ z=>by cases z)
 have ki:∀{b C dx:Addr} {fs:List (Str×V)},H b=some (.ins C dx fs)->H' b=some (.ins C dx fs):=fun e=>k1 _ _ e (fun _ z=>by cases z) (fun _ z=>by cases z)
 have klf:∀b ys,b∉X.fx->H b=some (.lst ys)->H' b=some (.lst ys):=fun b ys n e=>k2 b ys (fun hd=>n (d0 b hd)) e
 have kft:∀t c R,X.rl t c=some R->∀b∈R.ft,∀o,H b=some o->H' b=some o:=fun t c R hR b hb o e=>by
  obtain⟨o',e',n1,n2,n3,n4⟩:=S.rt t c R hR b hb
  rw[e]at e'
  cases e'
  by_cases hl:∃ys,o= .lst ys
  ·obtain⟨ys,rfl⟩:=hl
   exact k2 b ys (fun hd=>d3 b hd t c R hR hb) e
  ·exact k1 b o e (fun y z=>hl ⟨y,z⟩) n4
 refine⟨fun tb htb=> ?_,kd S.fd,S.ko,S.fo,fun x v a b c=>⟨(S.fp x v a b c).1.keep kt,(S.fp x v a b c).2⟩,fun x v a b c=> ?_,S.ln,S.cz,kd S.hl,S.lo,fun t c ys B g h=> ?_,fun t c ys p v a b=>(S.cd t c ys p v a b).keep kt,fun t c R hR=> ?_,fun t c R hR=>⟨kd' (S.rm t c R hR).1,(S.rm t c R hR).2⟩,fun t c R hR b hb=> ?_,fun t c R hR p hp=>(S.ra t c R hR p hp).mv (kft t c R hR),fun x R a b=>⟨(S.me x R a b).1.mv rfl kt.t klf,fun is v e=>((S.me x R a b).2 is v e).keep kt⟩,fun t c R j a b=>⟨(S.ab t c R j a b).1.mv rfl kt.t klf,fun is v e=>((S.ab t c R j a b).2 is v e).keep kt⟩,ca',nt',fx',tb'⟩
 ·obtain⟨d0,e1⟩:=(S.F tb htb).fin
  obtain⟨kb,e2,e3⟩:=(S.F tb htb).bds
  obtain⟨⟨d1',b1⟩,⟨⟨d2',b2⟩,b3,b4⟩,b5,b6,b7⟩:=(S.F tb htb).B
  exact⟨⟨d0,ki e1⟩,⟨kb,kd' e2,e3⟩,⟨⟨d1',ki b1⟩,⟨⟨d2',ki b2⟩,k2 _ _ (fun hd=>(d1 _ hd tb htb).1 rfl) b3,kd' b4⟩,kd' b5,kd' b6,k2 _ _ (fun hd=>(d1 _ hd tb htb).2 rfl) b7⟩,kd (S.F tb htb).fnd,(S.F tb htb).len⟩
 ·obtain⟨tl,kt',h1,h2,h3⟩:=S.lp x v a b c
  exact⟨tl,kt',h1,kd h2,h3⟩
 ·obtain⟨l,h1,h2⟩:=S.cols t c ys B g h
  exact⟨l,h1,k2 _ _ (fun hd=>d2 _ hd t c ys B g h h1) h2⟩
 ·obtain⟨⟨dx,e⟩,h1⟩:=S.rg t c R hR
  exact⟨⟨dx,ki e⟩,h1⟩
 ·obtain⟨o,e,n1,n2,n3,n4⟩:=S.rt t c R hR b hb
  exact⟨o,kft t c R hR b hb o e,n1,n2,n3,n4⟩
theorem SB.same(S:SB P w K mg base RG CF CB CT zt X kf kl mem wo cs ns H)(s:aH H H'):SB P w K mg base RG CF CB CT zt X kf kl mem wo cs ns H':=
 S.mv [] (fun b o e _ _=>s _ _ e) (fun b ys _ e=>s _ _ e) (fun b hb y=>S.fx b hb (iM s y)) (fun b hb=>by cases hb) (fun b hb=>by cases hb) (fun b hb=>by cases hb) (fun b hb=>by cases hb) (S.ca.same s) (fun h=>Paired.imp (fun a b h=>h.mv (bS.of s) (fun b ys _ e=>s _ _ e)) (S.nt h)) (qA s S.tb)
end
section
inductive yE(K:Fg)(CF CB CT:Addr)(sp:Sp)(vs:List V)(H:Hp)(Q:VK)(E':XK):Prop
 |mk (fi ce ta:Addr):(vs= [.ref fi,.ref ce,.ref ta])->(((∃v,H ta=some (.tup [.str ("value":Str),v])/\Q v H)\/
  ∃(bd fd lk l:Addr) (nm c:Str) (p:Nat) (B:BM) (kf:List (Ky×V)),H ta=some (.tup [.str ("call":Str),.ref l])/\dL CF CB CT H fi bd fd lk nm B kf/\H ce=some (.tup ((bF nm c p).map kV))/\sp [.ref B.b,.str c,.int (p:Int),.ref l] H Q E0))->yE K CF CB CT sp vs H Q E'
theorem a4F:bA ["self","cell","told"] ["self","cell","told"] (aO a3h):={}
theorem a8M(T:bC K mg)(Y:eT K mg CF)(Wb:cV K mg CB){k:Nat}(G:aR P w K mg base aF k CB "outcome" ["self","column","place","some"] sp):aR P w K mg base aF (k+ 1) CF "settle" ["self","cell","told"] (yE K CF CB CT sp):=by
 refine Y.m_settle.known a4F (fun _ _ _ _ _ _ us hl=>gM (fun _ _ _=>rfl) us hl) (fun vs H Q E h=> ?_) (fun f cdv A outer s H vs Q E hr h=> ?_)
 ·obtain⟨fi,ce,ta,rfl,_⟩:=h
  rfl
 ·obtain⟨fi,ce,ta,rfl,h⟩:=h
  have hu:=dO hr
  refine⟨_,(aK (bL (cN mO (cM eX (pv 2) bD (fun _ _=>rfl)) fX (cX _)) (aL (bN (cM eX (pv 2) bD (fun _ _=>rfl)))) bO)
   (aL (bN (cC (fD hu (aW (pv 0) rfl) (cM eX (pv 1) bD (fun _ _=>rfl)) (fun _ _=>rfl)) Wb.cl G hr aS (aA (cM eX (pv 1) bD (fun _ _=>rfl)) (aA (cM eX (pv 1) bD (fun _ _=>rfl)) (aA (cM eX (pv 2) bD (fun _ _=>rfl)) aI))))))),?_⟩
  rcases h with⟨v,hta,q⟩|⟨bd,fd,lk,l,nm,c,p,B,kf,hta,F,hce,q⟩
  ·refine⟨_,rfl,ta,_,_,_,rfl,rfl,bU.of hta,rfl,rfl,_,rfl,cW (fun _=> ?_) (fun h=>absurd (decide_eq_true rfl) h)⟩
   exact⟨_,rfl,ta,_,_,_,rfl,rfl,bU.of hta,rfl,q⟩
  ·refine⟨_,rfl,ta,_,_,_,rfl,rfl,bU.of hta,rfl,rfl,_,rfl,cW (fun h=>absurd (V.str.inj (of_decide_eq_true h)) (by decide)) (fun _=> ?_)⟩
   obtain⟨d0,e1⟩:=F.fin
   obtain⟨kb,e2,e3⟩:=F.bds
   obtain⟨d1,b1⟩:=F.B.at_
   exact⟨_,rfl,fi,CF,d0,_,_,rfl,e1,Y.cl,Y.n_boards,(iH _ _ _).1,_,rfl,ce,_,_,_,rfl,rfl,bU.of hce,rfl,bd,_,rfl,e3▸bW.k (k:=Sum.inr nm) e2,B.b,d1,_,rfl,b1,nH,_,rfl,ce,_,_,_,rfl,rfl,bU.of hce,rfl,_,rfl,ce,_,_,_,rfl,rfl,bU.of hce,rfl,_,rfl,ta,_,_,_,rfl,rfl,bU.of hta,rfl,q⟩
inductive a0h(CF CB CT:Addr)(vs:List V)(H:Hp)(Q:VK)(E':XK):Prop
 |mk (fi bd fd lk ce:Addr) (nm c:Str) (p:Nat) (B:BM) (kf:List (Ky×V)) (r v:V):(vs= [.ref fi,.ref ce])->(dL CF CB CT H fi bd fd lk nm B kf)->(H ce=some (.tup ((bF nm c p).map kV)))->(aE B.rus (.inr c:aB)=some r)->(aE kf (bF nm c p)=some v)->(Q .non H)->a0h CF CB CT vs H Q E'
abbrev a7R:List Str:=["self","cell","trial","told"]
theorem uH:bA a7R ["self","cell"] (aO zP):={}
theorem a7S(T:bC K mg)(Y:eT K mg CF)(Wb:cV K mg CB):aR P w K mg base aF 5 CF "attempt" ["self","cell"] (a0h CF CB CT):=by
 have G_knows:aR P w K mg base aF 4 CF "knows" ["self","cell"] (qM CF CB CT):=wY T Y Wb
 refine Y.m_attempt.known uH (fun _ _ _ _ _ _ us hl=>dZ (fun _ _=>rfl) us hl) (fun vs H Q E h=> ?_) (fun f cdv A outer s H vs Q E hr h=> ?_)
 ·obtain⟨fi,bd,fd,lk,ce,nm,c,p,B,kf,r,v,rfl,_⟩:=h
  rfl
 ·obtain⟨fi,bd,fd,lk,ce,nm,c,p,B,kf,r,v,rfl,F,hce,hru,hv,q⟩:=h
  refine⟨_,(aK (bL (eF (cC (pv 0) Y.cl G_knows hr aS (aA (pv 1) aI)) (fun _=>rfl)) (aL (bN fZ)) bO)
   (aK cE (aK cE (aK cE (aL cE))))),?_⟩
  obtain⟨d0,e1⟩:=F.fin
  refine⟨_,rfl,fi,d0,_,rfl,e1,iL,_,rfl,fi,bd,fd,lk,ce,nm,c,p,B,kf,r,rfl,F,hce,hru,_,rfl,?_⟩
  rw[hv]
  exact cQ q
end
theorem nN{z:Addr}(h:fM q H z)(k:∀b o,(∀x,o≠ .dT x)->(∀x,o≠ .dK x)->(∀x,o≠ .lst x)->H b=some o->H' b=some o):fM q H' z:=by
 obtain⟨S,h1,h2⟩:=h
 refine⟨S,k _ _ (fun x y=>by cases y) (fun x y=>by cases y) (fun x y=>by cases y) h1,fun c hc=> ?_⟩
 obtain⟨o,o1,o2⟩:=h2 c hc
 exact⟨o,k _ _ (fun x y=>by cases y) (fun x y=>by cases y) (fun x y=>by cases y) o1,o2⟩
noncomputable def WT (X:iQ):List Addr:=[X.fd,X.tr,X.tl] ++ (X.tabs.flatMap fun tb=> [X.fi,X.bd,X.fd] ++ tb.2.foot)++ yD X.tabs X.gv
theorem a3W(X:iQ):tP X (WT X) where
 o:=⟨by simp[WT],by simp[WT],by simp[WT]⟩
 f:=fun tb h b hb=>List.mem_append_left _ (List.mem_append_right _ (List.mem_flatMap.mpr ⟨tb,h,hb⟩))
 c:=fun t c ys B l g h e=>List.mem_append_right _ (a5t g h e)
 n:=fun b hb=>by
  rcases List.mem_append.mp hb with hb|hb
  ·rcases List.mem_append.mp hb with hb|hb
   ·simp only[List.mem_cons,List.not_mem_nil,or_false]at hb
    rcases hb with h|h|h
    ·exact .inl h
    ·exact .inr (.inl h)
    ·exact .inr (.inr (.inl h))
   ·obtain⟨tb,h1,h2⟩:=List.mem_flatMap.mp hb
    exact .inr (.inr (.inr (.inl ⟨tb,h1,h2⟩)))
  ·exact .inr (.inr (.inr (.inr (a70 hb))))
def vF(R:RD)(x:aU)(wo wo':aU->Option (List Int×V))(ns ns':List (Option V×List Int))(v:V):PyData ⊕ List Int->Prop
 | .inl _=>wo'=wo/\ns'=ns
 | .inr is=>(wo x=some (is,v)/\wo'=wo/\ns'=ns)\/ ((∀vv,wo x≠some (is,vv))/\wo'=(fun y=>if y=x then some (is,v) else wo y)/\ns'=ns++ [(R.mrk,is)])
section
inductive wX(P:Program)(w:World)(K:Fg)(mg:Str->Option Value)(base:Heap)(RG:Addr->Sp->Prop)(CF CB CT zt:Addr)(vs:List V)(H:Hp)(Q:VK)(E':XK):Prop
 |mk (X:SX) (x:aU) (R:RD) (ce:Addr) (kf kl:List (Ky×V)) (mem:Str->Str->List (aB×V)) (wo:aU->Option (List Int×V)) (cs:List V) (ns:List (Option V×List Int)):(vs= [.ref X.fi,.ref ce])->(gU X)->(SB P w K mg base RG CF CB CT zt X kf kl mem wo cs ns H)->(lX P w K mg base X H)->(cs.length<900)->(X.Vc x)->(X.rl x.1 x.2.1=some R)->(aE kf (cK x)=none)->(H ce=some (.tup ((cK x).map kV)))->(∀H' r kf' kl' mem' wo' cs' ns',SB P w K mg base RG CF CB CT zt X kf' kl' mem' wo' cs' ns' H'->dA X zt H H'->
  ((cs'=cs/\ns'=ns/\wo'=wo/\∃la y,r= .ref la/\H' la=some (.tup ((cK y).map kV))/\y∈(X.tree x).looks X.val/\X.gv y.1 y.2.1=none/\aE kf (cK y)=none/\∀z,X.gv z.1 z.2.1=none->aE kf' (cK z)=aE kf (cK z))\/
   (r= .non/\cs'.length<=cs.length+ 1/\∃v,aE kf' (cK x)=some v/\(∀z,X.gv z.1 z.2.1=none->z≠x->aE kf' (cK z)=aE kf (cK z))/\vF R x wo wo' ns ns' v ((X.tree x).run X.val)))->Q r H')->wX P w K mg base RG CF CB CT zt vs H Q E'
theorem a6A(T:bC K mg){CR:Addr}(Rt:nJ K mg CR)(Y:eT K mg CF)(Wb:cV K mg CB)(Z:dR K mg CT){z:Addr×Addr}(B2:kJ K mg "Finder" "gathered" "Finder.gathered" gO z)(M:jA mg base z.1 z.2)(hRG:∀C sp,RG C sp->cF K C/\aR P w K mg base aF 8 C "gather" ["self","look","many","table","column","place"] sp):aR P w K mg base aF 10 CF "attempt" ["self","cell"] (wX P w K mg base RG CF CB CT z.2):=by
 have G_knows:aR P w K mg base aF 4 CF "knows" ["self","cell"] (qM CF CB CT):=wY T Y Wb
 have GI:eM P w K mg base aF 1 CR ["self","finder"] (yF CR):=a47 T Rt
 have G_gd:aR P w K mg base aF 9 CF "gathered" kI (zV P w K mg base CR CF CB CT z.2 RG):=a8m T Rt Y Wb Z B2 M hRG
 have G_st:aR P w K mg base aF 7 CF "settle" ["self","cell","told"] (yE K CF CB CT (zW P w K mg base 4 CB CT)):=a8M T Y Wb (a7F T Wb Z (k:=4) (Nat.le_refl _))
 refine Y.m_attempt.known uH (fun _ _ _ _ _ _ us hl=>dZ (fun _ _=>rfl) us hl) (fun vs H Q E h=> ?_) (fun f cdv A outer s H vs Q E hr h=> ?_)
 ·obtain⟨X,x,R,ce,kf,kl,mem,wo,cs,ns,rfl,_⟩:=h
  rfl
 ·obtain⟨X,x,R,ce,kf,kl,mem,wo,cs,ns,rfl,O,S,fnA,c9,hV,hR,hno,hce,q⟩:=h
  obtain⟨kin,B,hB,hp,_⟩:=O.o.v x hV
  have gvx:X.gv x.1 x.2.1=none:=O.no _ _ _ hR
  obtain⟨hru,hme⟩:=O.ru _ _ _ _ hR hB
  have GF:=S.F _ hB
  have k8:=O.o.k8
  have hu:=dO hr
  refine⟨_,(aK (bL (eF (cC (pv 0) Y.cl G_knows hr.mn aS (aA (pv 1) aI)) (fun _=>rfl)) (aL (bN fZ)) bO)
   (aK (cH (i:=2) uH.nd rfl (Or.inl rfl) (jX GI hr.mn Rt.c aS (aA (pv 0) aI)))
   (aK (cH (i:=3) uH.nd rfl (Or.inl rfl) (cC (pv 0) Y.cl G_gd hr aS (aA (pv 2) (aA (cM eX (pv 1) bD (fun _ _=>rfl)) (aA (cM eX (pv 1) bD (fun _ _=>rfl)) (aA (cM eX (pv 1) bD (fun _ _=>rfl)) aI))))))
   (aK (bL (cN oF (aW (pv 2) rfl) fZ (cX _)) (aK (iT hu (aW (pv 0) rfl) (pv 1) (aW (pv 2) rfl) rfl) (aL (iT hu (aW (pv 0) rfl) (pv 1) (cC (pv 0) Y.cl G_st hr.mn aS (aA (pv 1) (aA (pv 3) aI))) rfl))) bO)
   (aL (bN (aW (pv 2) rfl))))))),?_⟩
  obtain⟨d0,e1⟩:=GF.fin
  refine⟨_,rfl,X.fi,d0,_,rfl,e1,iL,_,rfl,X.fi,X.bd,X.fd,X.lk,ce,x.1,x.2.1,x.2.2,B,kf,_,rfl,GF,hce,hru,_,rfl,?_⟩
  rw[show aE kf (bF x.1 x.2.1 x.2.2)=none from hno]
  refine bI ⟨_,rfl,?_⟩
  intro tr dt htr hdt ne
  refine⟨tr,dt,X.fi,rfl,aJ,fun H1 tl htl t1 t2 b1=>⟨rfl,?_⟩⟩
  have s1:aH H H1:=fun b o e=>b1 b o (bE e htr) (by rw[aG (bE e htr),aG (bE e hdt)];exact e)
  have htl0:H tl=none:=by
   by_cases y:tl=tr
   ·rw[y];exact htr
   ·by_cases y2:tl=dt
    ·rw[y2];exact hdt
    ·rw[aG y,aG y2]at htl;exact htl
  have ce1:=s1 _ _ hce
  obtain⟨⟨dxg,hgr⟩,hG,hW⟩:=S.rg _ _ _ hR
  let Y8:iQ:=⟨X.fi,X.bd,X.fd,X.lk,tr,tl,X.tabs,X.Ks,X.gv,X.Vc,X.val,kf,X.tree x⟩
  have J1:JT K CR CF CB CT Y8 (some Y8.t0) H1:=⟨⟨kf,fun tb h=>(S.F tb h).same s1,s1 _ _ S.fd,S.ko,S.fo,fun _ _ _ _=>rfl⟩,fun y v a b c=>(S.fp y v a b c).1.same s1,⟨[],t2,dX.nil,⟨dt,t1⟩,[],.nil,fun y=>⟨fun h=>by{cases h},fun h=>by{cases h}⟩,fun y hy=>by{cases hy}⟩,fun t c ys B g h=>let ⟨l,h1,h2⟩:=S.cols t c ys B g h;⟨l,h1,s1 _ _ h2⟩,fun t c ys p v a b=>(S.cd t c ys p v a b).same s1⟩
  have ntf:tl≠X.fd:=fun y=>by rw[y,S.fd]at htl0;cases htl0
  have ntk:tl≠X.lk:=fun y=>by rw[y,S.hl]at htl0;cases htl0
  have wof:=a3W Y8
  obtain⟨Sz,tz,_⟩:=id S.tb
  have tb1:fM mE H1 z.2:=nN S.tb fun b o _ _ _ e=>s1 _ _ e
  have nzW:z.2∉WT Y8:=by
   intro hm
   have t1z:=s1 _ _ tz
   rcases wof.n _ hm with h|h|h|⟨tb',h1,h2⟩|⟨t',c',ys',B',g1,g2,g3⟩
   ·have h:z.2=X.fd:=h
    rw[h,s1 _ _ S.fd]at t1z;cases t1z
   ·have h:z.2=tr:=h
    rw[h,t1]at t1z;cases t1z
   ·have h:z.2=tl:=h
    rw[h,t2]at t1z;cases t1z
   ·exact((S.F tb' h1).same s1).noext h2 t1z
   ·obtain⟨l',g4,g5⟩:=S.cols t' c' ys' B' g1 g2
    have g3:aE B'.kvs (.inr c':aB)=some (.ref z.2):=g3
    rw[g3]at g4
    cases g4
    rw[s1 _ _ g5]at t1z;cases t1z
  have nft:z.2∉R.ft:=fun hm=>by
   obtain⟨o,e,_,_,n,_⟩:=S.rt _ _ _ hR _ hm
   rw[tz]at e
   exact n _ (Option.some.inj e).symm
  refine⟨_,rfl,X.fi,d0,_,rfl,s1 _ _ e1,iL,_,rfl,_,rfl,ce,_,_,_,rfl,rfl,bU.of ce1,rfl,_,rfl,ce,_,_,_,rfl,rfl,bU.of ce1,rfl,_,rfl,ce,_,_,_,rfl,rfl,bU.of ce1,rfl,
   Y8,WT Y8,R.ft,R.gr,dxg,R.CG,R.spg,R.fs,x.1,x.2.1,B,x.2.2,rfl,J1,ntf,O.o,wof,nzW,hB,hru,s1 _ _ hgr,(fun y=>by{rw[y,htr]at hgr;cases hgr}),hG,(O.rf _ _ _ hR).2,tb1,nft,(S.ra _ _ _ hR _ hV).mv (fun b _ o e=>s1 _ _ e),fun H2 fv tf fr tb2 told J2=> ?_⟩
  have up2:∀{y:Addr} {o:HO},y≠X.fd->y≠z.2->H y=some o->H2 y=some o:=fun n1 n2 e=>fr _ _ n1 (bE e htl0) (bE e htr) n2 (s1 _ _ e)
  have nz:∀{b:Addr} {o:HO},H b=some o->(∀y,o≠ .ext y)->b≠z.2:=fun e n y=>by rw[y,tz]at e;exact n _ (Option.some.inj e).symm
  have nf:∀{b:Addr} {o:HO},H b=some o->(∀y,o≠ .dT y)->b≠X.fd:=fun e n y=>by rw[y,S.fd]at e;exact n _ (Option.some.inj e).symm
  have lk2:=up2 O.fl.symm (nz S.hl nk) S.hl
  have ce2:=up2 (nf hce nk) (nz hce nk) hce
  have nl2:=S.lo.len
  rcases J2.symm with J2|J2
  ·
   obtain⟨kf2,F2',w02,ko2,fo2,ru2⟩:=J2.kf
   obtain⟨kt2,tl2,to2,dx2,la,y,tr2,hla,hy,hVy,gvy,nfy⟩:=J2.tl
   refine⟨_,rfl,tr,CR,dx2,_,_,rfl,tr2,Rt.cl,Rt.n_lacking,(oH X.fi tl (.ref la)).2.2.1,rfl,_,rfl,bI ?_⟩
   refine⟨_,rfl,tr,CR,dx2,_,_,rfl,tr2,Rt.cl,Rt.n_lacking,(oH X.fi tl (.ref la)).2.2.1,?_⟩
   have f2:dA X z.2 H H2:=fun b o n1 _ n3 _ _ e=>up2 n1 n3 e
   have kt2':=S.ktt f2
   have kl2:=S.kl' O f2
   refine q H2 _ kf2 kl mem wo cs ns (S.to O f2 w02 ko2 fo2 (fun x' v a b c=> ?_) (fun x' v a b c=> ?_) (fun x' a b c=> ?_) (fun x' v a b c y hy gy=> ?_) lk2 S.lo (fun t c R' h=> ?_) (fun x' R' a b=>⟨(S.me x' R' a b).1.mv rfl kt2'.t kl2,fun is v e=>((S.me x' R' a b).2 is v e).keep kt2'⟩) (fun t c R' j a b=>⟨(S.ab t c R' j a b).1.mv rfl kt2'.t kl2,fun is v e=>((S.ab t c R' j a b).2 is v e).keep kt2'⟩) ⟨S.ca.1,fun a e=> ?_⟩ (fun h=>Paired.imp (fun a b h=>h.mv kt2'.t kl2) (S.nt h)) tb2) f2 (.inl ⟨rfl,rfl,rfl,la,y,rfl,hla,hy,gvy,nfy,fun z' g=>ru2 z'.1 z'.2.1 z'.2.2 g⟩)
   ·rw[show aE kf2 (cK x')=aE kf (cK x') from ru2 x'.1 x'.2.1 x'.2.2 b]at c
    exact⟨(S.fp x' v a b c).1.keep kt2',(S.fp x' v a b c).2⟩
   ·rw[show aE kf2 (cK x')=aE kf (cK x') from ru2 x'.1 x'.2.1 x'.2.2 b]at c
    obtain⟨tl',kt',h1,h2,h3,h4,h5⟩:=S.lp x' v a b c
    exact⟨tl',kt',h1,up2 h3 (nz h2 nk) h2,h3,h4,h5⟩
   ·rw[show aE kf2 (cK x')=aE kf (cK x') from ru2 x'.1 x'.2.1 x'.2.2 b]at c
    exact S.ln x' a b c
   ·rw[show aE kf2 (cK x')=aE kf (cK x') from ru2 x'.1 x'.2.1 x'.2.2 b]at c
    rw[show aE kf2 (cK y)=aE kf (cK y) from ru2 y.1 y.2.1 y.2.2 gy]
    exact S.cz x' v a b c y hy gy
   ·obtain⟨h1,h2⟩:=S.rm t c R' h
    exact⟨up2 (nf h1 nk) (nz h1 nk) h1,h2⟩
   ·exact up2 (nf (S.ca.2 a e) nk) (nz (S.ca.2 a e) nk) (S.ca.2 a e)
  ·obtain⟨kf2,F2',w02,ko2,fo2,ru2⟩:=J2.kf
   have F2:dL CF CB CT H2 X.fi X.bd X.fd X.lk x.1 B kf2:=F2' _ hB
   obtain⟨kt2,tl2,to2,⟨d3,tr2⟩,us,path,hus,hkn⟩:=J2.tl
   have hrun:(X.tree x).run X.val=tf:=path.run
   have hlooks:(X.tree x).looks X.val=us:=by
    have:=path.looks
    rw[show (GT.done tf).looks Y8.val= [] from rfl,List.append_nil]at this
    exact this
   obtain⟨a1,a2,a3,a4⟩:=oH X.fi tl .non
   obtain⟨d02,f2⟩:=F2.fin
   refine⟨_,rfl,tr,CR,d3,_,_,rfl,tr2,Rt.cl,Rt.n_lacking,a3,rfl,_,rfl,cQ ?_⟩
   refine⟨_,rfl,tr,CR,d3,_,_,rfl,tr2,Rt.cl,Rt.n_looked,a2,_,rfl,X.fi,CF,d02,_,_,rfl,f2,Y.cl,Y.n_looked,(iH _ _ _).2.2,_,rfl,X.lk,_,rfl,.inr ⟨kl,cK x,ce,lk2,rfl,ce2,cY (by omega),rfl⟩,?_⟩
   have u3:aY X.lk H2 (upd H2 X.lk (.dT (aQ kl (cK x) (.ref tl)))):=fun b o n e=>by rw[aG n];exact e
   have lk3:upd H2 X.lk (.dT (aQ kl (cK x) (.ref tl))) X.lk=some (.dT (aQ kl (cK x) (.ref tl))):=aJ
   generalize upd H2 X.lk (.dT (aQ kl (cK x) (.ref tl)))=H3 at u3 lk3|-
   have k3:∀{b:Addr} {o:HO},H2 b=some o->(∀y,o≠ .dT y)->H3 b=some o:=fun e n=>u3 _ _ (fun y=>by rw[y,lk2]at e;exact n _ (Option.some.inj e).symm) e
   have fd3:=u3 _ _ O.fl F2.fnd
   have F3:dL CF CB CT H3 X.fi X.bd X.fd X.lk x.1 B kf2:=by
    obtain⟨d0,e1⟩:=F2.fin
    obtain⟨kb,e2,e3⟩:=F2.bds
    obtain⟨⟨d1,b1⟩,⟨⟨d2,b2⟩,b3,b4⟩,b5,b6,b7⟩:=F2.B
    exact⟨⟨d0,k3 e1 nk⟩,⟨kb,k3 e2 nk,e3⟩,⟨⟨d1,k3 b1 nk⟩,⟨⟨d2,k3 b2 nk⟩,k3 b3 nk,k3 b4 nk⟩,k3 b5 nk,k3 b6 nk,k3 b7 nk⟩,fd3,F2.len⟩
   have fr3:∀{y:Addr} {o:HO},y≠X.fd->y≠X.lk->y≠z.2->H y=some o->H3 y=some o:=fun n1 n2 n3 e=>u3 _ _ n2 (up2 n1 n3 e)
   have q3:∀{y:Addr} {o:HO},H y=some o->(∀v,o≠ .dT v)->(∀v,o≠ .ext v)->H3 y=some o:=fun e n1 n2=>k3 (up2 (nf e n1) (nz e n2) e) n1
   have ce3:=q3 hce nk nk
   have tr3:=k3 tr2 nk
   have tl3:=u3 _ _ ntk tl2
   have tb3:fM mE H3 z.2:=nN tb2 fun b o n1 _ _ e=>k3 e n1
   have ca3:eU X.ca cs H3:=⟨S.ca.1,fun a e=>q3 (S.ca.2 a e) nk nk⟩
   obtain⟨hmc,hmb⟩:=S.rm _ _ _ hR
   have mc3:=q3 hmc nk nk
   have gr3:=q3 hgr nk nk
   have kz3:cS H H3:=fun b u e=>q3 e nk nk
   have none3:∀{y:Addr},H3 y=none->H y=none:=fun{y} e=>by
    cases e2:H y with
    |none=>rfl
    |some o=>
     by_cases y1:y=X.fd
     ·rw[y1,fd3]at e;cases e
     ·by_cases y2:y=X.lk
      ·rw[y2,lk3]at e;cases e
      ·by_cases y3:y=z.2
       ·obtain⟨S3,h3,_⟩:=tb3
        rw[y3,h3]at e;cases e
       ·rw[fr3 y1 y2 y3 e2]at e;cases e
   have l2:kf2.length<=X.Ks.length:=ko2.len
   have mlen:=hmb.len
   have b8:=O.b8
   have fin:∀(H5:Hp) (v:V) (mem':Str->Str->List (aB×V)) (wo':aU->Option (List Int×V)) (cs':List V) (ns':List (Option V×List Int)),(∀b o,X.ca≠some b->b≠R.mc->H3 b=some o->H5 b=some o)->(∀t c R',X.rl t c=some R'->H5 R'.mc=some (.dK (mem' t c))/\jV X.bnd (mem' t c))->eU X.ca cs' H5->cs'.length<=cs.length+ 1->vF R x wo wo' ns ns' v tf->(∀y,y≠x->wo' y=wo y)->(∀is,tf= .inr is->wo' x=some (is,v))->(∀H6,aY X.fd H5 H6->Pd K H6 v (X.val x))->
    (∀H6,aY X.fd H5 H6->(∀x' R',X.Vc x'->X.rl x'.1 x'.2.1=some R'->gJ X.fx H6 (mem' x'.1 x'.2.1) (X.num x'.1 x'.2.2:Int) (wo' x')/\∀is v,wo' x'=some (is,v)->Pd K H6 v (fC (R'.g is)))/\(∀t c R' j,X.rl t c=some R'->X.abn t j->gJ X.fx H6 (mem' t c) (j:Int) (X.wa t c j)/\∀is v,X.wa t c j=some (is,v)->Pd K H6 v (fC (R'.g is)))/\(X.ca≠none->Paired (lY X.fx H6) cs' ns'))->
    ∃d5 H6,H5 X.fi=some (.ins CF d5 (fR X.bd X.fd X.lk))/\gC H5 X.fd (.ref ce) v H6/\H6 tr=some (.ins CR d3 (dP X.fi tl .non))/\Q .non H6:=fun H5 v mem' wo' cs' ns' f5 rm5 ca5 cl5 en hwy hwx hpd hme5=>by
    have k5:∀{b:Addr} {o:HO},H3 b=some o->(∀y,o≠ .lst y)->(∀y,o≠ .dK y)->H5 b=some o:=fun e n1 n2=>f5 _ _ (ca3.ne e n1) (fun y=>by rw[y,mc3]at e;exact n2 _ (Option.some.inj e).symm) e
    obtain⟨d5,e5⟩:=F3.fin
    have fd5:=k5 fd3 nk nk
    have ce5:=k5 ce3 nk nk
    refine⟨d5,_,k5 e5 nk nk,.inr ⟨kf2,cK x,ce,fd5,rfl,ce5,cY (by omega),rfl⟩,?_⟩
    have u6:aY X.fd H5 (upd H5 X.fd (.dT (aQ kf2 (cK x) v))):=fun b o n e=>by rw[aG n];exact e
    have fd6:upd H5 X.fd (.dT (aQ kf2 (cK x) v)) X.fd=some (.dT (aQ kf2 (cK x) v)):=aJ
    generalize upd H5 X.fd (.dT (aQ kf2 (cK x) v))=H6 at u6 fd6|-
    have k6:∀{b:Addr} {o:HO},H5 b=some o->(∀y,o≠ .dT y)->H6 b=some o:=fun e n=>u6 _ _ (fun y=>by rw[y,fd5]at e;exact n _ (Option.some.inj e).symm) e
    have fr6:dA X z.2 H H6:=fun b o n1 n2 n3 n4 n5 e=>u6 _ _ n1 (f5 _ _ n4 (n5 _ _ _ hR) (fr3 n1 n2 n3 e))
    have dt6:∀{b:Addr} {y:List (Ky×V)},b≠X.fd->b≠X.lk->H2 b=some (.dT y)->H6 b=some (.dT y):=fun n1 n2 e=>u6 _ _ n1 (k5 (u3 _ _ n2 e) (fun _ z=>by cases z) (fun _ z=>by cases z))
    refine⟨k6 (k5 tr3 nk nk) nk,?_⟩
    have kt6:=S.ktt fr6
    obtain⟨me6,ab6,nt6⟩:=hme5 H6 u6
    have vx:aE (aQ kf2 (cK x) v) (cK x)=some v:=by rw[fQ,if_pos rfl]
    have vy:∀y:aU,X.gv y.1 y.2.1=none->y≠x->aE (aQ kf2 (cK x) v) (cK y)=aE kf (cK y):=fun y g n=>by
     rw[fQ,if_neg (fun h=>n (qI h))]
     exact ru2 y.1 y.2.1 y.2.2 g
    have ly:∀y:aU,y≠x->aE (aQ kl (cK x) (.ref tl)) (cK y)=aE kl (cK y):=fun y n=>by
     rw[fQ,if_neg (fun h=>n (qI h))]
    refine q H6 .non (aQ kf2 (cK x) v) (aQ kl (cK x) (.ref tl)) mem' wo' cs' ns' (S.to O fr6 fd6 (ko2.put kin) (fun t c p' v' ys g e=> ?_) (fun x' v' a b c=> ?_) (fun x' v' a b c=> ?_) (fun x' a b c=> ?_) (fun x' v' a b c y hy gy=> ?_) (u6 _ _ O.fl.symm (k5 lk3 nk nk)) (S.lo.put kin) (fun t c R' h=>⟨k6 (rm5 t c R' h).1 nk,(rm5 t c R' h).2⟩) me6 ab6 ⟨ca5.1,fun a e=>k6 (ca5.2 a e) nk⟩ nt6 (nN tb3 fun b o n1 n2 n3 e=>k6 (k5 e n3 n2) n1)) fr6 (.inr ⟨rfl,cl5,v,vx,vy,by rw[hrun];exact en⟩)
    ·rw[fQ,if_neg (fun y=>by
      obtain⟨rfl,rfl,_⟩:=zX y
      rw[gvx]at g
      cases g)]at e
     exact fo2 t c p' v' ys g e
    ·by_cases hx:x'=x
     ·subst hx
      rw[vx]at c
      cases c
      exact⟨hpd H6 u6,fun is e=>hwx is (hrun.symm.trans e)⟩
     ·rw[vy x' b hx]at c
      rw[hwy x' hx]
      exact⟨(S.fp x' v' a b c).1.keep kt6,(S.fp x' v' a b c).2⟩
    ·by_cases hx:x'=x
     ·subst hx
      exact⟨tl,kt2,by rw[fQ,if_pos rfl],dt6 ntf ntk tl2,ntf,ntk,to2,by rw[hlooks];exact hus⟩
     ·rw[vy x' b hx]at c
      rw[ly x' hx]
      obtain⟨tl',kt',h1,h2,h3,h4,h5⟩:=S.lp x' v' a b c
      exact⟨tl',kt',h1,dt6 h3 h4 (up2 h3 (nz h2 nk) h2),h3,h4,h5⟩
    ·by_cases hx:x'=x
     ·subst hx
      rw[vx]at c
      cases c
     ·rw[vy x' b hx]at c
      rw[ly x' hx]
      exact S.ln x' a b c
    ·have hyx:(aE kf (cK y)).isSome=true:=by
      by_cases hx:x'=x
      ·subst hx
       rw[hlooks]at hy
       exact hkn y hy gy
      ·rw[vy x' b hx]at c
       exact S.cz x' v' a b c y hy gy
     by_cases hy2:y=x
     ·rw[hy2,vx];rfl
     ·rw[vy y gy hy2];exact hyx
   obtain⟨d03,f3⟩:=F3.fin
   have hval:X.val x=tI R.g tf:=by rw[O.sem x R hV hR,hrun]
   have quiet:∀(v:V),vF R x wo wo ns ns v tf->(∀is,tf= .inr is->wo x=some (is,v))->Pd K H3 v (X.val x)->∃d5 H6,H3 X.fi=some (.ins CF d5 (fR X.bd X.fd X.lk))/\gC H3 X.fd (.ref ce) v H6/\H6 tr=some (.ins CR d3 (dP X.fi tl .non))/\Q .non H6:=fun v en hwx hpd=>by
    refine fin H3 v mem wo cs ns (fun b o _ _ e=>e) (fun t c R' h=>⟨q3 (S.rm t c R' h).1 nk nk,(S.rm t c R' h).2⟩) ca3 (Nat.le_succ _) en (fun _ _=>rfl) hwx (fun H6 b6=>hpd.keep fun b o hb e=>b6 _ _ (fun y=>by rw[y,fd3]at e;obtain⟨xs,rfl|⟨q,rfl⟩⟩:=hb<;>cases e) e) (fun H6 b6=> ?_)
    have kt6:eD H H6:=fun b o hb e=>b6 _ _ (nf e (fun v y=>by obtain⟨xs,rfl|⟨q,rfl⟩⟩:=hb<;>cases y)) (q3 e (fun v y=>by obtain⟨xs,rfl|⟨q,rfl⟩⟩:=hb<;>cases y) (fun v y=>by obtain⟨xs,rfl|⟨q,rfl⟩⟩:=hb<;>cases y))
    have kl6:∀b ys,b∉X.fx->H b=some (.lst ys)->H6 b=some (.lst ys):=fun b ys _ e=>b6 _ _ (nf e (fun v y=>by cases y)) (q3 e (fun v y=>by cases y) (fun v y=>by cases y))
    exact⟨fun x' R' a b=>⟨(S.me x' R' a b).1.mv rfl kt6.t kl6,fun is v e=>((S.me x' R' a b).2 is v e).keep kt6⟩,fun t c R' j a b=>⟨(S.ab t c R' j a b).1.mv rfl kt6.t kl6,fun is v e=>((S.ab t c R' j a b).2 is v e).keep kt6⟩,fun h=>Paired.imp (fun a b h=>h.mv kt6.t kl6) (S.nt h)⟩
   cases tf with
   |inl d=>
    obtain⟨ta,v,rfl,hta,hpv⟩:=told
    have hta3:=k3 hta nk
    have ktt3:eD H2 H3:=fun b o hb e=>k3 e (fun v y=>by obtain⟨xs,rfl|⟨q,rfl⟩⟩:=hb<;>cases y)
    obtain⟨d5,H6,g1,g2,g3,g4⟩:=quiet v ⟨rfl,rfl⟩ (fun is e=>by cases e) (by rw[hval];exact hpv.keep ktt3)
    exact⟨_,rfl,X.fi,d03,_,rfl,f3,iL,_,rfl,_,rfl,X.fi,ce,ta,rfl,.inl ⟨v,hta3,_,rfl,X.fi,CF,d5,_,_,rfl,g1,Y.cl,Y.n_found,(iH _ _ _).2.1,_,rfl,X.fd,H6,rfl,g2,_,rfl,tr,CR,d3,_,_,rfl,g3,Rt.cl,Rt.n_lacking,a3,g4⟩⟩
   |inr is=>
    obtain⟨ta,l,rfl,hta,hl2,hl0⟩:=told
    have hl3:=k3 hl2 nk
    have hta3:=k3 hta nk
    have hlH:H l=none:=iM s1 hl0
    have nlfx:l∉X.fx:=fun hm=>S.fx l hm hlH
    obtain⟨okis,l100⟩:=O.oks x R hV hR is hrun
    obtain⟨sh,vd⟩:=O.gg _ _ _ hR is okis
    obtain⟨nu1,nu2⟩:=O.nu _ _ _ hB hp
    have was:=(S.me x R hV hR).1
    refine⟨_,rfl,X.fi,d03,_,rfl,f3,iL,_,rfl,_,rfl,X.fi,ce,ta,rfl,.inr ⟨X.bd,X.fd,X.lk,l,x.1,x.2.1,x.2.2,B,kf2,hta3,F3,ce3,l,R.gr,R.mc,R.fa,dxg,R.CG,X.ca,R.mrk,x.2.1,R.fs,x.2.2,_,B,mem x.1 x.2.1,R.g,R.ok,is,cs,rfl,F3.B,hru,hme,mc3,by omega,hp,nu1,gr3,hW,(O.rf _ _ _ hR).1,(fnA _ _ _ hR).keep kz3,hl3,ca3,c9,okis,l100,sh,vd,?_⟩⟩
    have called:(∀vv,wo x≠some (is,vv))->∀H5 v ns1 tp,(∀b o,X.ca≠some b->b≠R.mc->H3 b=some o->H5 b=some o)->eU X.ca (cs++ ns1) H5->rX X.ca R.mrk is H3 H5 ns1->H3 tp=none->H5 tp=some (.tup [.ref l,v])->H5 R.mc=some (.dK (aQ (mem x.1 x.2.1) (.inl ((X.num x.1 x.2.2:Nat):Int):aB) (.ref tp)))->Dt K H5 v (fC (R.g is))->
     ∃d5 H6,H5 X.fi=some (.ins CF d5 (fR X.bd X.fd X.lk))/\gC H5 X.fd (.ref ce) v H6/\H6 tr=some (.ins CR d3 (dP X.fi tl .non))/\Q .non H6:=fun hh H5 v ns1 tp f5 c5 n5 n2 g3 g4 g5=>by
     have fd5:H5 X.fd=some (.dT kf2):=f5 _ _ (ca3.ne fd3 nk) (fun y=>by rw[<- y,fd3]at mc3;cases mc3) fd3
     have ln1:ns1.length<=1:=by
      cases hc:X.ca with
      |none=>rw[n5.1 hc];exact Nat.zero_le _
      |some a=>obtain⟨nv,lc,e,_⟩:=n5.2 a hc;rw[e];exact Nat.le_refl _
     let mem':Str->Str->List (aB×V):=fun t c=>if t=x.1/\c=x.2.1 then aQ (mem x.1 x.2.1) (.inl ((X.num x.1 x.2.2:Nat):Int):aB) (.ref tp) else mem t c
     let wo':aU->Option (List Int×V):=fun y=>if y=x then some (is,v) else wo y
     have n1fx:∀{b:Addr},H3 b=none->b∉X.fx:=fun e hm=>S.fx _ hm (none3 e)
     refine fin H5 v mem' wo' (cs++ ns1) (ns++ [(R.mrk,is)]) f5 (fun t c R' h=> ?_) c5 (by rw[List.length_append];omega) (.inr ⟨hh,rfl,rfl⟩) (fun y n=>if_neg n) (fun is' e=>by cases e;exact if_pos rfl) (fun H6 b6=> ?_) (fun H6 b6=> ?_)
     ·by_cases hx:t=x.1/\c=x.2.1
      ·obtain⟨rfl,rfl⟩:=hx
       rw[hR]at h
       cases h
       rw[show mem' x.1 x.2.1=aQ (mem x.1 x.2.1) (.inl ((X.num x.1 x.2.2:Nat):Int):aB) (.ref tp) from if_pos ⟨rfl,rfl⟩]
       exact⟨g4,hmb.put nu2⟩
      ·rw[show mem' t c=mem t c from if_neg hx]
       obtain⟨h1,h2⟩:=S.rm t c R' h
       have h13:=q3 h1 nk nk
       exact⟨f5 _ _ (ca3.ne h13 nk) (fun y=>hx (O.md _ _ _ _ _ _ h hR y)) h13,h2⟩
     ·refine⟨by rw[hval];exact vd,wF (by rw[hval];exact vd) (by rw[hval];exact g5) fun b o hb e=>b6 _ _ (fun y=>by rw[y,fd5]at e;obtain⟨xs,rfl|⟨q,rfl⟩⟩:=hb<;>cases e) e⟩
     ·have k35:∀{b:Addr} {o:HO},H b=some o->(∀y,o≠ .dT y)->(∀y,o≠ .ext y)->(∀y,o≠ .dK y)->X.ca≠some b->H6 b=some o:=fun e n1 n2 n3 n4=>by
       have e3:=q3 e n1 n2
       exact b6 _ _ (nf e n1) (f5 _ _ n4 (fun y=>by rw[y,mc3]at e3;exact n3 _ (Option.some.inj e3).symm) e3)
      have kt6:eD H H6:=fun b o hb e=>k35 e (fun v y=>by obtain⟨xs,rfl|⟨q,rfl⟩⟩:=hb<;>cases y) (fun v y=>by obtain⟨xs,rfl|⟨q,rfl⟩⟩:=hb<;>cases y) (fun v y=>by obtain⟨xs,rfl|⟨q,rfl⟩⟩:=hb<;>cases y) (S.nl e (fun v y=>by obtain⟨xs,rfl|⟨q,rfl⟩⟩:=hb<;>cases y))
      have kl6:∀b ys,b∉X.fx->H b=some (.lst ys)->H6 b=some (.lst ys):=fun b ys n e=>k35 e (fun v y=>by cases y) (fun v y=>by cases y) (fun v y=>by cases y) (fun y=>n (O.cf b y))
      have k56:∀{b:Addr} {o:HO},H5 b=some o->(∀y,o≠ .dT y)->H6 b=some o:=fun e n=>b6 _ _ (fun y=>by rw[y,fd5]at e;exact n _ (Option.some.inj e).symm) e
      have nlc:X.ca≠some l:=fun y=>nlfx (O.cf l y)
      have l6:H6 l=some (.lst (is.map V.int)):=k56 (f5 _ _ nlc (fun y=>by rw[y,mc3]at hl3;cases hl3) hl3) nk
      refine⟨fun x' R' a b=> ?_,fun t c R' j a b=>⟨(S.ab t c R' j a b).1.mv ?_ kt6.t kl6,fun is v e=>((S.ab t c R' j a b).2 is v e).keep kt6⟩,fun h=> ?_⟩
      ·by_cases hx:x'=x
       ·subst hx
        rw[hR]at b
        cases b
        rw[show wo' x'=some (is,v) from if_pos rfl,show mem' x'.1 x'.2.1=aQ (mem x'.1 x'.2.1) (.inl ((X.num x'.1 x'.2.2:Nat):Int):aB) (.ref tp) from if_pos ⟨rfl,rfl⟩]
        refine⟨⟨tp,l,by rw[fQ,if_pos rfl],k56 g3 nk,l6,nlfx⟩,fun is' v' e=> ?_⟩
        cases e
        exact⟨vd,wF vd g5 fun b o hb e=>b6 _ _ (fun y=>by rw[y,fd5]at e;obtain⟨xs,rfl|⟨q,rfl⟩⟩:=hb<;>cases e) e⟩
       ·rw[show wo' x'=wo x' from if_neg hx]
        refine⟨(S.me x' R' a b).1.mv ?_ kt6.t kl6,fun is v e=>((S.me x' R' a b).2 is v e).keep kt6⟩
        by_cases hx2:x'.1=x.1/\x'.2.1=x.2.1
        ·rw[show mem' x'.1 x'.2.1=aQ (mem x.1 x.2.1) (.inl ((X.num x.1 x.2.2:Nat):Int):aB) (.ref tp) from if_pos hx2,fQ,if_neg (fun y=> ?_),hx2.1,hx2.2]
         have y:=Sum.inl.inj y
         obtain⟨B',hB',hp'⟩:=O.B a
         rw[hx2.1]at hB' y
         have:=O.un _ _ _ hB hB'
         subst this
         exact hx (Prod.ext hx2.1 (Prod.ext hx2.2 (O.ni _ _ _ _ hB' hp' hp (by omega))))
        ·rw[show mem' x'.1 x'.2.1=mem x'.1 x'.2.1 from if_neg hx2]
      ·by_cases hx2:t=x.1/\c=x.2.1
       ·rw[show mem' t c=aQ (mem x.1 x.2.1) (.inl ((X.num x.1 x.2.2:Nat):Int):aB) (.ref tp) from if_pos hx2,fQ,if_neg (fun y=> ?_),hx2.1,hx2.2]
        have y:=Sum.inl.inj y
        rw[hx2.1]at b
        exact O.ab _ _ _ _ hB hp b (by omega)
       ·rw[show mem' t c=mem t c from if_neg hx2]
      ·obtain⟨a,ha⟩:=Option.ne_none_iff_exists'.mp h
       obtain⟨nv,lc,e,hlc,hnv⟩:=n5.2 a ha
       rw[e]
       refine Paired.snoc ⟨lc,hnv.mv (fun a xs e=>k56 e nk) (k56 hnv.1 nk),n1fx hlc⟩ (Paired.imp (fun a b h=>h.mv kt6.t kl6) (S.nt h))
    cases hw:wo x with
    |none=>
     rw[hw]at was
     refine .inr ⟨.inl was,fun H5 v ns1 tp f5 c5 n5 n2 g3 g4 g5=> ?_⟩
     obtain⟨d5,H6,r1,r2,r3,r4⟩:=called (fun vv y=>by rw[hw]at y;cases y) H5 v ns1 tp f5 c5 n5 n2 g3 g4 g5
     exact⟨_,rfl,X.fi,CF,d5,_,_,rfl,r1,Y.cl,Y.n_found,(iH _ _ _).2.1,_,rfl,X.fd,H6,rfl,r2,_,rfl,tr,CR,d3,_,_,rfl,r3,Rt.cl,Rt.n_lacking,a3,r4⟩
    |some jv=>
     obtain⟨js,vv⟩:=jv
     rw[hw]at was
     obtain⟨tp0,lo0,w1,w2,w3,w4⟩:=was
     have w2:=q3 w2 nk nk
     have w3:=q3 w3 nk nk
     by_cases hj:js=is
     ·subst hj
      refine .inl ⟨vv,⟨tp0,lo0,w1,w2,w3⟩,?_⟩
      have ktt3:eD H H3:=fun b o hb e=>q3 e (fun v y=>by obtain⟨xs,rfl|⟨q,rfl⟩⟩:=hb<;>cases y) (fun v y=>by obtain⟨xs,rfl|⟨q,rfl⟩⟩:=hb<;>cases y)
      obtain⟨d5,H6,r1,r2,r3,r4⟩:=quiet vv (.inl ⟨hw,rfl,rfl⟩) (fun is' e=>by cases e;exact hw) (by rw[hval];exact((S.me x R hV hR).2 js vv hw).keep ktt3)
      exact⟨_,rfl,X.fi,CF,d5,_,_,rfl,r1,Y.cl,Y.n_found,(iH _ _ _).2.1,_,rfl,X.fd,H6,rfl,r2,_,rfl,tr,CR,d3,_,_,rfl,r3,Rt.cl,Rt.n_lacking,a3,r4⟩
     ·refine .inr ⟨.inr ⟨js,vv,⟨tp0,lo0,w1,w2,w3⟩,hj⟩,fun H5 v ns1 tp f5 c5 n5 n2 g3 g4 g5=> ?_⟩
      obtain⟨d5,H6,r1,r2,r3,r4⟩:=called (fun v2 y=>by rw[hw]at y;exact hj (congrArg (·.1) (Option.some.inj y))) H5 v ns1 tp f5 c5 n5 n2 g3 g4 g5
      exact⟨_,rfl,X.fi,CF,d5,_,_,rfl,r1,Y.cl,Y.n_found,(iH _ _ _).2.1,_,rfl,X.fd,H6,rfl,r2,_,rfl,tr,CR,d3,_,_,rfl,r3,Rt.cl,Rt.n_lacking,a3,r4⟩
inductive a0c(CF CB CT:Addr)(vs:List V)(H:Hp)(Q:VK)(E':XK):Prop
 |mk (fi bd fd lk ce l:Addr) (nm c:Str) (p:Nat) (B:BM) (kf:List (Ky×V)) (ys:List V) (v:V):(vs= [.ref fi,.ref ce])->(dL CF CB CT H fi bd fd lk nm B kf)->(H ce=some (.tup ((bF nm c p).map kV)))->(aE B.rus (.inr c:aB)=none)->(Nl c)->(aE B.kvs (.inr c:aB)=some (.ref l))->(H l=some (.lst ys))->(p<B.xs.length)->(cI ys (p:Int)=some v)->((∀v',aE kf (bF nm c p)=some v'->v'=v))->(kf.length<899)->(∀H' kf',(kf'=kf\/ kf'=aQ kf (bF nm c p) v)->aE kf' (bF nm c p)=some v->dL CF CB CT H' fi bd fd lk nm B kf'->aY fd H H'->Q .non H')->a0c CF CB CT vs H Q E'
abbrev NatG:List Str:=["self","cell","trial","told"]
theorem a35:bA NatG ["self","cell"] (aO zP):={}
theorem a30(T:bC K mg)(Y:eT K mg CF)(Wb:cV K mg CB)(U:dR K mg CT):aR P w K mg base aF 5 CF "attempt" ["self","cell"] (a0c CF CB CT):=by
 have G_knows:aR P w K mg base aF 4 CF "knows" ["self","cell"] (uT CF CB CT):=a2k T Y Wb U
 refine Y.m_attempt.known a35 (fun _ _ _ _ _ _ us hl=>dZ (fun _ _=>rfl) us hl) (fun vs H Q E h=> ?_) (fun f cdv A outer s H vs Q E hr h=> ?_)
 ·obtain⟨fi,bd,fd,lk,ce,l,nm,c,p,B,kf,ys,v,rfl,_⟩:=h
  rfl
 ·obtain⟨fi,bd,fd,lk,ce,l,nm,c,p,B,kf,ys,v,rfl,F,a1,a2,a3,a4,a5,a6,a7,a8,a9,q⟩:=h
  refine⟨_,(aK (bL (eF (cC (pv 0) Y.cl G_knows hr aS (aA (pv 1) aI)) (fun _=>rfl)) (aL (bN fZ)) bO)
   (aK cE (aK cE (aK cE (aL cE))))),?_⟩
  obtain⟨d0,e1⟩:=F.fin
  exact⟨_,rfl,fi,d0,_,rfl,e1,iL,_,rfl,fi,bd,fd,lk,ce,l,nm,c,p,B,kf,ys,v,rfl,F,a1,a2,a3,a4,a5,a6,a7,a8,a9,fun H' kf' h1 h2 h3 h4=>⟨_,rfl,cQ (q H' kf' h1 h2 h3 h4)⟩⟩
end
inductive nM(X:SX)(x:aU):aU->Prop
 |refl:nM X x x
 |step {y z:aU} (h:nM X x y) (hz:z∈(X.tree y).looks X.val) (g:X.gv z.1 z.2.1=none):nM X x z
def kR(X:SX)(wo:aU->Option (List Int×V))(y:aU):Option (Option V×List Int):=
 match X.rl y.1 y.2.1,(X.tree y).run X.val with
 |some R,.inr is=>if(wo y).map (·.1)=some is then none else some (R.mrk,is)
 |_,_=>none
structure mN(X:SX)(xs:List aU)(kf kf':List (Ky×V))(wo wo':aU->Option (List Int×V))(ns ns':List (Option V×List Int))(L:List aU):Prop where
 nd:L.Nodup
 mem:∀y∈L,X.Vc y/\X.gv y.1 y.2.1=none/\aE kf (cK y)=none/\∃x∈xs,nM X x y
 fnd:∀y:aU,X.gv y.1 y.2.1=none->y∉L->aE kf' (cK y)=aE kf (cK y)
 new:∀y∈L,(aE kf' (cK y)).isSome=true
 won:∀y,y∉L->wo' y=wo y
 wov:∀y∈L,∀d,(X.tree y).run X.val= .inl d->wo' y=wo y
 ns:ns'=ns++ L.filterMap (kR X wo)
theorem a2A{α β:Type}{f g:α->Option β}:∀{l:List α},(∀y∈l,f y=g y)->l.filterMap f=l.filterMap g
 | [],_=>rfl
 |a::l,h=>by rw[List.filterMap_cons,List.filterMap_cons,h a aa,a2A (fun y hy=>h y (List.mem_cons_of_mem _ hy))]
theorem a2L{α:Type}{p q:α->Bool}{x:α}:∀{l:List α},l.Nodup->x∈l->p x=true->q x=false->(∀y∈l,y≠x->q y=p y)->l.countP q+ 1=l.countP p
 | [],_,h,_,_,_=>by cases h
 |a::l,nd,h,hp,hq,he=>by
  rw[List.nodup_cons]at nd
  by_cases e:a=x
  ·subst e
   have hl:l.countP q=l.countP p:=by
    refine List.countP_congr fun y hy=> ?_
    rw[he y (List.mem_cons_of_mem _ hy) (fun z=>nd.1 (z▸hy))]
   rw[List.countP_cons_of_neg (by rw[hq];exact Bool.false_ne_true),List.countP_cons_of_pos hp,hl]
  ·have hx:x∈l:=(List.mem_cons.mp h).resolve_left (fun z=>e z.symm)
   have ih:=a2L nd.2 hx hp hq (fun y hy n=>he y (List.mem_cons_of_mem _ hy) n)
   have ha:=he a aa e
   rw[List.countP_cons,List.countP_cons,ha]
   omega
noncomputable def dH (X:SX) (kf:List (Ky×V)):Nat:=X.Rs.countP fun y=>(aE kf (cK y)).isNone
theorem a8q{X:SX}(O:gU X){st:List aU}(pw:st.Pairwise fun a b=>X.rk a<X.rk b)(h:∀y∈st,X.Vc y/\X.gv y.1 y.2.1=none/\aE kf (cK y)=none):st.length<=dH X kf:=by
 have nd:st.Nodup:=pw.imp fun hab e=>by subst e;omega
 have:=sJ (m:=X.Rs.filter fun y=>(aE kf (cK y)).isNone) nd (fun y hy=>List.mem_filter.mpr ⟨O.rs y (h y hy).1 (h y hy).2.1,by rw[(h y hy).2.2];rfl⟩)
 rw[dH,List.countP_eq_length_filter]
 exact this
theorem a3d{α β:Type}{R:α->β->Prop}:∀{xs:List α} {ys:List β} {y:β},Paired R xs (ys++ [y])->∃xs' x,xs=xs'++ [x] /\Paired R xs' ys/\R x y
 |_,[],_,.cons h .nil=>⟨[],_,rfl,.nil,h⟩
 |_,_::ys,_,.cons h t=>by
  obtain⟨xs',x,rfl,h1,h2⟩:=a3d (ys:=ys) t
  exact⟨_::xs',x,rfl,.cons h h1,h2⟩
section
theorem gU.fxup{X:SX}(O:gU X)(l:Addr):gU {X with fx:=l::X.fx}:=
 ⟨O.o,O.un,O.rr,O.ru,O.no,O.rf,O.gg,O.ft,O.mb,O.mm,O.md,O.cc,O.cl,O.fl,O.nu,O.ni,O.b8,O.ab,fun a e=>List.mem_cons_of_mem _ (O.cf a e),O.rs,O.rs',O.rn,O.sem,O.lks,O.oks⟩
theorem gJ.fxup{fx:List Addr}{n:Int}(hl:∀ys,H l≠some (.lst ys)):∀{wo:Option (List Int×V)},gJ fx H mk n wo->gJ (l::fx) H mk n wo
 |none,h=>h
 |some jv,⟨tp,lo,a,b,c,d⟩=>⟨tp,lo,a,b,c,fun hm=>(List.mem_cons.mp hm).elim (fun y=>hl _ (y▸c)) d⟩
theorem gJ.fxdown{fx:List Addr}{n:Int}:∀{wo:Option (List Int×V)},gJ (l::fx) H mk n wo->gJ fx H mk n wo
 |none,h=>h
 |some jv,⟨tp,lo,a,b,c,d⟩=>⟨tp,lo,a,b,c,fun hm=>d (List.mem_cons_of_mem _ hm)⟩
variable{X:SX}{mem:Str->Str->List (aB×V)}
theorem SB.fxup(S:SB P w K mg base RG CF CB CT zt X kf kl mem wo cs ns H)(hl:H l=none)(s:aH H H')(h':H' l≠none):SB P w K mg base RG CF CB CT zt {X with fx:=l::X.fx} kf kl mem wo cs ns H':=by
 have S':=S.same s
 have nl:∀ys,H l≠some (.lst ys):=fun ys y=>by rw[hl]at y;cases y
 exact⟨S'.F,S'.fd,S'.ko,S'.fo,S'.fp,S'.lp,S'.ln,S'.cz,S'.hl,S'.lo,S'.cols,S'.cd,S'.rg,S'.rm,S'.rt,S'.ra,fun x R a b=>⟨((S.me x R a b).1.fxup nl).mv rfl (bS.of s) (fun b ys _ e=>s _ _ e),(S'.me x R a b).2⟩,fun t c R j a b=>⟨((S.ab t c R j a b).1.fxup nl).mv rfl (bS.of s) (fun b ys _ e=>s _ _ e),(S'.ab t c R j a b).2⟩,S'.ca,fun h=>Paired.imp (fun a b ⟨lc,h1,h2⟩=>⟨lc,h1.mv (bS.of s) (s _ _ h1.1),fun hm=>(List.mem_cons.mp hm).elim (fun y=>nl _ (y▸h1.1)) h2⟩) (S.nt h),fun b hb=>(List.mem_cons.mp hb).elim (fun y=>y▸h') (S'.fx b),S'.tb⟩
theorem SB.fxdown(S:SB P w K mg base RG CF CB CT zt {X with fx:=l::X.fx} kf kl mem wo cs ns H):SB P w K mg base RG CF CB CT zt X kf kl mem wo cs ns H:=
 ⟨S.F,S.fd,S.ko,S.fo,S.fp,S.lp,S.ln,S.cz,S.hl,S.lo,S.cols,S.cd,S.rg,S.rm,S.rt,S.ra,fun x R a b=>⟨(S.me x R a b).1.fxdown,(S.me x R a b).2⟩,fun t c R j a b=>⟨(S.ab t c R j a b).1.fxdown,(S.ab t c R j a b).2⟩,S.ca,fun h=>Paired.imp (fun a b ⟨lc,h1,h2⟩=>⟨lc,h1,fun hm=>h2 (List.mem_cons_of_mem _ hm)⟩) (S.nt h),fun b hb=>S.fx b (List.mem_cons_of_mem _ hb),S.tb⟩
theorem SB.own(S:SB P w K mg base RG CF CB CT zt {X with fx:=l::X.fx} kf kl mem wo cs ns H){H0:Hp}(hl:H l=some (.lst zs))(u:aY l H H')(h':H' l≠none)(nca:X.ca≠some l)(nr:∀tb∈X.tabs,l≠tb.2.r/\l≠tb.2.od)(nc:∀t c ys B,X.gv t c=some ys->(t,B)∈X.tabs->aE B.kvs (.inr c:aB)≠some (.ref l))(nt:∀t c R,X.rl t c=some R->l∉R.ft):SB P w K mg base RG CF CB CT zt {X with fx:=l::X.fx} kf kl mem wo cs ns H':=by
 have k1:∀b o,H b=some o->(∀y,o≠ .lst y)->H' b=some o:=fun b o e n=>u b o (fun y=>by rw[y,hl]at e;exact n _ (Option.some.inj e).symm) e
 have k2:∀b ys,b∉ [l] ->H b=some (.lst ys)->H' b=some (.lst ys):=fun b ys n e=>u b _ (fun y=>n (by rw[y];exact List.mem_singleton.mpr rfl)) e
 have k3:∀b ys,b∉l::X.fx->H b=some (.lst ys)->H' b=some (.lst ys):=fun b ys n e=>k2 b ys (fun hm=>n (by rw[List.mem_singleton.mp hm];exact aa)) e
 refine S.mv [l] (fun b o e n _=>k1 b o e n) k2 (fun b hb=> ?_) (fun b hb=> ?_) (fun b hb=> ?_) (fun b hb=> ?_) (fun b hb=> ?_) ⟨S.ca.1,fun a e=>u _ _ (fun y=>nca (y▸e)) (S.ca.2 a e)⟩ (fun h=>Paired.imp (fun a b h=>h.mv (fun a xs e=>k1 _ _ e nk) k3) (S.nt h)) ?_
 ·by_cases e:b=l
  ·rw[e];exact h'
  ·cases e2:H b with
   |none=>exact absurd e2 (S.fx b hb)
   |some o=>rw[u b o e e2];exact fun y=>by cases y
 ·rw[List.mem_singleton.mp hb];exact aa
 ·rw[List.mem_singleton.mp hb];exact nr
 ·rw[List.mem_singleton.mp hb];exact nc
 ·rw[List.mem_singleton.mp hb];exact nt
 ·exact nN S.tb fun b o _ _ n e=>k1 b o e n
theorem SB.apart(S:SB P w K mg base RG CF CB CT zt X kf kl mem wo cs ns H)(hl:H l=none):X.ca≠some l/\(∀tb∈X.tabs,l≠tb.2.r/\l≠tb.2.od)/\(∀t c ys B,X.gv t c=some ys->(t,B)∈X.tabs->aE B.kvs (.inr c:aB)≠some (.ref l))/\∀t c R,X.rl t c=some R->l∉R.ft:=by
 refine⟨S.ca.new hl,fun tb htb=>⟨fun y=> ?_,fun y=> ?_⟩,fun t c ys B g h y=> ?_,fun t c R hR hm=> ?_⟩
 ·have:=(S.F tb htb).B.tab.rows
  rw[<- y,hl]at this;cases this
 ·have:=(S.F tb htb).B.ord
  rw[<- y,hl]at this;cases this
 ·obtain⟨l',h1,h2⟩:=S.cols t c ys B g h
  rw[y]at h1
  cases h1
  rw[hl]at h2;cases h2
 ·obtain⟨o,e,_⟩:=S.rt t c R hR l hm
  rw[hl]at e;cases e
end
section
def AtR(P:Program)(w:World)(K:Fg)(mg:Str->Option Value)(base:Heap)(RG:Addr->Sp->Prop)(CF CB CT zt:Addr)(C:Addr)(sp:Sp):Prop:=C=CF/\(sp=a0c CF CB CT\/ sp=a0h CF CB CT\/ sp=wX P w K mg base RG CF CB CT zt)
inductive qS(P:Program)(w:World)(K:Fg)(mg:Str->Option Value)(base:Heap)(RG:Addr->Sp->Prop)(CF CB CT zt:Addr)(vs:List V)(H:Hp)(Q:VK)(E':XK):Prop
 |mk (X:SX) (x:aU) (ce:Addr) (kf kl:List (Ky×V)) (mem:Str->Str->List (aB×V)) (wo:aU->Option (List Int×V)) (cs:List V) (ns:List (Option V×List Int)):(vs= [.ref X.fi,.ref ce])->(gU X)->(SB P w K mg base RG CF CB CT zt X kf kl mem wo cs ns H)->(lX P w K mg base X H)->(cs.length+ X.Rs.length<900)->(X.Vc x)->(H ce=some (.tup ((cK x).map kV)))->(∀H' v kf' kl' mem' wo' cs' ns' L,SB P w K mg base RG CF CB CT zt X kf' kl' mem' wo' cs' ns' H'->dA X zt H H'->aE kf' (cK x)=some v->Pd K H' v (X.val x)->mN X [x] kf kf' wo wo' ns ns' L->cs'.length+ dH X kf'<=cs.length+ dH X kf->Q v H')->qS P w K mg base RG CF CB CT zt vs H Q E'
abbrev Nvo:List Str:=["self","cell","waiting","lacking"]
theorem zA:bA Nvo ["self","cell"] (aO a07):={}
theorem a4m(T:bC K mg){CR:Addr}(Rt:nJ K mg CR)(Y:eT K mg CF)(Wb:cV K mg CB)(Z:dR K mg CT){z:Addr×Addr}(B2:kJ K mg "Finder" "gathered" "Finder.gathered" gO z)(M:jA mg base z.1 z.2)(hRG:∀C sp,RG C sp->cF K C/\aR P w K mg base aF 8 C "gather" ["self","look","many","table","column","place"] sp):aR P w K mg base aF 11 CF "value_of" ["self","cell"] (qS P w K mg base RG CF CB CT z.2):=by
 have G_at:∀C sp,AtR P w K mg base RG CF CB CT z.2 C sp->cF K C/\aR P w K mg base aF 10 C "attempt" ["self","cell"] sp:=fun C sp h=>by
  obtain⟨rfl,rfl|rfl|rfl⟩:=h
  ·exact⟨Y.cl,aR.le (a30 T Y Wb Z) (by decide)⟩
  ·exact⟨Y.cl,aR.le (a7S T Y Wb) (by decide)⟩
  ·exact⟨Y.cl,a6A T Rt Y Wb Z B2 M hRG⟩
 refine Y.m_value_of.known zA (fun _ _ _ _ _ _ us hl=>dZ (fun _ _=>rfl) us hl) (fun vs H Q E h=> ?_) (fun f cdv A outer s H vs Q E hr h=> ?_)
 ·obtain⟨X,x,ce,kf,kl,mem,wo,cs,ns,rfl,_⟩:=h
  rfl
 ·obtain⟨X,x,ce,kf,kl,mem,wo,cs,ns,rfl,O,S,fnA,c9,hV,hce,q⟩:=h
  have hu:=dO hr
  refine⟨_,(aK (cH (i:=2) zA.nd rfl (Or.inl rfl) (gW (aA (pv 1) aI)))
   (aK (wP PassesOwn.never (a0G (pv 2) (fun _=>rfl)) (aK (cH (i:=3) zA.nd rfl (Or.inl rfl) (zK (pv 0) G_at hr aS (aA (cM iD (pv 2) (xZ zI bD) (fun _ _=>rfl)) aI)))
   (aL (bL (cN oF (pv 3) fZ (cX _)) (aL (cA (a1B F.plainAttrs_list F.slot_list_pop F.type_list_pop a3S (pv 2)))) (aL (cA (kL F.plainAttrs_list F.slot_list_append F.type_list_append jC (pv 2) (aA (pv 3) aI))))))))
   (aL (bN (fD hu (aW (pv 0) rfl) (pv 1) (fun _ _=>rfl)))))),?_⟩
  refine⟨_,rfl,sl,fun wl hwl=> ?_⟩
  have s1:=aH.new (o:=.lst [.ref ce]) hwl
  have w1:upd H wl (.lst [.ref ce]) wl=some (.lst [.ref ce]):=aJ
  generalize upd H wl (.lst [.ref ce])=H1 at s1 w1|-
  obtain⟨nca,nr,nc,nft⟩:=S.apart hwl
  have O1:=O.fxup wl
  have S1:=S.fxup hwl s1 (by rw[w1];exact fun y=>by cases y)
  have fn1:=fnA.keep (cS.of s1)
  have ce1:=s1 _ _ hce
  obtain⟨kin,B,hB,hp,hcase⟩:=O.o.v x hV
  have nz:∀{Hx:Hp} {kf' kl':List (Ky×V)} {mem':Str->Str->List (aB×V)} {wo':aU->Option (List Int×V)} {cs':List V} {ns':List (Option V×List Int)} {zs:List V},SB P w K mg base RG CF CB CT z.2 {X with fx:=wl::X.fx} kf' kl' mem' wo' cs' ns' Hx->∀{H':Hp},dA X z.2 Hx H'->Hx wl=some (.lst zs)->H' wl=some (.lst zs):= @fun Hx kf' kl' mem' wo' cs' ns' zs S' H' f e=>S'.k f e nk nk nk nca
  let Fin:Hp->Prop:=fun H2=>∃kf' kl' mem' wo' cs' ns' v L,SB P w K mg base RG CF CB CT z.2 {X with fx:=wl::X.fx} kf' kl' mem' wo' cs' ns' H2/\dA X z.2 H H2/\aE kf' (cK x)=some v/\Pd K H2 v (X.val x)/\mN X [x] kf kf' wo wo' ns ns' L/\cs'.length+ dH X kf'<=cs.length+ dH X kf/\H2 ce=some (.tup ((cK x).map kV))
  have ret:∀(H2:Hp) (o3:Option V),Fin H2->(∃y,some y= [some (V.ref X.fi),some (V.ref ce),some (V.ref wl),o3][0]?.join/\True)->True:=fun _ _ _ _=>trivial
  have base1:∀{σ:St} {H2:Hp} {o3:Option V},Fin H2->σ= [some (.ref X.fi),some (.ref ce),some (.ref wl),o3] ->∃v kf' d,H2 X.fi=some (.ins CF d (fR X.bd X.fd X.lk))/\H2 X.fd=some (.dT kf')/\H2 ce=some (.tup ((cK x).map kV))/\aE kf' (cK x)=some v/\Q v H2:=fun{σ H2 o3} h _=>by
   obtain⟨kf',kl',mem',wo',cs',ns',v,L,S2,f2,hv,hpd,ve,hc,c2⟩:=h
   obtain⟨d2,e2⟩:=(S2.F _ hB).fin
   exact⟨v,kf',d2,e2,S2.fd,c2,hv,q H2 v kf' kl' mem' wo' cs' ns' L S2.fxdown f2 hv hpd ve hc⟩
  have fin:∀{H2:Hp} {o3:Option V},Fin H2->∃v1,some (some (V.ref X.fi))=some (some v1)/\∃p C dx fs v,v1= .ref p/\H2 p=some (.ins C dx fs)/\cF K C/\cB K C "found" /\fs.lookup ("found":Str)=some v/\∃v2,some (some (V.ref ce))=some (some v2)/\∃d r,v= .ref d/\bW H2 d v2 (some r)/\Q r H2:=fun{H2 o3} h=>by
   obtain⟨v,kf',d,e1,e2,e3,e4,e5⟩:=base1 (o3:=o3) h rfl
   exact⟨_,rfl,X.fi,CF,d,_,_,rfl,e1,Y.cl,Y.n_found,(iH _ _ _).2.1,_,rfl,X.fd,v,rfl,.inr ⟨kf',cK x,ce,.inl e2,rfl,e3,e4.symm⟩,e5⟩
  have popped:∀{H2:Hp},(∃kf' kl' mem' wo' cs' ns' v L,SB P w K mg base RG CF CB CT z.2 {X with fx:=wl::X.fx} kf' kl' mem' wo' cs' ns' H2/\dA X z.2 H H2/\aE kf' (cK x)=some v/\Pd K H2 v (X.val x)/\mN X [x] kf kf' wo wo' ns ns' L/\cs'.length+ dH X kf'<=cs.length+ dH X kf)->∀{zs:List V},H2 wl=some (.lst zs)->H2 ce=some (.tup ((cK x).map kV))->Fin (upd H2 wl (.lst [])):=fun{H2} h {zs} h2 hc2=>by
   obtain⟨kf',kl',mem',wo',cs',ns',v,L,S2,f2,hv,hpd,ve,hc⟩:=h
   have u:aY wl H2 (upd H2 wl (.lst [])):=fun b o n e=>by rw[aG n];exact e
   have ktt:eD H2 (upd H2 wl (.lst [])):=eD.upd h2 nk (fun _ _ y=>by cases y)
   exact⟨kf',kl',mem',wo',cs',ns',v,L,S2.own (H0:=H) h2 u (by rw[aJ];exact fun y=>by cases y) nca nr nc nft,fun b o n1 n2 n3 n4 n5 e=>u _ _ (bE e hwl) (f2 b o n1 n2 n3 n4 n5 e),hv,hpd.keep ktt,ve,hc,u _ _ (fun y=>by rw[y,h2]at hc2;cases hc2) hc2⟩
  rcases hcase with⟨ys,g,ly,ncl,hru⟩|⟨g,r,hru⟩
  ·obtain⟨l,hkv,hlc⟩:=S1.cols x.1 x.2.1 ys B g hB
   have hpy:x.2.2<ys.length:=by rw[ly];exact hp
   obtain⟨v,hv'⟩:∃v,ys[x.2.2]?=some v:=⟨_,List.getElem?_eq_getElem hpy⟩
   have ha:=jB hv'
   have kl8:kf.length<=X.Ks.length:=S1.ko.len
   have k8:=O.o.k8
   refine⟨fun m σ H2=>(m=1/\σ= [some (.ref X.fi),some (.ref ce),some (.ref wl),none] /\H2=H1)\/ (m=0/\∃o3,σ= [some (.ref X.fi),some (.ref ce),some (.ref wl),o3] /\H2 wl=some (.lst [])/\Fin H2),⟨1,.inl ⟨rfl,rfl,rfl⟩⟩,?_⟩
   rintro m σ H2 (⟨rfl,rfl,rfl⟩|⟨rfl,o3,rfl,h2,hF⟩)
   ·refine⟨_,rfl,_,.inl ⟨_,aN.of w1,rfl⟩,?_⟩
    refine cW (fun _=> ?_) (fun g=>absurd rfl g)
    refine⟨fun σ' H'=>∃m',m'<1/\((m'=1/\σ'= [some (.ref X.fi),some (.ref ce),some (.ref wl),none] /\H'=H2)\/ (m'=0/\∃o3,σ'= [some (.ref X.fi),some (.ref ce),some (.ref wl),o3] /\H' wl=some (.lst [])/\Fin H')),fun σ' H' h=>h,?_⟩
    obtain⟨d1,e1⟩:=(S1.F _ hB).fin
    refine⟨_,rfl,CF,_,X.fi,d1,_,⟨rfl,.inl rfl⟩,rfl,e1,iL,_,rfl,_,rfl,wl,_,_,_,rfl,rfl,aN.of w1,rfl,?_⟩
    refine⟨X.fi,X.bd,X.fd,X.lk,ce,l,x.1,x.2.1,x.2.2,B,kf,ys,v,rfl,S1.F _ hB,ce1,hru,ncl,hkv,hlc,hp,ha,fun v' e=> ?_,by show kf.length<899;omega,fun H3 kf' hk vk F3 b3=> ?_⟩
    ·have:=S1.fo _ _ _ v' ys g e
     rw[ha]at this
     exact(Option.some.inj this).symm
    refine⟨_,rfl,rfl,_,rfl,cQ ?_⟩
    have f3:dA X z.2 H2 H3:=fun b o n1 _ _ _ _ e=>b3 b o n1 e
    have kt3:=S1.ktt f3
    have kl3:=S1.kl' O1 f3
    have n3:∀{b:Addr} {o:HO},H2 b=some o->(∀y,o≠ .dT y)->H3 b=some o:=fun e n=>b3 _ _ (fun y=>by rw[y,S1.fd]at e;exact n _ (Option.some.inj e).symm) e
    have same:∀y:aU,X.gv y.1 y.2.1=none->aE kf' (cK y)=aE kf (cK y):=fun y gy=>by
     rcases hk with rfl|rfl
     ·rfl
     ·rw[fQ,if_neg (fun h=>by
       have:=qI (x:=y) (y:=x) h
       subst this
       rw[g]at gy
       cases gy)]
    have ko':dX X.Ks kf':=by
     rcases hk with rfl|rfl
     ·exact S1.ko
     ·exact S1.ko.put kin
    have S3:SB P w K mg base RG CF CB CT z.2 {X with fx:=wl::X.fx} kf' kl mem wo cs ns H3:=S1.to O1 f3 F3.fnd ko' (fun t' c' p' v' ys' g' e=>by
     rcases hk with rfl|rfl
     ·exact S1.fo t' c' p' v' ys' g' e
     ·rw[fQ]at e
      split at e
      ·next h=>
       have:=qI (x:=(t',c',p')) (y:=x) h
       subst this
       rw[show X.gv t' c'=some ys from g]at g'
       rw[<- Option.some.inj g',<- Option.some.inj e]
       exact ha
      ·exact S1.fo t' c' p' v' ys' g' e) (fun x' v' a b c=>by
      rw[same x' b]at c
      exact⟨(S1.fp x' v' a b c).1.keep kt3,(S1.fp x' v' a b c).2⟩) (fun x' v' a b c=>by
      rw[same x' b]at c
      obtain⟨tl',kt',h1,h2,h3,h4,h5⟩:=S1.lp x' v' a b c
      exact⟨tl',kt',h1,b3 _ _ h3 h2,h3,h4,h5⟩) (fun x' a b c=>by
      rw[same x' b]at c
      exact S1.ln x' a b c) (fun x' v' a b c y hy gy=>by
      rw[same x' b]at c
      rw[same y gy]
      exact S1.cz x' v' a b c y hy gy) (b3 _ _ O.fl.symm S1.hl) S1.lo (fun t c R' h=>⟨n3 (S1.rm t c R' h).1 nk,(S1.rm t c R' h).2⟩) (fun x' R' a b=>⟨(S1.me x' R' a b).1.mv rfl kt3.t kl3,fun is v e=>((S1.me x' R' a b).2 is v e).keep kt3⟩) (fun t c R' j a b=>⟨(S1.ab t c R' j a b).1.mv rfl kt3.t kl3,fun is v e=>((S1.ab t c R' j a b).2 is v e).keep kt3⟩) ⟨S1.ca.1,fun a e=>n3 (S1.ca.2 a e) nk⟩ (fun h=>Paired.imp (fun a b h=>h.mv kt3.t kl3) (S1.nt h)) (nN S1.tb fun b o n1 _ _ e=>n3 e n1)
    have w3:=n3 w1 nk
    refine⟨_,rfl,.inl ⟨rfl,_,aN.of w3⟩,wl,_,_,rfl,rfl,w3,rfl,0,by decide,.inr ⟨rfl,_,rfl,aJ,popped ⟨kf',kl,mem,wo,cs,ns,v,[],S3,(dA.of s1).trans f3,vk,(S1.cd _ _ _ _ _ g ha).keep kt3,⟨List.nodup_nil,fun y hy=>(by cases hy),fun y gy _=>same y gy,fun y hy=>(by cases hy),fun _ _=>rfl,fun y hy=>(by cases hy),by rw[List.filterMap_nil,List.append_nil]⟩,?_⟩ w3 (n3 ce1 nk)⟩⟩
    rw[dH,dH]
    have:X.Rs.countP (fun y=>(aE kf' (cK y)).isNone)=X.Rs.countP (fun y=>(aE kf (cK y)).isNone):=List.countP_congr fun y hy=>by rw[same y (O.rs' y hy)]
    omega
   ·refine⟨_,rfl,_,.inl ⟨_,aN.of h2,rfl⟩,?_⟩
    exact cW (fun g=>by cases g) (fun _=>fin (o3:=o3) hF)
  ·obtain⟨R,hR⟩:=O.rr x hV g
   cases hk:aE kf (cK x)with
   |some v=>
    refine⟨fun m σ H2=>(m=1/\σ= [some (.ref X.fi),some (.ref ce),some (.ref wl),none] /\H2=H1)\/ (m=0/\∃o3,σ= [some (.ref X.fi),some (.ref ce),some (.ref wl),o3] /\H2 wl=some (.lst [])/\Fin H2),⟨1,.inl ⟨rfl,rfl,rfl⟩⟩,?_⟩
    rintro m σ H2 (⟨rfl,rfl,rfl⟩|⟨rfl,o3,rfl,h2,hF⟩)
    ·refine⟨_,rfl,_,.inl ⟨_,aN.of w1,rfl⟩,?_⟩
     refine cW (fun _=> ?_) (fun g=>absurd rfl g)
     refine⟨fun σ' H'=>∃m',m'<1/\((m'=1/\σ'= [some (.ref X.fi),some (.ref ce),some (.ref wl),none] /\H'=H2)\/ (m'=0/\∃o3,σ'= [some (.ref X.fi),some (.ref ce),some (.ref wl),o3] /\H' wl=some (.lst [])/\Fin H')),fun σ' H' h=>h,?_⟩
     obtain⟨d1,e1⟩:=(S1.F _ hB).fin
     refine⟨_,rfl,CF,_,X.fi,d1,_,⟨rfl,.inr (.inl rfl)⟩,rfl,e1,iL,_,rfl,_,rfl,wl,_,_,_,rfl,rfl,aN.of w1,rfl,?_⟩
     refine⟨X.fi,X.bd,X.fd,X.lk,ce,x.1,x.2.1,x.2.2,B,kf,r,v,rfl,S1.F _ hB,ce1,hru,hk,?_⟩
     refine⟨_,rfl,rfl,_,rfl,cQ ?_⟩
     exact⟨_,rfl,.inl ⟨rfl,_,aN.of w1⟩,wl,_,_,rfl,rfl,w1,rfl,0,by decide,.inr ⟨rfl,_,rfl,aJ,popped ⟨kf,kl,mem,wo,cs,ns,v,[],S1,dA.of s1,hk,(S1.fp x v hV g hk).1,⟨List.nodup_nil,fun y hy=>(by cases hy),fun y gy _=>rfl,fun y hy=>(by cases hy),fun _ _=>rfl,fun y hy=>(by cases hy),by rw[List.filterMap_nil,List.append_nil]⟩,Nat.le_refl _⟩ w1 ce1⟩⟩
    ·refine⟨_,rfl,_,.inl ⟨_,aN.of h2,rfl⟩,?_⟩
     exact cW (fun g=>by cases g) (fun _=>fin (o3:=o3) hF)
   |none=>
    let Stk:Nat->St->Hp->Prop:=fun m σ H2=>∃(o3:Option V) (st:List aU) (vs:List V) (kf' kl':List (Ky×V)) (mem':Str->Str->List (aB×V)) (wo':aU->Option (List Int×V)) (cs':List V) (ns':List (Option V×List Int)) (L:List aU),σ= [some (.ref X.fi),some (.ref ce),some (.ref wl),o3] /\SB P w K mg base RG CF CB CT z.2 {X with fx:=wl::X.fx} kf' kl' mem' wo' cs' ns' H2/\lX P w K mg base X H2/\dA X z.2 H H2/\H2 wl=some (.lst vs)/\Paired (nQ H2) vs st.reverse/\H2 ce=some (.tup ((cK x).map kV))/\st.Pairwise (fun a b=>X.rk a<X.rk b)/\(∀y∈st,X.Vc y/\X.gv y.1 y.2.1=none/\aE kf' (cK y)=none/\nM X x y)/\(x∈st\/ (aE kf' (cK x)).isSome=true)/\mN X [x] kf kf' wo wo' ns ns' L/\cs'.length+ dH X kf'<=cs.length+ dH X kf/\m=2* dH X kf'- st.length
    have stlen:∀{st:List aU} {kf':List (Ky×V)},st.Pairwise (fun a b=>X.rk a<X.rk b)->(∀y∈st,X.Vc y/\X.gv y.1 y.2.1=none/\aE kf' (cK y)=none/\nM X x y)->st.length<=dH X kf':=fun pw h=>a8q O pw fun y hy=>⟨(h y hy).1,(h y hy).2.1,(h y hy).2.2.1⟩
    have ulen:dH X kf<=X.Rs.length:=List.countP_le_length
    refine⟨Stk,⟨_,none,[x],[.ref ce],kf,kl,mem,wo,cs,ns,[],rfl,S1,fn1,dA.of s1,w1,.cons ⟨ce,rfl,ce1⟩ .nil,ce1,List.pairwise_singleton _ _,fun y hy=> ?_,.inl (List.mem_singleton.mpr rfl),⟨List.nodup_nil,fun y hy=>(by cases hy),fun y gy _=>rfl,fun y hy=>(by cases hy),fun _ _=>rfl,fun y hy=>(by cases hy),by rw[List.filterMap_nil,List.append_nil]⟩,Nat.le_refl _,rfl⟩,?_⟩
    ·rw[List.mem_singleton.mp hy]
     exact⟨hV,g,hk,.refl⟩
    rintro m σ H2 ⟨o3,st,vs,kf',kl',mem',wo',cs',ns',L,rfl,S2,fn2,f2,h2,hvs,c2,pw,hst,hx,ve,hc,rfl⟩
    cases st with
    |nil=>
     cases hvs
     refine⟨_,rfl,_,.inl ⟨_,aN.of h2,rfl⟩,?_⟩
     refine cW (fun g=>by cases g) (fun _=> ?_)
     have hx:(aE kf' (cK x)).isSome=true:=hx.resolve_left (fun h=>by cases h)
     obtain⟨v,hv⟩:=Option.isSome_iff_exists.mp hx
     exact fin (o3:=o3) ⟨kf',kl',mem',wo',cs',ns',v,L,S2,f2,hv,(S2.fp x v hV g hv).1,ve,hc,c2⟩
    |cons aV cJ=>
     have ml:=stlen pw hst
     rw[List.reverse_cons]at hvs
     obtain⟨vs',tv,rfl,hvs',ta,rfl,hta⟩:=a3d hvs
     obtain⟨tV,tg,tn,tD⟩:=hst aV aa
     obtain⟨R2,hR2⟩:=O.rr aV tV tg
     refine⟨_,rfl,_,.inl ⟨_,aN.of h2,rfl⟩,?_⟩
     refine cW (fun _=> ?_) (fun g=>absurd (by cases vs'<;>rfl) g)
     refine⟨fun σ' H'=>∃m',m'<2* dH X kf'- (aV::cJ).length/\Stk m' σ' H',fun σ' H' h=>h,?_⟩
     obtain⟨d2,e2⟩:=(S2.F _ hB).fin
     refine⟨_,rfl,CF,_,X.fi,d2,_,⟨rfl,.inr (.inr rfl)⟩,rfl,e2,iL,_,rfl,_,rfl,wl,_,_,_,rfl,rfl,aN.of h2,xE _ _,?_⟩
     have hlen:=Paired.length hvs'
     rw[List.length_reverse]at hlen
     have rl:cJ.length+ 1<=dH X kf':=ml
     refine⟨{X with fx:=wl::X.fx},aV,R2,ta,kf',kl',mem',wo',cs',ns',rfl,O1,S2,fn2,by omega,tV,hR2,tn,hta,fun H3 rr kf3 kl3 mem3 wo3 cs3 ns3 S3 f3 en=> ?_⟩
     have f3:dA X z.2 H2 H3:=f3
     have kt3:=S2.ktt f3
     have w3:=nz S2 f3 h2
     have c3:=kt3.t _ _ c2
     have fn3:=fn2.keep (S2.kz f3)
     have fr3:=f2.trans f3
     have hvs3:Paired (nQ H3) vs' cJ.reverse:=Paired.imp (fun a b h=>h.keep kt3.t) hvs'
     have hwlH:∀{b:Addr} {o:HO},H b=some o->b≠wl:=fun e=>bE e hwl
     rcases en with⟨rfl,rfl,rfl,la,y,rfl,hla,hy,gy,ny,same⟩|⟨rfl,cl3,v,hv,same,en⟩
     ·
      refine⟨_,rfl,rfl,_,rfl,bI ?_⟩
      refine⟨_,rfl,.inl ⟨rfl,_,aN.of w3⟩,_,rfl,wl,_,_,rfl,rfl,w3,cY (by rw[List.length_append];show vs'.length+ 1<=1000;omega),?_⟩
      have u:aY wl H3 (upd H3 wl (.lst (vs'++ [.ref ta] ++ [.ref la]))):=fun b o n e=>by rw[aG n];exact e
      have ktt:bS H3 (upd H3 wl (.lst (vs'++ [.ref ta] ++ [.ref la]))):=bS.upd w3 nk
      have kz4:cS H3 (upd H3 wl (.lst (vs'++ [.ref ta] ++ [.ref la]))):=cS.but u w3 nk
      obtain⟨yV,yr⟩:=O.lks aV R2 tV hR2 y hy
      have yr:=yr gy
      have uu:dH X kf3=dH X kf':=List.countP_congr fun z' hz=>by rw[same z' (O.rs' z' hz)]
      refine⟨2* dH X kf3- (y::aV::cJ).length,by rw[uu];show 2* dH X kf'- (cJ.length+ 1+ 1)<2* dH X kf'- (cJ.length+ 1);omega,_,y::aV::cJ,_,kf3,kl3,mem3,wo3,cs3,ns3,L,rfl,S3.own (H0:=H) w3 u (by rw[aJ];exact fun y=>by cases y) nca nr nc nft,fn3.keep kz4,fun b o n1 n2 n3 n4 n5 e=>u _ _ (hwlH e) (fr3 b o n1 n2 n3 n4 n5 e),aJ,?_,ktt _ _ c3,?_,fun y' hy'=> ?_,?_,?_,by rw[uu];exact hc,rfl⟩
      ·rw[List.reverse_cons,List.reverse_cons]
       exact Paired.snoc ⟨la,rfl,ktt _ _ hla⟩ (Paired.snoc ⟨ta,rfl,ktt _ _ (kt3.t _ _ hta)⟩ (Paired.imp (fun a b h=>h.keep ktt) hvs3))
      ·refine List.pairwise_cons.mpr ⟨fun b hb=> ?_,pw⟩
       rcases List.mem_cons.mp hb with rfl|hb
       ·exact yr
       ·exact Nat.lt_trans yr ((List.pairwise_cons.mp pw).1 b hb)
      ·rcases List.mem_cons.mp hy' with rfl|hy'
       ·exact⟨yV,gy,by rw[same y' gy];exact ny,.step tD hy gy⟩
       ·obtain⟨a1,a2,a3,a4⟩:=hst y' hy'
        exact⟨a1,a2,by rw[same y' a2];exact a3,a4⟩
      ·rcases hx with hx|hx
       ·exact .inl (List.mem_cons_of_mem _ hx)
       ·exact .inr (by rw[same x g];exact hx)
      ·exact⟨ve.nd,ve.mem,fun y' g' n'=>by rw[same y' g',ve.fnd y' g' n'],fun y' h'=>by rw[same y' (ve.mem y' h').2.1];exact ve.new y' h',ve.won,ve.wov,ve.ns⟩
     ·
      refine⟨_,rfl,rfl,_,rfl,cQ ?_⟩
      refine⟨_,rfl,.inl ⟨rfl,_,aN.of w3⟩,wl,_,.ref ta,rfl,rfl,w3,by rw[List.length_append];show(vs'++ [V.ref ta])[vs'.length+ 1- 1]?=_;rw[Nat.add_sub_cancel,List.getElem?_append_right (Nat.le_refl _),Nat.sub_self];rfl,?_⟩
      rw[List.dropLast_concat]
      have u:aY wl H3 (upd H3 wl (.lst vs')):=fun b o n e=>by rw[aG n];exact e
      have ktt:bS H3 (upd H3 wl (.lst vs')):=bS.upd w3 nk
      have kz4:cS H3 (upd H3 wl (.lst vs')):=cS.but u w3 nk
      have uu:dH X kf3+ 1=dH X kf':=a2L (p:=fun y=>(aE kf' (cK y)).isNone) (q:=fun y=>(aE kf3 (cK y)).isNone) O.rn (O.rs aV tV tg) (by rw[tn];rfl) (by rw[hv];rfl) (fun y hy n=>by rw[same y (O.rs' y hy) n])
      have tnL:aV∉L:=fun hm=>by have:=ve.new aV hm;rw[tn]at this;cases this
      have wtop:wo' aV=wo aV:=ve.won aV tnL
      have pw2:=List.pairwise_cons.mp pw
      have nrest:∀y∈cJ,y≠aV:=fun y hy e=>by have:=pw2.1 y hy;rw[e]at this;omega
      refine⟨2* dH X kf3- cJ.length,by show 2* dH X kf3- cJ.length<2* dH X kf'- (cJ.length+ 1);omega,_,cJ,_,kf3,kl3,mem3,wo3,cs3,ns3,L++ [aV],rfl,S3.own (H0:=H) w3 u (by rw[aJ];exact fun y=>by cases y) nca nr nc nft,fn3.keep kz4,fun b o n1 n2 n3 n4 n5 e=>u _ _ (hwlH e) (fr3 b o n1 n2 n3 n4 n5 e),aJ,Paired.imp (fun a b h=>h.keep ktt) hvs3,ktt _ _ c3,pw2.2,fun y' hy'=> ?_,?_,?_,by omega,rfl⟩
      ·obtain⟨a1,a2,a3,a4⟩:=hst y' (List.mem_cons_of_mem _ hy')
       exact⟨a1,a2,by rw[same y' a2 (nrest y' hy')];exact a3,a4⟩
      ·by_cases hxt:x=aV
       ·exact .inr (by rw[hxt,hv];rfl)
       ·rcases hx with hx|hx
        ·exact .inl ((List.mem_cons.mp hx).resolve_left hxt)
        ·exact .inr (by rw[same x g hxt];exact hx)
      ·have hwo3:(∀y,y≠aV->wo3 y=wo' y)/\(∀d,(X.tree aV).run X.val= .inl d->wo3 aV=wo' aV)/\ns3=ns'++ (kR X wo aV).toList:=by
        unfold kR
        rw[hR2]
        have en:vF R2 aV wo' wo3 ns' ns3 v ((X.tree aV).run X.val):=en
        cases hrun:(X.tree aV).run X.val with
        |inl d=>
         rw[hrun]at en
         obtain⟨rfl,rfl⟩:=en
         exact⟨fun _ _=>rfl,fun _ _=>rfl,(List.append_nil _).symm⟩
        |inr is=>
         rw[hrun]at en
         rcases en with⟨h1,rfl,rfl⟩|⟨h1,rfl,rfl⟩
         ·rw[wtop]at h1
          refine⟨fun _ _=>rfl,fun _ _=>rfl,?_⟩
          rw[h1]
          show _=_++ (if some is=some is then none else some (R2.mrk,is)).toList
          rw[if_pos rfl]
          exact(List.append_nil _).symm
         ·refine⟨fun y n=>if_neg n,fun d e=>(by cases e),?_⟩
          rw[wtop]at h1
          show _=_++ (if(wo aV).map (·.1)=some is then none else some (R2.mrk,is)).toList
          rw[if_neg (fun y=>by
           obtain⟨jv,e1,e2⟩:=Option.map_eq_some_iff.mp y
           exact h1 jv.2 (by rw[e1,<- e2]))]
          rfl
       obtain⟨hw1,hw2,hw3⟩:=hwo3
       refine⟨?_,fun y hy=> ?_,fun y gy hy=> ?_,fun y hy=> ?_,fun y hy=> ?_,fun y hy d hd=> ?_,?_⟩
       ·rw[List.nodup_append]
        exact⟨ve.nd,List.pairwise_singleton _ _,fun a ha b hb=>by rw[List.mem_singleton]at hb;subst hb;exact fun y=>tnL (y▸ha)⟩
       ·rcases List.mem_append.mp hy with hy|hy
        ·exact ve.mem y hy
        ·rw[List.mem_singleton.mp hy]
         exact⟨tV,tg,by rw[<- ve.fnd aV tg tnL];exact tn,x,List.mem_singleton.mpr rfl,tD⟩
       ·have h1:y∉L:=fun h=>hy (List.mem_append_left _ h)
        have h2:y≠aV:=fun h=>hy (List.mem_append_right _ (List.mem_singleton.mpr h))
        rw[same y gy h2,ve.fnd y gy h1]
       ·rcases List.mem_append.mp hy with hy|hy
        ·rw[same y (ve.mem y hy).2.1 (fun e=>tnL (e▸hy))]
         exact ve.new y hy
        ·rw[List.mem_singleton.mp hy,hv];rfl
       ·have h1:y∉L:=fun h=>hy (List.mem_append_left _ h)
        have h2:y≠aV:=fun h=>hy (List.mem_append_right _ (List.mem_singleton.mpr h))
        rw[hw1 y h2,ve.won y h1]
       ·rcases List.mem_append.mp hy with hy|hy
        ·rw[hw1 y (fun e=>tnL (e▸hy))]
         exact ve.wov y hy d hd
        ·have:=List.mem_singleton.mp hy
         subst this
         rw[hw2 d hd,wtop]
       ·rw[hw3,ve.ns,List.filterMap_append,List.append_assoc]
        congr 1
end
section
variable{X:SX}{mem:Str->Str->List (aB×V)}
theorem SB.sh(S:SB P w K mg base RG CF CB CT zt X kf kl mem wo cs ns H){s:Addr}(hs:∃dx,H s=some (.ins CS dx (dW X.bd ch X.fi))){nm:Str}{B:BM}(hB:(nm,B)∈X.tabs)(nn:Nl nm):∃kb,vS CS CB CT s X.bd ch X.fi kb nm B H:=by
 obtain⟨kb,e2,e3⟩:=(S.F _ hB).bds
 exact⟨kb,hs,e2,nn,e3,(S.F _ hB).B⟩
theorem sc_T(O:gU X)(S:SB P w K mg base RG CF CB CT zt X kf kl mem wo cs ns H)(fnA:lX P w K mg base X H){s:Addr}(hs:∃dx,H s=some (.ins CS dx (dW X.bd ch X.fi))){nm:Str}{B:BM}(hB:(nm,B)∈X.tabs)(nn:Nl nm)(nc:Nl c)(co:c∈B.ord)(hV:X.Vc (nm,c,p))(c9:cs.length+ X.Rs.length<900){Q:VK}
 (q:∀H' v kf' kl' mem' wo' cs' ns' L,SB P w K mg base RG CF CB CT zt X kf' kl' mem' wo' cs' ns' H'->dA X zt H H'->aE kf' (cK (nm,c,p))=some v->Pd K H' v (X.val (nm,c,p))->mN X [(nm,c,p)] kf kf' wo wo' ns ns' L->cs'.length+ dH X kf'<=cs.length+ dH X kf->Q v H'):
 rP CS CF CB CT (qS P w K mg base RG CF CB CT zt) [.ref s,.str nm,.str c,.int (p:Int)] H Q E0:=by
 obtain⟨kb,hS⟩:=S.sh hs hB nn
 obtain⟨B',hB',hp⟩:=O.B hV
 have:=O.un _ _ _ hB hB'
 subst this
 obtain⟨df,hfi⟩:=(S.F _ hB).fin
 refine⟨s,X.bd,ch,X.fi,df,kb,nm,c,p,B,_,rfl,hS,nc,co,hp,hfi,iL,fun H1 ce hce s1 c1=> ?_⟩
 exact⟨X,(nm,c,p),ce,kf,kl,mem,wo,cs,ns,rfl,O,S.same s1,fnA.keep (cS.of s1),c9,hV,c1,fun H' v kf' kl' mem' wo' cs' ns' L S' f' hv pd ve hc=>q H' v kf' kl' mem' wo' cs' ns' L S' ((dA.of s1).trans f') hv pd ve hc⟩
end
structure X1 where
 fi:Addr
 bd:Addr
 fd:Addr
 lk:Addr
 nm:Str
 B:BM
 m:Nat
 gv:Str->Option (List V)
 val:Str->Nat->PyData
 rl:Str->Option RD
 tree:Str->Nat->GT
 rk:Str->Nat->Nat
 rc:List Str
 num:Nat->Nat
 bnd:Nat
 ca:Option Addr
 fx:List Addr
 abn:Nat->Prop
 wa:Str->Nat->Option (List Int×V)
def X1.sx(Y:X1):SX where
 fi:=Y.fi
 bd:=Y.bd
 fd:=Y.fd
 lk:=Y.lk
 tabs:=[(Y.nm,Y.B)]
 Ks:=Y.B.ord.flatMap fun c=>(List.range Y.m).map fun p=>bF Y.nm c p
 gv:=fun t c=>if t=Y.nm then Y.gv c else none
 Vc:=fun x=>x.1=Y.nm/\x.2.1∈Y.B.ord/\x.2.2<Y.m
 val:=fun x=>Y.val x.2.1 x.2.2
 rl:=fun t c=>if t=Y.nm then Y.rl c else none
 tree:=fun x=>Y.tree x.2.1 x.2.2
 rk:=fun x=>Y.rk x.2.1 x.2.2
 Rs:=Y.rc.flatMap fun c=>(List.range Y.m).map fun p=>(Y.nm,c,p)
 num:=fun _ p=>Y.num p
 bnd:=Y.bnd
 ca:=Y.ca
 fx:=Y.fx
 abn:=fun _ j=>Y.abn j
 wa:=fun _ c j=>Y.wa c j
def X1.v(Y:X1):aU->PyData:=fun x=>Y.val x.2.1 x.2.2
structure X1Ok(Y:X1):Prop where
 lx:Y.B.xs.length=Y.m
 m30:Y.m<=30
 o8:Y.B.ord.length<=8
 cg:∀c∈Y.B.ord,(∃ys,Y.gv c=some ys/\ys.length=Y.m/\Nl c/\aE Y.B.rus (.inr c:aB)=none)\/ (Y.gv c=none/\∃R,Y.rl c=some R)
 rc:∀c R,Y.rl c=some R->c∈Y.rc
 rg:∀c∈Y.rc,Y.gv c=none
 rn:Y.rc.Nodup
 ru:∀c R,Y.rl c=some R->aE Y.B.rus (.inr c:aB)=some (.ref R.gr)/\aE Y.B.mes (.inr c:aB)=some (.ref R.mc)
 rf:∀c R,Y.rl c=some R->RF R.fs R.fa/\R.fs.lookup ("gather":Str)=none
 gg:∀c R,Y.rl c=some R->∀is,R.ok is->jI (R.g is)/\Vd (fC (R.g is))
 ft:∀c R,Y.rl c=some R->R.gr∈R.ft/\∀b∈R.ft,Y.ca≠some b
 mb:∀c R,Y.rl c=some R->R.mc≠Y.bd/\R.mc≠Y.B.e/\R.mc≠Y.B.ru/\R.mc≠Y.B.me
 md:∀c R c' R',Y.rl c=some R->Y.rl c'=some R'->R.mc=R'.mc->c=c'
 cc:Y.ca≠some Y.B.r/\Y.ca≠some Y.B.od
 cl:∀c ys l,Y.gv c=some ys->aE Y.B.kvs (.inr c:aB)=some (.ref l)->Y.ca≠some l
 fl:Y.fd≠Y.lk
 nu:∀p,p<Y.m->cI Y.B.xs (p:Int)=some (.int ((Y.num p:Nat):Int))/\Y.num p<Y.bnd
 ni:∀p p',p<Y.m->p'<Y.m->Y.num p=Y.num p'->p=p'
 b8:Y.bnd<=85
 ab:∀p j,p<Y.m->Y.abn j->Y.num p≠j
 cf:∀a,Y.ca=some a->a∈Y.fx
 sem:∀c R p,c∈Y.B.ord->p<Y.m->Y.rl c=some R->Y.val c p=tI R.g ((Y.tree c p).run Y.v)
 lks:∀c R p,c∈Y.B.ord->p<Y.m->Y.rl c=some R->∀y∈(Y.tree c p).looks Y.v,(y.1=Y.nm/\y.2.1∈Y.B.ord/\y.2.2<Y.m)/\(Y.gv y.2.1=none->Y.rk y.2.1 y.2.2<Y.rk c p)
 oks:∀c R p,c∈Y.B.ord->p<Y.m->Y.rl c=some R->∀is,(Y.tree c p).run Y.v= .inr is->R.ok is/\is.length<=100
theorem X1.gvn(Y:X1)(c:Str):Y.sx.gv Y.nm c=Y.gv c:=if_pos rfl
theorem X1.rln(Y:X1)(c:Str):Y.sx.rl Y.nm c=Y.rl c:=if_pos rfl
theorem X1.rl_some{Y:X1}{t:Str}{R:RD}(h:Y.sx.rl t c=some R):t=Y.nm/\Y.rl c=some R:=by
 have h:(if t=Y.nm then Y.rl c else none)=some R:=h
 split at h
 ·exact⟨by assumption,h⟩
 ·cases h
theorem X1.gv_some{Y:X1}{t:Str}(h:Y.sx.gv t c=some ys):t=Y.nm/\Y.gv c=some ys:=by
 have h:(if t=Y.nm then Y.gv c else none)=some ys:=h
 split at h
 ·exact⟨by assumption,h⟩
 ·cases h
theorem xO{α β:Type}{f:α->List β}{n:Nat}(hf:∀a,(f a).length=n):∀l:List α,(l.flatMap f).length=l.length* n
 | []=>by rw[List.flatMap_nil];simp
 |a::l=>by rw[List.flatMap_cons,List.length_append,hf,xO hf l,List.length_cons,Nat.succ_mul];omega
theorem mR{nm t:Str}{B B':BM}(h:(t,B')∈ [(nm,B)]):t=nm/\B'=B:=by
 rw[List.mem_singleton]at h
 exact⟨congrArg (·.1) h,congrArg (·.2) h⟩
theorem a2T{nm:Str}{m:Nat}:∀{l:List Str},l.Nodup->(l.flatMap fun c=>(List.range m).map fun p=>((nm,c,p):aU)).Nodup
 | [],_=>by rw[List.flatMap_nil];exact List.nodup_nil
 |c::l,h=>by
  rw[List.nodup_cons]at h
  rw[List.flatMap_cons,List.nodup_append]
  refine⟨?_,a2T h.2,fun a ha b hb e=> ?_⟩
  ·exact(List.nodup_range (n:=m)).map (f:=fun p=>((nm,c,p):aU)) (fun a b h e=>h (by have:=congrArg (fun x:aU=>x.2.2) e;exact this))
  ·obtain⟨p,_,rfl⟩:=List.mem_map.mp ha
   obtain⟨c',hc',hb⟩:=List.mem_flatMap.mp hb
   obtain⟨p',_,rfl⟩:=List.mem_map.mp hb
   have:c=c':=congrArg (fun x:aU=>x.2.1) e
   exact h.1 (this▸hc')
theorem a7g{Y:X1}(O:X1Ok Y):gU Y.sx where
 o:=⟨by
  show(Y.B.ord.flatMap fun c=>(List.range Y.m).map fun p=>bF Y.nm c p).length<=800
  rw[xO (n:=Y.m) (fun a=>by rw[List.length_map,List.length_range])]
  have h1:=O.m30
  have h2:=O.o8
  have:Y.B.ord.length* Y.m<=8* 30:=Nat.mul_le_mul h2 h1
  omega,fun x hx=>by
  obtain⟨t,c,p⟩:=x
  obtain⟨rfl,hc,hp⟩:=hx
  refine⟨List.mem_flatMap.mpr ⟨c,hc,List.mem_map.mpr ⟨p,List.mem_range.mpr hp,rfl⟩⟩,Y.B,List.mem_singleton.mpr rfl,by rw[O.lx];exact hp,?_⟩
  rcases O.cg c hc with⟨ys,h1,h2,h3,h4⟩|⟨h1,R,h2⟩
  ·exact .inl ⟨ys,by rw[X1.gvn];exact h1,by rw[O.lx];exact h2,h3,h4⟩
  ·exact .inr ⟨by rw[X1.gvn];exact h1,_,(O.ru c R h2).1⟩⟩
 un:=fun t B B' h h'=>by rw[(mR h).2,(mR h').2]
 rr:=fun x hx g=>by
  obtain⟨t,c,p⟩:=x
  obtain⟨rfl,hc,hp⟩:=hx
  rw[X1.gvn]at g
  rcases O.cg c hc with⟨ys,h1,_⟩|⟨h1,R,h2⟩
  ·rw[h1]at g;cases g
  ·exact⟨R,by rw[X1.rln];exact h2⟩
 ru:=fun t c R B h hB=>by
  obtain⟨rfl,h2⟩:=X1.rl_some h
  rw[(mR hB).2]
  exact O.ru c R h2
 no:=fun t c R h=>by
  obtain⟨rfl,h2⟩:=X1.rl_some h
  rw[X1.gvn]
  exact O.rg c (O.rc c R h2)
 rf:=fun t c R h=>O.rf c R (X1.rl_some h).2
 gg:=fun t c R h=>O.gg c R (X1.rl_some h).2
 ft:=fun t c R h=>O.ft c R (X1.rl_some h).2
 mb:=fun t c R h=>(O.mb c R (X1.rl_some h).2).1
 mm:=fun t c R h tb htb=>by
  rw[List.mem_singleton.mp htb]
  exact(O.mb c R (X1.rl_some h).2).2
 md:=fun t c R t' c' R' h h' e=>by
  obtain⟨rfl,h2⟩:=X1.rl_some h
  obtain⟨rfl,h3⟩:=X1.rl_some h'
  exact⟨rfl,O.md c R c' R' h2 h3 e⟩
 cc:=fun tb htb=>by rw[List.mem_singleton.mp htb];exact O.cc
 cl:=fun t c ys B l g h e=>by
  obtain⟨rfl,g2⟩:=X1.gv_some g
  rw[(mR h).2]at e
  exact O.cl c ys l g2 e
 fl:=O.fl
 nu:=fun t B p h hp=>by
  rw[(mR h).2]at hp|-
  exact O.nu p (by rw[<- O.lx];exact hp)
 ni:=fun t B p p' h hp hp' e=>by
  rw[(mR h).2]at hp hp'
  exact O.ni p p' (by rw[<- O.lx];exact hp) (by rw[<- O.lx];exact hp') e
 b8:=O.b8
 ab:=fun t B p j h hp hj=>by
  rw[(mR h).2]at hp
  exact O.ab p j (by rw[<- O.lx];exact hp) hj
 cf:=O.cf
 rs:=fun x hx g=>by
  obtain⟨t,c,p⟩:=x
  obtain⟨rfl,hc,hp⟩:=hx
  rw[X1.gvn]at g
  rcases O.cg c hc with⟨ys,h1,_⟩|⟨h1,R,h2⟩
  ·rw[h1]at g;cases g
  ·exact List.mem_flatMap.mpr ⟨c,O.rc c R h2,List.mem_map.mpr ⟨p,List.mem_range.mpr hp,rfl⟩⟩
 rs':=fun x hx=>by
  obtain⟨c,hc,hx⟩:=List.mem_flatMap.mp hx
  obtain⟨p,_,rfl⟩:=List.mem_map.mp hx
  rw[X1.gvn]
  exact O.rg c hc
 rn:=a2T O.rn
 sem:=fun x R hx h=>by
  obtain⟨t,c,p⟩:=x
  obtain⟨rfl,hc,hp⟩:=hx
  rw[X1.rln]at h
  exact O.sem c R p hc hp h
 lks:=fun x R hx h y hy=>by
  obtain⟨t,c,p⟩:=x
  obtain⟨rfl,hc,hp⟩:=hx
  rw[X1.rln]at h
  obtain⟨h1,h2⟩:=O.lks c R p hc hp h y hy
  refine⟨h1,fun g=>h2 ?_⟩
  rw[h1.1,X1.gvn]at g
  exact g
 oks:=fun x R hx h=>by
  obtain⟨t,c,p⟩:=x
  obtain⟨rfl,hc,hp⟩:=hx
  rw[X1.rln]at h
  exact O.oks c R p hc hp h
section
theorem SB.new{X X':SX}{mem:Str->Str->List (aB×V)}(S:SB P w K mg base RG CF CB CT zt X kf kl mem wo cs ns H)(D:List Addr)(kD:∀b∈D,(∃C dx fs,H b=some (.ins C dx fs))\/ ∃ys,H b=some (.lst ys)/\b∈X.fx)(u:∀b o,b∉D->H b=some o->H' b=some o)
 (e1:X'.rl=X.rl)(e2:X'.fx=X.fx)(e3:X'.ca=X.ca)(e4:X.bnd<=X'.bnd)(dft:∀t c R,X.rl t c=some R->∀b∈R.ft,b∉D)(dgr:∀t c R,X.rl t c=some R->R.gr∈R.ft)(dca:∀a,X.ca=some a->a∉D)(dD:∀b∈D,H' b≠none)
 (F':∀tb∈X'.tabs,dL CF CB CT H' X'.fi X'.bd X'.fd X'.lk tb.1 tb.2 [])(fd':H' X'.fd=some (.dT []))(lk':H' X'.lk=some (.dT []))
 (cols':∀t c ys B,X'.gv t c=some ys->(t,B)∈X'.tabs->∃l,aE B.kvs (.inr c:aB)=some (.ref l)/\H' l=some (.lst ys))(cd':∀t c ys (p:Nat) v,X'.gv t c=some ys->cI ys (p:Int)=some v->Pd K H' v (X'.val (t,c,p)))
 (ra':∀t c R,X.rl t c=some R->∀p,X'.Vc (t,c,p)->lU P w K mg base R.spg R.gr R.ft X'.tabs X'.Vc t c p (X'.tree (t,c,p)) H')
 (hw:∀x R,X'.Vc x->X.rl x.1 x.2.1=some R->(∃y,X.Vc y/\y.1=x.1/\y.2.1=x.2.1/\X'.num x.1 x.2.2=X.num y.1 y.2.2/\wo' x=wo y)\/ (∃j,X.abn x.1 j/\X'.num x.1 x.2.2=j/\wo' x=X.wa x.1 x.2.1 j)\/ (X.bnd<=X'.num x.1 x.2.2/\wo' x=none))
 (ha:∀t c R j,X.rl t c=some R->X'.abn t j->(X.abn t j/\X'.wa t c j=X.wa t c j)\/ ∃y,X.Vc y/\y.1=t/\y.2.1=c/\X.num y.1 y.2.2=j/\X'.wa t c j=wo y):SB P w K mg base RG CF CB CT zt X' [] [] mem wo' cs ns H':=by
 have n1:∀{b:Addr} {o:HO},H b=some o->(∀C dx fs,o≠ .ins C dx fs)->(∀y,o≠ .lst y)->H' b=some o:=fun{b o} e a1 a2=>u b o (fun hm=>by
  rcases kD b hm with⟨C,dx,fs,h⟩|⟨ys,h,_⟩<;>rw[h]at e
  ·exact a1 _ _ _ (Option.some.inj e).symm
  ·exact a2 _ (Option.some.inj e).symm) e
 have kt:eD H H':=fun b o hb e=>n1 e (fun C dx fs y=>by obtain⟨xs,rfl|⟨q,rfl⟩⟩:=hb<;>cases y) (fun y z=>by obtain⟨xs,rfl|⟨q,rfl⟩⟩:=hb<;>cases z)
 have klf:∀b ys,b∉X.fx->H b=some (.lst ys)->H' b=some (.lst ys):=fun b ys n e=>u b _ (fun hm=>by
  rcases kD b hm with⟨C,dx,fs,h⟩|⟨ys',h,hx⟩
  ·rw[h]at e;cases e
  ·exact n hx) e
 refine⟨F',fd',dX.nil,fun t c p v ys _ e=>(by cases e),fun x v _ _ e=>(by cases e),fun x v _ _ e=>(by cases e),fun x _ _ _=>rfl,fun x v _ _ e=>(by cases e),lk',dX.nil,cols',cd',fun t c R hR=> ?_,fun t c R hR=> ?_,fun t c R hR b hb=> ?_,fun t c R hR=>ra' t c R (e1▸hR),fun x R hx hR=> ?_,fun t c R j hR hj=> ?_,?_,fun h=> ?_,fun b hb y=> ?_,?_⟩
 ·rw[e1]at hR
  obtain⟨⟨dx,e⟩,h1⟩:=S.rg t c R hR
  exact⟨⟨dx,u _ _ (dft t c R hR _ (dgr t c R hR)) e⟩,h1⟩
 ·rw[e1]at hR
  obtain⟨h1,h2⟩:=S.rm t c R hR
  exact⟨n1 h1 (fun _ _ _ y=>by cases y) nk,h2.1,fun k hk=>let ⟨j,a,b⟩:=h2.2 k hk;⟨j,a,by omega⟩⟩
 ·rw[e1]at hR
  obtain⟨o,e,h⟩:=S.rt t c R hR b hb
  exact⟨o,u _ _ (dft t c R hR b hb) e,h⟩
 ·rw[e1]at hR
  rw[e2]
  rcases hw x R hx hR with⟨y,a1,a2,a3,a4,a5⟩|⟨j,a1,a2,a3⟩|⟨a1,a2⟩
  ·rw[a5,a4,<- a2,<- a3]
   rw[<- a2,<- a3]at hR
   exact⟨(S.me y R a1 hR).1.mv rfl kt.t klf,fun is v e=>((S.me y R a1 hR).2 is v e).keep kt⟩
  ·rw[a3,a2]
   exact⟨(S.ab x.1 x.2.1 R j hR a1).1.mv rfl kt.t klf,fun is v e=>((S.ab x.1 x.2.1 R j hR a1).2 is v e).keep kt⟩
  ·rw[a2]
   refine⟨?_,fun is v e=>(by cases e)⟩
   show aE (mem x.1 x.2.1) _=none
   cases ev:aE (mem x.1 x.2.1) (.inl ((X'.num x.1 x.2.2:Nat):Int):aB)with
   |none=>rfl
   |some v=>
    obtain⟨j,h1,h2⟩:=(S.rm x.1 x.2.1 R hR).2.2 _ (List.mem_map.mpr ⟨_,a1C ev,rfl⟩)
    have:=Sum.inl.inj h1
    omega
 ·rw[e1]at hR
  rw[e2]
  rcases ha t c R j hR hj with⟨a1,a2⟩|⟨y,a1,a2,a3,a4,a5⟩
  ·rw[a2]
   exact⟨(S.ab t c R j hR a1).1.mv rfl kt.t klf,fun is v e=>((S.ab t c R j hR a1).2 is v e).keep kt⟩
  ·rw[a5,<- a4]
   subst a2 a3
   exact⟨(S.me y R a1 hR).1.mv rfl kt.t klf,fun is v e=>((S.me y R a1 hR).2 is v e).keep kt⟩
 ·rw[e3]
  exact⟨S.ca.1,fun a e=>u _ _ (dca a e) (S.ca.2 a e)⟩
 ·rw[e3]at h
  rw[e2]
  exact Paired.imp (fun a b h=>h.mv kt.t klf) (S.nt h)
 ·rw[e2]at hb
  by_cases hm:b∈D
  ·exact dD b hm y
  ·cases e:H b with
   |none=>exact S.fx b hb e
   |some o=>rw[u b o hm e]at y;cases y
 ·obtain⟨Sz,t1,t2⟩:=S.tb
  exact⟨Sz,n1 t1 (fun _ _ _ y=>by cases y) nk,fun c hc=>let ⟨o,o1,o2⟩:=t2 c hc;⟨o,n1 o1 (fun _ _ _ y=>by cases y) nk,o2⟩⟩
end
theorem a0Y{α:Type}{r:α->α->Prop}(anti:∀a b,r a b->r b a->a=b):∀{l l':List α},l.Perm l'->l.Pairwise r->l'.Pairwise r->l=l'
 | [],l',h,_,_=>(List.nil_perm.mp h).symm▸rfl
 |a::l,[],h,_,_=>by have:=h.length_eq;cases this
 |a::l,b::l',h,p,p'=>by
  rw[List.pairwise_cons]at p p'
  have e:a=b:=by
   have h1:a∈b::l':=h.mem_iff.mp aa
   have h2:b∈a::l:=h.mem_iff.mpr aa
   rcases List.mem_cons.mp h1 with e|h1
   ·exact e
   ·rcases List.mem_cons.mp h2 with e|h2
    ·exact e.symm
    ·exact anti a b (p.1 b h2) (p'.1 a h1)
  subst e
  rw[a0Y anti (List.perm_cons a|>.mp h) p.2 p'.2]
theorem a7c{α:Type}(l:List α)(d:α):(List.range l.length).map (fun i=>l.getD i d)=l:=by
 apply List.ext_getElem?
 intro i
 rw[List.getElem?_map]
 by_cases h:i<l.length
 ·rw[List.getElem?_range h,Option.map_some,List.getD_eq_getElem?_getD,List.getElem?_eq_getElem h]
  rfl
 ·rw[List.getElem?_eq_none (by rw[List.length_range];omega),List.getElem?_eq_none (by omega)]
  rfl
theorem a3V{α:Type}(l:List α)(d:α){p:Array Nat}(h:p.Perm (List.toArray (List.range l.length))):(p.toList.map fun i=>l.getD i d).Perm l:=by
 have h2:p.toList.Perm (List.range l.length):=by simpa using h.toList
 have:=h2.map fun i=>l.getD i d
 rw[a7c]at this
 exact this
theorem a3C{α:Type}{R:V->α->Prop}(d:α):∀{ys:List V} {xs:List α} {i:Nat},Paired R ys xs->i<ys.length->R (ys.getD i .non) (xs.getD i d)
 |_,_,_,.nil,h=>by cases h
 |_,_,0,.cons h _,_=>h
 |_,_,i+ 1,.cons _ t,h=>a3C d (i:=i) t (Nat.lt_of_succ_lt_succ h)
theorem a3y{α:Type}{R:V->α->Prop}(d:α){ys:List V}{xs:List α}(h:Paired R ys xs):∀{is:List Nat},(∀i∈is,i<ys.length)->Paired R (is.map fun i=>ys.getD i .non) (is.map fun i=>xs.getD i d)
 | [],_=> .nil
 |i::is,hi=> .cons (a3C d h (hi i aa)) (a3y d h fun j hj=>hi j (List.mem_cons_of_mem _ hj))
theorem a5m{lt:Nat->Nat->Bool}{p:Array Nat}{n:Nat}(hs:p.size=n)(h:Sd lt p n):p.toList.Pairwise fun i j=>lt j i=false:=by
 rw[List.pairwise_iff_getElem]
 intro i j hi hj hij
 rw[Array.length_toList]at hi hj
 have:=(h i j hij (by omega)).1
 rw[Array.getD_eq_getD_getElem?,Array.getD_eq_getD_getElem?,Array.getElem?_eq_getElem hi,Array.getElem?_eq_getElem hj]at this
 simpa using this
theorem a8J{α β:Type}{f:α->β}{r:β->β->Prop}{l:List α}(h:l.Pairwise fun a b=>r (f a) (f b)):(l.map f).Pairwise r:=List.pairwise_map.mpr h
theorem a09:∀nss:List (List Int),PyData.canLayAll0 (nss.map fun ns=>PyData.list (ns.map .int))=true
 | []=>rfl
 |ns::r=>by
  rw[List.map_cons,PyData.canLayAll0,a09 r,Bool.and_true]
  exact(uJ ns).1
theorem a0V:∀ns:List Int,PyData.depthAll (ns.map PyData.int)=0
 | []=>rfl
 |i::r=>by
  rw[List.map_cons]
  show max 0 (PyData.depthAll (r.map PyData.int))=0
  rw[a0V r]
  rfl
theorem a16{α β:Type} [DecidableEq α]{f:α->Option β}:∀{L R:List α},L.Nodup->R.Nodup->(∀y∈L,y∈R)->(∀y∈R,f y≠none->y∈L)->(L.filterMap f).Perm (R.filterMap f)
 | [],R,_,_,_,h=>by
  have:R.filterMap f= []:=by
   rw[List.filterMap_eq_nil_iff]
   intro y hy
   cases e:f y with
   |none=>rfl
   |some b=>exact absurd (h y hy (by rw[e];exact fun z=>by cases z)) (by simp)
  rw[this]
  exact List.Perm.refl _
 |a::L,R,hL,hR,h1,h2=>by
  rw[List.nodup_cons]at hL
  have ha:=h1 a aa
  have hp:R.Perm (a::R.erase a):=List.perm_cons_erase ha
  have hR':(a::R.erase a).Nodup:=hp.nodup_iff.mp hR
  rw[List.nodup_cons]at hR'
  have ih:=a16 (f:=f) (L:=L) (R:=R.erase a) hL.2 hR'.2 (fun y hy=>by
   have:=hp.mem_iff.mp (h1 y (List.mem_cons_of_mem _ hy))
   rcases List.mem_cons.mp this with e|e
   ·exact absurd (e▸hy) hL.1
   ·exact e) (fun y hy n=>by
   have:=h2 y (hp.mem_iff.mpr (List.mem_cons_of_mem _ hy)) n
   rcases List.mem_cons.mp this with e|e
   ·exact absurd (e▸hy) hR'.1
   ·exact e)
  refine List.Perm.trans ?_ (hp.filterMap f).symm
  rw[List.filterMap_cons,List.filterMap_cons]
  cases f a with
  |none=>exact ih
  |some b=>exact ih.cons b
theorem rY(i:Int)(h1: -1000000<=i)(h2:i<=1000000):jE (.int i)=true:=by
 have e3:(1000000:Int)<10^ (60:Int).toNat:=by decide+kernel
 show decide ((if i<0 then-i else i)<10^ (60:Int).toNat)=true
 rw[decide_eq_true_eq]
 split<;>omega
section
inductive oB(K:Fg)(vs:List V)(H:Hp)(Q:VK)(E':XK):Prop
 |mk (a:Addr) (ns:List Int) (k:Int):(vs= [.ref a,.int k])->(aN K H a (ns.map V.int))->(ns.length<=63)->(0<=k)->(k<=1000000)->(∀m:Int,0<=m->m<2147483629->Q (.int m) H)->oB K vs H Q E'
theorem vH:bA ["_law_script","_law_k","_law_cell"] ["_law_script","_law_k"] (aO vE):={}
theorem a04(T:bC K mg):bH P w K mg base aF 1 "_law_mixed" ["_law_script","_law_k"] (oB K):=by
 refine T.d_law_mixed.known vH (fun _ _ _ _ _ _ us hl=>dZ (fun _ _=>rfl) us hl) (fun vs H Q E h=> ?_) (fun f cdv A outer s H vs Q E hr h=> ?_)
 ·obtain⟨a,ns,k,rfl,_⟩:=h
  rfl
 ·obtain⟨a,ns,k,rfl,hS,hl,h0,h6,q⟩:=h
  have cJ:∃t,dU (dM aF P w K mg base ["_law_script","_law_k","_law_cell"] "_law_mixed" (aO vE) f cdv A outer s H E).nox ((eC vE).drop 2) t/\∀c:Int,t {nx:=fun _ H'=>Q .non H',rt:=Q} [some (.ref a),some (.int k),some (.int c)] H:=by
   refine⟨_,(aK (cH (i:=2) vH.nd rfl (Or.inl rfl) (cG gG (cG nE (cG gZ (cG gZ (cG gG (pv 2) bD) (cG nE bD (pv 1))) bD) bD) bD))
    (aL (bN (cG gG (cG nE (pv 2) (cG gZ (cG gZ (cG gG (pv 2) bD) (pv 1)) bD)) bD)))),fun c=> ?_⟩
   refine⟨_,rfl,_,_,rfl,rfl,(show(0:Int)<2147483629 by decide),_,rfl,_,_,rfl,rfl,.inl ⟨by decide,by decide⟩,_,_,rfl,rfl,_,_,rfl,rfl,_,_,rfl,rfl,.inr ⟨by decide,by decide⟩,_,_,rfl,rfl,(show(0:Int)<2147483647 by decide),?_⟩
   have e1:=Int.emod_nonneg ((c% 2147483629+ 6151* k+ 1)* 48271) (show(2147483647:Int)≠0 by decide)
   have e2:=Int.emod_lt_of_pos ((c% 2147483629+ 6151* k+ 1)* 48271) (show(0:Int)<2147483647 by decide)
   refine⟨_,rfl,_,rfl,_,_,rfl,rfl,(show(0:Int)<65519 by decide),_,rfl,_,_,rfl,rfl,_,_,rfl,rfl,_,_,rfl,rfl,.inl ⟨by omega,by omega⟩,_,_,rfl,rfl,(show(0:Int)<2147483629 by decide),?_⟩
   exact q _ (Int.emod_nonneg _ (by decide)) (Int.emod_lt_of_pos _ (by decide))
  obtain⟨t,ht,hq⟩:=cJ
  refine⟨_,(aK (cH (i:=2) vH.nd rfl (Or.inl rfl) bD)
   (aK (bL (cN a0B (dQ jJ rfl T.len iE (aA (pv 0) aI)) bD (cX _)) (aL (cH (i:=2) vH.nd rfl (Or.inl rfl) (cM iD (pv 0) (cG gG (pv 1) (dQ jJ rfl T.len iE (aA (pv 0) aI))) (fun _ _=>rfl)))) bO) ht)),?_⟩
  have el:((ns.map V.int).length:Int)=(ns.length:Int):=by rw[List.length_map]
  refine⟨_,rfl,_,_,rfl,.inl ⟨_,hS,rfl⟩,_,_,rfl,rfl,_,rfl,?_⟩
  rw[el]
  refine cW (fun h2=> ?_) (fun h2=> ?_)
  ·have h2':0<(ns.length:Int):=by simpa using h2
   have hm:=Int.emod_nonneg k (Int.ne_of_gt h2')
   have hm':=Int.emod_lt_of_pos k h2'
   exact⟨_,rfl,_,rfl,_,rfl,_,_,rfl,.inl ⟨_,hS,rfl⟩,_,_,rfl,rfl,by rw[el];exact h2',a,_,_,_,rfl,rfl,hS,by rw[el];exact a5T ns _ hm hm',hq _⟩
  ·exact hq _
end
theorem iZ:Nl ("small":Str)/\Nl ("t":Str):=by unfold Nl;decide+kernel
def uP:PyData:=.tuple [.str "fault",.str "small"]
def jL(w:Int)(n:Int):PyData:=if w=0 then .int (n/ 2) else if w=1 then .int (n% 2) else if w=2 then .int (n% 3) else if w=3 then .int (n+ 1) else if n<2 then uP else .int n
section
inductive uY(K:Fg)(vs:List V)(H:Hp)(Q:VK)(E':XK):Prop
 |mk (w n:Int):(vs= [.int w,.int n])->(0<=n)->(n<=100)->(∀H' v,aH H H'->Pv K H' v (jL w n)->Q v H')->uY K vs H Q E'
theorem a6O:bA ["_law_way","_law_one"] ["_law_way","_law_one"] (aO a2B):={}
theorem a0U(T:bC K mg):bH P w K mg base aF 1 "_law_answer" ["_law_way","_law_one"] (uY K):=by
 refine T.d_law_answer.known a6O (fun _ _ _ _ _ _ us hl=>dZ (fun _ _=>rfl) us hl) (fun vs H Q E h=> ?_) (fun f cdv A outer s H vs Q E hr h=> ?_)
 ·obtain⟨w,n,rfl,_⟩:=h
  rfl
 ·obtain⟨w,n,rfl,n0,n1,q⟩:=h
  refine⟨_,(aK (bL (cN mO (pv 0) bD (cX _)) (aL (bN (cG a5U (pv 1) bD))) bO)
   (aK (bL (cN mO (pv 0) bD (cX _)) (aL (bN (cG gG (pv 1) bD))) bO)
   (aK (bL (cN mO (pv 0) bD (cX _)) (aL (bN (cG gG (pv 1) bD))) bO)
   (aK (bL (cN mO (pv 0) bD (cX _)) (aL (bN (cG gZ (pv 1) bD))) bO)
   (aK (bL (cN a0m (pv 1) bD (cX _)) (aL (bN (fV (aA fX (aA fX aI))))) bO)
   (aL (bN (pv 1)))))))),?_⟩
  have num:∀i:Int,0<=i->i<=101->Pv K H (.int i) (.int i):=fun i a b=> .inl ⟨i,rfl,rfl,rY _ (by omega) (by omega)⟩
  unfold jL at q
  refine⟨_,rfl,rfl,_,rfl,cW (fun h0=> ?_) (fun h0=> ?_)⟩
  ·have h0:w=0:=by simpa using h0
   rw[if_pos h0]at q
   exact⟨_,rfl,_,_,rfl,rfl,⟨by decide,by decide⟩,q H _ (aH.refl H) (num _ (by omega) (by omega))⟩
  have h0:¬w=0:=by simpa using h0
  rw[if_neg h0]at q
  refine⟨_,rfl,rfl,_,rfl,cW (fun h1=> ?_) (fun h1=> ?_)⟩
  ·have h1:w=1:=by simpa using h1
   rw[if_pos h1]at q
   exact⟨_,rfl,_,_,rfl,rfl,(show(0:Int)<2 by decide),q H _ (aH.refl H) (num _ (by omega) (by omega))⟩
  have h1:¬w=1:=by simpa using h1
  rw[if_neg h1]at q
  refine⟨_,rfl,rfl,_,rfl,cW (fun h2=> ?_) (fun h2=> ?_)⟩
  ·have h2:w=2:=by simpa using h2
   rw[if_pos h2]at q
   exact⟨_,rfl,_,_,rfl,rfl,(show(0:Int)<3 by decide),q H _ (aH.refl H) (num _ (by omega) (by omega))⟩
  have h2:¬w=2:=by simpa using h2
  rw[if_neg h2]at q
  refine⟨_,rfl,rfl,_,rfl,cW (fun h3=> ?_) (fun h3=> ?_)⟩
  ·have h3:w=3:=by simpa using h3
   rw[if_pos h3]at q
   exact⟨_,rfl,_,_,rfl,rfl,q H _ (aH.refl H) (num _ (by omega) (by omega))⟩
  have h3:¬w=3:=by simpa using h3
  rw[if_neg h3]at q
  refine⟨_,rfl,_,_,rfl,rfl,_,rfl,cW (fun h4=> ?_) (fun h4=> ?_)⟩
  ·have h4:n<2:=by simpa using h4
   rw[if_pos h4]at q
   exact⟨sl,fun tp htp=>q _ _ (aH.new htp) (.inr ⟨tp,"small",rfl,aJ,rfl,iZ.1⟩)⟩
  have h4:¬n<2:=by simpa using h4
  rw[if_neg h4]at q
  exact⟨_,rfl,q H _ (aH.refl H) (num _ (by omega) (by omega))⟩
abbrev lQ:List Int->Prop:=fun is=>∃n,is= [n] /\0<=n/\n<=100
def lK(w:Int)(is:List Int):PyData:=jL w (is.headD 0)
inductive xV(K:Fg)(vs:List V)(H:Hp)(Q:VK)(E':XK):Prop
 |mk (ca l:Addr) (at_ w:Int) (is:List Int) (cs:List V):(vs= [.ref ca,.int at_,.int w,.ref l])->(H l=some (.lst (is.map V.int)))->(H ca=some (.lst cs))->(cs.length<900)->(lQ is)->(ca≠l)->(∀H' v tp lc,aY ca H H'->H lc=none->H' ca=some (.lst (cs++ [.ref tp]))->H' tp=some (.tup [.int at_,.ref lc])->H' lc=some (.lst (is.map V.int))->Dt K H' v (lK w is)->Q v H')->xV K vs H Q E'
theorem a7e:bA ["_law_calls","_law_at","_law_way","_law_some"] ["_law_calls","_law_at","_law_way","_law_some"] (aO a0q):={}
theorem a7d(T:bC K mg):bH P w K mg base aF 2 "_law_noted" ["_law_calls","_law_at","_law_way","_law_some"] (xV K):=by
 have G_ans:bH P w K mg base aF 1 "_law_answer" ["_law_way","_law_one"] (uY K):=a0U T
 refine T.d_law_noted.known a7e (fun _ _ _ _ _ _ us hl=>jG (fun _ _ _ _=>rfl) us hl) (fun vs H Q E h=> ?_) (fun f cdv A outer s H vs Q E hr h=> ?_)
 ·obtain⟨ca,l,at_,w,is,cs,rfl,_⟩:=h
  rfl
 ·obtain⟨ca,l,at_,w,is,cs,rfl,hl,hca,c9,⟨n,rfl,n0,n1⟩,ne,q⟩:=h
  refine⟨_,(aK (cA (kL F.plainAttrs_list F.slot_list_append F.type_list_append jC (pv 0) (aA (fV (aA (pv 1) (aA (mV rH rfl T.list jR (aA (pv 3) aI)) aI))) aI)))
   (aL (bN (bV G_ans hr.mn aS (aA (pv 2) (aA (cM iD (pv 3) bD (fun _ _=>rfl)) aI)))))),?_⟩
  refine⟨_,rfl,.inl ⟨rfl,_,aN.of hca⟩,_,rfl,_,rfl,l,_,rfl,.inl (aN.of hl),fun lc hlc=> ?_⟩
  have s1:=aH.new (o:=.lst ([n].map V.int)) hlc
  have l1:upd H lc (.lst ([n].map V.int)) lc=some (.lst ([n].map V.int)):=aJ
  generalize upd H lc (.lst ([n].map V.int))=H1 at s1 l1|-
  refine⟨sl,fun tp htp=> ?_⟩
  have s2:=aH.new (o:=.tup [.int at_,.ref lc]) htp
  have t2:upd H1 tp (.tup [.int at_,.ref lc]) tp=some (.tup [.int at_,.ref lc]):=aJ
  generalize upd H1 tp (.tup [.int at_,.ref lc])=H2 at s2 t2|-
  refine⟨ca,_,_,rfl,rfl,s2 _ _ (s1 _ _ hca),cY (by omega),?_⟩
  have u3:aY ca H2 (upd H2 ca (.lst (cs++ [.ref tp]))):=aY.upd
  have c3:upd H2 ca (.lst (cs++ [.ref tp])) ca=some (.lst (cs++ [.ref tp])):=aJ
  generalize upd H2 ca (.lst (cs++ [.ref tp]))=H3 at u3 c3|-
  have b3:aY ca H H3:=(aY.of (s1.trans s2)).trans u3
  have nlc:lc≠ca:=fun y=>by rw[y,hca]at hlc;cases hlc
  have ntp:tp≠ca:=fun y=>by rw[y,s1 _ _ hca]at htp;cases htp
  refine⟨_,rfl,_,rfl,l,_,_,_,rfl,rfl,aN.of (b3 _ _ ne.symm hl),rfl,w,n,rfl,n0,n1,fun H4 v s4 hv=> ?_⟩
  exact q H4 v tp lc (b3.trans (aY.of s4)) hlc (s4 _ _ c3) (s4 _ _ (u3 _ _ ntp t2)) (s4 _ _ (u3 _ _ nlc (s2 _ _ l1))) hv.dt
def a1g(K:Fg)(ca:Addr)(mk:V)(g:List Int->PyData)(ok:List Int->Prop):List V->Hp->VK->Prop:=fun vs H Q=>∃(l:Addr) (is:List Int) (cs:List V),vs= [.ref l] /\H l=some (.lst (is.map V.int))/\H ca=some (.lst cs)/\cs.length<900/\ok is/\ca≠l/\
 ∀H' v tp lc,aY ca H H'->H lc=none->H' ca=some (.lst (cs++ [.ref tp]))->H' tp=some (.tup [mk,.ref lc])->H' lc=some (.lst (is.map V.int))->Dt K H' v (g is)->Q v H'
theorem a4n{ca:Addr}{mk:V}{k:Nat}{g:List Int->PyData}{ok:List Int->Prop}{fl:dY}{HB:Hp}(hk:k<=4)(free:∀b o,fl b=some o->HB b=none)(la:fS q params body scope clos HB fa)(F:eI P w K mg base k fa (nA fa fl q params body scope clos 1 (a1g K ca mk g ok))):iS P w K mg base 4 (cU fl HB) fa (some ca) (some mk) g ok:=by
 refine⟨fun H=>fS q params body scope clos H fa/\∀b o,fl b=some o->H b=some (Fz o),(F.mono hk).imp fun vs H Q E h=> ?_,⟨?_,fun b o e=>kU e⟩,fun H H' kz h=>⟨oX kz h.1,fun b o e=>kz _ _ (h.2 b o e)⟩⟩
 ·obtain⟨l,is,cs,rfl,⟨h1,h2⟩,hl,hca,c9,i0,i1,ncl,qq⟩:=h
  have hca:=hca.2 ca rfl
  have nf:∀{b:Addr} {o:HO},H b=some o->(∀u,o≠Fz u)->fl b=none:=fun{b o} e n=>by
   cases e2:fl b with
   |none=>rfl
   |some ob=>rw[h2 b ob e2]at e;exact absurd (Option.some.inj e).symm (n ob)
  have fc:=nf hca nk
  have fl':=nf hl nk
  refine⟨rfl,h1,h2,l,is,cs,rfl,by rw[dG fl'];exact hl,by rw[dG fc];exact hca,c9,i0,fun y=>ncl (by rw[y]),fun H' v tp lc b hlc hc' ht' hl' hd fr=> ?_⟩
  have flc:fl lc=none:=by
   cases e2:fl lc with
   |none=>rfl
   |some ob=>rw[fr lc ob e2]at hl';cases hl'
  have sL:aH H' (cU fl H'):=fun x o e=>by
   cases e2:fl x with
   |none=>rw[cZ e2];exact e
   |some ob=>rw[fr x ob e2]at e;cases e
  refine qq (cU fl H') v [.ref tp] (fun x o n e=> ?_) ⟨fun e=>(by cases e),fun x e=> ?_⟩ ⟨fun e=>(by cases e),fun x e=>⟨.ref tp,lc,rfl,by rw[dG flc]at hlc;exact hlc,sL _ _ hl',fun e=>(by cases e),fun m e=>⟨tp,rfl,by cases e;exact sL _ _ ht'⟩⟩⟩ (hd.same sL)
  ·cases e2:fl x with
   |none=>rw[cZ e2];exact b _ _ (fun y=>n (by rw[y])) (by rw[dG e2];exact e)
   |some ob=>rw[h2 x ob e2]at e;rw[kU e2];exact e
  ·cases e
   exact sL _ _ hc'
 ·refine oX (fun b u e=> ?_) la
  cases e2:fl b with
  |none=>rw[cZ e2];exact e
  |some ob=>rw[free b ob e2]at e;cases e
end
theorem a62{P:Addr}{g:dY}(s:nY P H H')(L:jD X σ H' g):nY P H (cU g H'):=fun b o n e=>by
 have e':=s b o n e
 cases e2:g b with
 |none=>rw[cZ e2];exact e'
 |some ob=>rw[L.free b ob e2]at e';cases e'
theorem a4P{g:dY}(L:jD X σ H g):aH H (cU g H):=fun b o e=>by
 cases e2:g b with
 |none=>rw[cZ e2];exact e
 |some ob=>rw[L.free b ob e2]at e;cases e
section
abbrev tT:Str:=("_law_function":Str)++ ".<locals>." ++ "<lambda>"
abbrev lS:List Str:=["_law_calls","_law_at","_law_way"]
inductive zM(P:Program)(w:World)(K:Fg)(mg:Str->Option Value)(base:Heap)(zt:Addr)(vs:List V)(H:Hp)(Q:VK)(E':XK):Prop
 |mk (ca:Addr) (at_ way:Int):(vs= [.ref ca,.int at_,.int way])->(fM tT H zt)->(∀H' fa,nY zt H H'->fM tT H' zt->iS P w K mg base 4 H' fa (some ca) (some (.int at_)) (lK way) lQ->Q (.ref fa) H')->zM P w K mg base zt vs H Q E'
theorem a7j:bA lS lS (aO kK):={}
theorem a5u(T:bC K mg){z:Addr×Addr}(B:mY K mg "_law_function" kK z)(M:jA mg base z.1 z.2):bH P w K mg base aF 1 "_law_function" lS (zM P w K mg base z.2):=by
 have G_noted:bH P w K mg base aF 2 "_law_noted" ["_law_calls","_law_at","_law_way","_law_some"] (xV K):=a7d T
 refine B.knownR a7j (fun _ _ _ _ _ _ us hl=>gM (fun _ _ _=>rfl) us hl) (fun vs H Q E h=> ?_) (fun f A outer s H vs Q E hr h=> ?_)
 ·obtain⟨ca,at_,way,rfl,_⟩:=h
  rfl
 ·obtain⟨ca,at_,way,rfl,hT,q⟩:=h
  have hcl:∀x,(dM aF P w K mg base lS "_law_function" (aO kK) f (.ref z.1) A outer s H E).nox.env.scope.names.lookup x=some .cell->∃c,(dM aF P w K mg base lS "_law_function" (aO kK) f (.ref z.1) A outer s H E).nox.env.cells.lookup x=some c:=fun x hx=>Option.isSome_iff_exists.mp (W.cellsFrom_some _ _ _ (.inl hx))
  refine⟨_,a8o (a57 (xU M rfl (mC (sc:=aO kK) (N:=lS) (cp:=[(0,"_law_calls"),(1,"_law_at"),(2,"_law_way")]) hcl).clos rfl)),?_⟩
  refine⟨hT,fun fa H1 hfa s1 tb1 la=>fun g L=> ?_⟩
  refine q _ fa (a62 s1 L) (qA (a4P L) tb1) ?_
  refine a4n (k:=3) (by decide) L.free la ?_
  refine yK (sc:=aO kK) (N:=lS) (ps:=["_law_some"]) (cp:=[(0,"_law_calls"),(1,"_law_at"),(2,"_law_way")]) (cv:=[.ref ca,.int at_,.int way]) (k:=2) (spB:=a1g K ca (.int at_) (lK way) lQ) la L hcl rfl (fun _ _ _ _ us hl=>fK (fun _=>rfl) us hl) (fun cd A' outer' s' H' vs Q' hr' h'=> ?_)
  obtain⟨l,is,cs,rfl,hl,hca',c9',ok',ncl,q'⟩:=h'
  exact⟨_,bV G_noted hr' aS (aA (pv 1) (aA (pv 2) (aA (pv 3) (aA (pv 0) aI)))),_,rfl,_,rfl,_,rfl,_,rfl,ca,l,at_,way,is,cs,rfl,hl,hca',c9',ok',ncl,q'⟩
end
theorem Vd.kd(h:Vd d):decide (gI d= .tup)=My.isT d:=by
 rcases h with⟨i,rfl,_⟩|⟨y,rfl,_⟩<;>rfl
theorem a5N{c A B:Prop} [Decidable c](h2:¬c->B)(h1:c->A):if c then A else B:=cW h1 h2
def wO:Option Int->V
 |none=> .non
 |some n=> .int n
noncomputable def tN:Option Int->PyData
 |none=> .none
 |some n=> .int n
theorem a7z(w:Option Int)(n:Int):(!PyData.eqv (tN w) (.int n))=decide (w≠some n):=by
 cases w with
 |none=>simp[tN,PyData.eqv]
 |some m=>by_cases h:m=n<;>simp[tN,PyData.eqv,h]
def iV(m:Nat)(ls:List V)(wl:Nat->Option Int):Prop:=ls.length=m/\∀p,p<m->ls[p]?=some (wO (wl p))
def oM(w:Int):PyData->PyData
 | .int n=>jL w n
 |d=>d
def bK(ws:List Int)(d:PyData):Nat->PyData
 |0=>d
 |k+ 1=>oM (ws.getD k 0) (bK ws d k)
def Sm(b:Int)(d:PyData):Prop:=(∃n,d= .int n/\0<=n/\n<=b)\/ d=uP
theorem wM{w n b:Int}(h0:0<=n)(h1:n<=b):Sm (b+ 1) (jL w n):=by
 unfold jL
 split
 ·exact .inl ⟨_,rfl,by omega,by omega⟩
 split
 ·exact .inl ⟨_,rfl,by omega,by omega⟩
 split
 ·exact .inl ⟨_,rfl,by omega,by omega⟩
 split
 ·exact .inl ⟨_,rfl,by omega,by omega⟩
 split
 ·exact .inr rfl
 ·exact .inl ⟨_,rfl,by omega,by omega⟩
theorem a38{w b:Int}(h:Sm b d):Sm (b+ 1) (oM w d):=by
 rcases h with⟨n,rfl,h0,h1⟩|rfl
 ·exact wM h0 h1
 ·exact .inr rfl
theorem pM{ws:List Int}{d:PyData}{b:Int}(h:Sm b d):∀k:Nat,Sm (b+ k) (bK ws d k)
 |0=>by rw[Int.natCast_zero,Int.add_zero];exact h
 |k+ 1=>by
  have:=a38 (w:=ws.getD k 0) (pM (ws:=ws) h k)
  rw[show (b+ ((k+ 1:Nat):Int))=b+ k+ 1 by omega]
  exact this
theorem Sm.nt{b:Int}(h:Sm b d)(ht:isT d=false):∃n,d= .int n/\0<=n/\n<=b:=by
 rcases h with h|rfl
 ·exact h
 ·cases ht
theorem nx_t{w:Int}(h:isT d=true):oM w d=d:=by
 cases d<;>first|rfl|cases h
theorem zF{ws:List Int}{d:PyData}{k:Nat}(h:isT (bK ws d k)=true):∀j,bK ws d (k+ j)=bK ws d k
 |0=>rfl
 |j+ 1=>by
  show oM _ (bK ws d (k+ j))=_
  rw[zF h j,nx_t h]
noncomputable def kY (ws:List Int) (d:PyData) (st:(Nat->Option Int)×List (Int×List Int)) (k:Nat):(Nat->Option Int)×List (Int×List Int):=
 if isT (bK ws d k)=false/\st.1 k≠some (eS (bK ws d k)) then(fun q=>if q=k then some (eS (bK ws d k)) else st.1 q,st.2++ [((k:Int),[eS (bK ws d k)])]) else st
noncomputable def bY (ws:List Int) (d:PyData) (wl:Nat->Option Int) (n:Nat):(Nat->Option Int)×List (Int×List Int):=(List.range n).foldl (kY ws d) (wl,[])
theorem mS(ws:List Int)(d:PyData)(wl:Nat->Option Int)(n:Nat):bY ws d wl (n+ 1)=kY ws d (bY ws d wl n) n:=by
 unfold bY
 rw[List.range_succ,List.foldl_append]
 rfl
theorem a01{ws:List Int}{d:PyData}{wl:Nat->Option Int}{k:Nat}(h:isT (bK ws d k)=true):∀j,bY ws d wl (k+ j)=bY ws d wl k
 |0=>rfl
 |j+ 1=>by
  rw[show k+ (j+ 1)=(k+ j)+ 1 from rfl,mS,a01 h j]
  unfold kY
  rw[zF h j,h,if_neg (fun y=>by cases y.1)]
theorem yM(ws:List Int)(d:PyData)(wl:Nat->Option Int):∀n,(bY ws d wl n).2.length<=n
 |0=>Nat.le_refl _
 |n+ 1=>by
  rw[mS]
  have:=yM ws d wl n
  unfold kY
  split
  ·rw[List.length_append]
   show _+ 1<=_
   omega
  ·omega
def lH(H:Hp)(du:Addr)(H':Hp):List V->List (Int×List Int)->Prop:=Paired fun x m=>∃t l,x= .ref t/\H' t=some (.tup [.int m.1,.ref l])/\H' l=some (.lst (m.2.map V.int))/\H t=none/\H l=none/\l≠du
theorem lH.mv{du:Addr}{ms:List (Int×List Int)}(u:∀b o,H b=none->H1 b=some o->H2 b=some o)(h:lH H du H1 xs ms):lH H du H2 xs ms:=Paired.imp (fun a b ⟨t,l,e1,e2,e3,e4,e5,e6⟩=>⟨t,l,e1,u _ _ e4 e2,u _ _ e5 e3,e4,e5,e6⟩) h
section
inductive vZ(K:Fg)(vs:List V)(H:Hp)(Q:VK)(E':XK):Prop
 |mk (wa la:Addr) (ws:List Int) (v:V) (d:PyData) (wl:Nat->Option Int) (ls:List V) (u:Nat):(vs= [.ref wa,v,.ref la,.int (u:Int)])->(H wa=some (.lst (ws.map V.int)))->(Pv K H v d)->(Sm 12 d)->(H la=some (.lst ls))->(iV ws.length ls wl)->(u<ws.length)->(ws.length<=5)->(wa≠la)->(∀H' tp du v' dv ls',aY la H H'->H tp=none->H' tp=some (.tup [v',.ref du])->H du=none->H' du=some (.lst dv)->Pv K H' v' (bK ws d (u+ 1))->lH H du H' dv (bY ws d wl (u+ 1)).2->H' la=some (.lst ls')->iV ws.length ls' (bY ws d wl (u+ 1)).1->Q (.ref tp) H')->vZ K vs H Q E'
abbrev Ndu:List Str:=["_law_ways","_law_value","_law_last","_law_upto","_law_due_here","_law_at"]
theorem vJ:bA Ndu ["_law_ways","_law_value","_law_last","_law_upto"] (aO a1X):={}
theorem a5C(T:bC K mg):bH P w K mg base aF 2 "_law_due" ["_law_ways","_law_value","_law_last","_law_upto"] (vZ K):=by
 have G_ans:bH P w K mg base aF 1 "_law_answer" ["_law_way","_law_one"] (uY K):=a0U T
 refine T.d_law_due.known vJ (fun _ _ _ _ _ _ us hl=>jG (fun _ _ _ _=>rfl) us hl) (fun vs H Q E h=> ?_) (fun f cdv A outer s H vs Q E hr h=> ?_)
 ·obtain⟨wa,la,ws,v,d,wl,ls,u,rfl,_⟩:=h
  rfl
 ·obtain⟨wa,la,ws,v,d,wl,ls,u,rfl,hwa,hpv,hsm,hla,hls,hu,h5,nwl,q⟩:=h
  refine⟨_,(aK (cH (i:=4) vJ.nd rfl (Or.inl rfl) (gW aI))
   (aK (kH PassesOwn.never rfl (pK rfl T.range (aA (cG gZ (pv 3) bD) aI)) (fT (i:=5) vJ.nd rfl (Or.inl rfl))
    (aK (bL (eF (dQ mI rfl T.isinstance kG (aA (pv 1) (aA (jW T.tuple a0z) aI))) (fun _=>rfl)) (aL (bN (fV (aA (pv 1) (aA (pv 4) aI))))) bO)
    (aK (bL (cN (nG hr.units) (cM iD (pv 2) (pv 5) (fun _ _=>rfl)) (pv 1) (cX _)) (aK (cA (kL F.plainAttrs_list F.slot_list_append F.type_list_append jC (pv 4) (aA (fV (aA (pv 5) (aA (gW (aA (pv 1) aI)) aI))) aI)))
     (aL (sP (pv 1) (zU (pv 2) (pv 5) yX (fun _=>rfl))))) bO)
    (aL (cH (i:=1) vJ.nd rfl (Or.inl rfl) (bV G_ans hr.mn aS (aA (cM iD (pv 0) (pv 5) (fun _ _=>rfl)) (aA (pv 1) aI))))))))
   (aL (bN (fV (aA (pv 1) (aA (pv 4) aI))))))),?_⟩
  refine⟨sl,fun du hdu=> ?_⟩
  have s1:=aH.new (o:=.lst []) hdu
  have d1:upd H du (.lst []) du=some (.lst []):=aJ
  generalize upd H du (.lst [])=H1 at s1 d1|-
  have ndl:du≠la:=fun y=>by rw[y,hla]at hdu;cases hdu
  refine⟨_,rfl,_,_,rfl,rfl,_,rfl,by omega,by omega,?_⟩
  rw[show ((u:Int)+ 1).toNat=u+ 1 by omega]
  have fin:∀(H2:Hp) (v2:V) (dv:List V) (ls2:List V),aY la H H2->H2 du=some (.lst dv)->Pv K H2 v2 (bK ws d (u+ 1))->lH H du H2 dv (bY ws d wl (u+ 1)).2->H2 la=some (.lst ls2)->iV ws.length ls2 (bY ws d wl (u+ 1)).1-> [v2,V.ref du].length<=sizeLine/\∀p,H2 p=none->Q (.ref p) (upd H2 p (.tup [v2,.ref du])):=fun H2 v2 dv ls2 b2 e1 e2 e3 e4 e5=>⟨sl,fun p hp=>by
   have s3:=aH.new (o:=.tup [v2,.ref du]) hp
   have hpH:H p=none:=by
    cases e:H p with
    |none=>rfl
    |some o=>
     by_cases y:p=la
     ·rw[y,e4]at hp;cases hp
     ·rw[b2 _ _ y e]at hp;cases hp
   exact q _ p du v2 dv ls2 (b2.trans (aY.of s3)) hpH aJ hdu (s3 _ _ e1) (e2.keep (bS.of s3)) (e3.mv fun b o _ e=>s3 _ _ e) (s3 _ _ e4) e5⟩
  refine yP (lo:=0) (n:=u+ 1) (fun i σ H2=>∃o5 v2 dv ls2,σ= [some (.ref wa),some v2,some (.ref la),some (.int (u:Int)),some (.ref du),o5] /\aY la H H2/\H2 du=some (.lst dv)/\Pv K H2 v2 (bK ws d i)/\lH H du H2 dv (bY ws d wl i).2/\H2 la=some (.lst ls2)/\iV ws.length ls2 (bY ws d wl i).1) ?_ ?_ ?_
  ·exact⟨_,v,[],ls,rfl,aY.of s1,d1,hpv.keep (bS.of s1),.nil,s1 _ _ hla,hls⟩
  ·rintro i σ H2 hi ⟨o5,v2,dv,ls2,rfl,b2,e1,e2,e3,e4,e5⟩
   rw[Int.zero_add]
   have lz:=yM ws d wl i
   have ldv:=Paired.length e3
   refine⟨_,rfl,v2,"tuple",_,_,rfl,e2.dt,a3k K _,_,rfl,?_⟩
   rw[e2.vd.kd]
   cases hT:isT (bK ws d i)with
   |true=>
    have x1:=zF hT (u+ 1- i)
    have x2:=a01 (wl:=wl) hT (u+ 1- i)
    rw[show i+ (u+ 1- i)=u+ 1 by omega]at x1 x2
    rw[<- x1]at e2
    rw[<- x2]at e3 e5
    exact cQ ⟨_,rfl,_,rfl,fin H2 v2 dv ls2 b2 e1 e2 e3 e4 e5⟩
   |false=>
    obtain⟨n,hn,n0,n1⟩:=(pM (ws:=ws) hsm i).nt hT
    have en:bK ws d i= .int n:=hn
    rw[en]at e2
    have ev:v2= .int n:=by
     have:=e2.dt
     cases this
     rfl
    subst ev
    have e5a:=e5.2 i (by omega)
    have hwi:(ws.map V.int)[i]?=some (.int (ws.getD i 0)):=by
     rw[List.getElem?_map,List.getElem?_eq_getElem (show i<ws.length by omega),List.getD_eq_getElem?_getD,List.getElem?_eq_getElem (show i<ws.length by omega)]
     rfl
    have next:∀(H3:Hp) (dv3 ls3:List V),aY la H H3->H3 du=some (.lst dv3)->lH H du H3 dv3 (bY ws d wl (i+ 1)).2->H3 la=some (.lst ls3)->iV ws.length ls3 (bY ws d wl (i+ 1)).1->∀(H4:Hp) (v4:V),aH H3 H4->Pv K H4 v4 (jL (ws.getD i 0) n)->∃o5 v2 dv ls2,[some (V.ref wa),some v4,some (.ref la),some (.int (u:Int)),some (.ref du),some (.int (i:Int))]= [some (.ref wa),some v2,some (.ref la),some (.int (u:Int)),some (.ref du),o5] /\aY la H H4/\H4 du=some (.lst dv)/\Pv K H4 v2 (bK ws d (i+ 1))/\lH H du H4 dv (bY ws d wl (i+ 1)).2/\H4 la=some (.lst ls2)/\iV ws.length ls2 (bY ws d wl (i+ 1)).1:=fun H3 dv3 ls3 a1 a2 a3 a4 a5 H4 v4 s4 p4=>by
     refine⟨_,v4,dv3,ls3,rfl,a1.trans (aY.of s4),s4 _ _ a2,?_,a3.mv fun b o _ e=>s4 _ _ e,s4 _ _ a4,a5⟩
     show Pv K H4 v4 (oM (ws.getD i 0) (bK ws d i))
     rw[en]
     exact p4
    refine bI ⟨_,rfl,_,rfl,la,_,_,_,rfl,rfl,aN.of e4,jB e5a,_,rfl,tN ((bY ws d wl i).1 i),.int n,?_,.int n,?_,rfl,?_,_,rfl,?_⟩
    ·cases (bY ws d wl i).1 i with
     |none=>exact .non
     |some k=>exact .int k
    ·cases (bY ws d wl i).1 i<;>rfl
    ·cases (bY ws d wl i).1 i<;>exact Nat.zero_le _
    rw[a7z]
    refine a5N (fun hq=> ?_) (fun hq=> ?_)
    ·have hq:(bY ws d wl i).1 i=some n:=by simpa using hq
     have ed:bY ws d wl (i+ 1)=bY ws d wl i:=by
      rw[mS]
      unfold kY
      rw[en,if_neg (fun y=>y.2 hq)]
     refine⟨_,rfl,_,rfl,wa,_,_,_,rfl,rfl,aN.of (b2 _ _ nwl hwa),jB hwi,_,rfl,_,n,rfl,n0,by omega,fun H4 v4 s4 p4=> ?_⟩
     exact next H2 dv ls2 b2 e1 (by rw[ed];exact e3) e4 (by rw[ed];exact e5) H4 v4 s4 p4
    ·have hq:(bY ws d wl i).1 i≠some n:=by simpa using hq
     have ed:bY ws d wl (i+ 1)=(fun q=>if q=i then some n else(bY ws d wl i).1 q,(bY ws d wl i).2++ [((i:Int),[n])]):=by
      rw[mS]
      unfold kY
      rw[en,if_pos ⟨rfl,hq⟩]
      rfl
     refine⟨_,rfl,.inl ⟨rfl,_,aN.of e1⟩,_,rfl,_,rfl,sl,fun l hl=> ?_⟩
     have s3:=aH.new (o:=.lst [.int n]) hl
     have l3:upd H2 l (.lst [.int n]) l=some (.lst [.int n]):=aJ
     generalize upd H2 l (.lst [.int n])=H3 at s3 l3|-
     refine⟨sl,fun t ht=> ?_⟩
     have s4:=aH.new (o:=.tup [.int (i:Int),.ref l]) ht
     have t4:upd H3 t (.tup [.int (i:Int),.ref l]) t=some (.tup [.int (i:Int),.ref l]):=aJ
     generalize upd H3 t (.tup [.int (i:Int),.ref l])=H4 at s4 t4|-
     have s24:=s3.trans s4
     refine⟨du,_,_,rfl,rfl,s24 _ _ e1,cY (by omega),?_⟩
     have u5:aY du H4 (upd H4 du (.lst (dv++ [.ref t]))):=aY.upd
     have d5:upd H4 du (.lst (dv++ [.ref t])) du=some (.lst (dv++ [.ref t])):=aJ
     generalize upd H4 du (.lst (dv++ [.ref t]))=H5 at u5 d5|-
     have la5:=u5 _ _ ndl.symm (s24 _ _ e4)
     refine⟨_,rfl,_,rfl,_,rfl,la,ls2,(i:Int),i,rfl,rfl,la5,by rw[uF (by omega) (by rw[e5.1];omega),Int.toNat_natCast],?_⟩
     have u6:aY la H5 (upd H5 la (.lst (ls2.set i (.int n)))):=aY.upd
     have a6:upd H5 la (.lst (ls2.set i (.int n))) la=some (.lst (ls2.set i (.int n))):=aJ
     generalize upd H5 la (.lst (ls2.set i (.int n)))=H6 at u6 a6|-
     have oldn:∀{x:Addr},H2 x=none->H x=none:=fun{x} hx=>by
      cases e:H x with
      |none=>rfl
      |some o=>
       by_cases y:x=la
       ·rw[y,e4]at hx;cases hx
       ·rw[b2 _ _ y e]at hx;cases hx
     have tn2:H2 t=none:=iM s3 ht
     have lnd:l≠du:=fun y=>by rw[y,e1]at hl;cases hl
     have lnl:l≠la:=fun y=>by rw[y,e4]at hl;cases hl
     have tnd:t≠du:=fun y=>by rw[y,e1]at tn2;cases tn2
     have tnl:t≠la:=fun y=>by rw[y,e4]at tn2;cases tn2
     have k26:∀{x:Addr} {o:HO},x≠du->x≠la->H2 x=some o->H6 x=some o:=fun n1 n2 e=>u6 _ _ n2 (u5 _ _ n1 (s24 _ _ e))
     have b6:aY la H H6:=fun x o nx e=>k26 (fun y=>by rw[y,hdu]at e;cases e) nx (b2 _ _ nx e)
     have du6:=u6 _ _ ndl d5
     have dm6:lH H du H6 (dv++ [.ref t]) (bY ws d wl (i+ 1)).2:=by
      rw[ed]
      refine Paired.snoc ⟨t,l,rfl,u6 _ _ tnl (u5 _ _ tnd t4),u6 _ _ lnl (u5 _ _ lnd (s4 _ _ l3)),oldn tn2,oldn hl,lnd⟩ ?_
      refine Paired.imp (fun a b ⟨t',l',x1,x2,x3,x4,x5,x6⟩=>⟨t',l',x1,k26 (fun y=> ?_) (fun y=>by rw[y,hla]at x4;cases x4) x2,k26 x6 (fun y=>by rw[y,hla]at x5;cases x5) x3,x4,x5,x6⟩) e3
      rw[y,e1]at x2;cases x2
     have ls6:iV ws.length (ls2.set i (.int n)) (bY ws d wl (i+ 1)).1:=by
      rw[ed]
      refine⟨by rw[List.length_set];exact e5.1,fun p hp=> ?_⟩
      rw[List.getElem?_set]
      by_cases y:i=p
      ·subst y
       rw[if_pos rfl,if_pos (by rw[e5.1];exact hp)]
       show _=some (wO (if i=i then some n else _))
       rw[if_pos rfl]
       rfl
      ·rw[if_neg y]
       show _=some (wO (if p=i then some n else _))
       rw[if_neg (fun z=>y z.symm)]
       exact e5.2 p hp
     refine⟨_,rfl,_,rfl,wa,_,_,_,rfl,rfl,aN.of (b6 _ _ nwl hwa),jB hwi,_,rfl,_,n,rfl,n0,by omega,fun H7 v7 s7 p7=> ?_⟩
     exact next H6 _ _ b6 du6 dm6 a6 ls6 H7 v7 s7 p7
  ·rintro σ H2 ⟨o5,v2,dv,ls2,rfl,b2,e1,e2,e3,e4,e5⟩
   exact⟨_,rfl,_,rfl,fin H2 v2 dv ls2 b2 e1 e2 e3 e4 e5⟩
end
def cn:Nat->Str
 |0=> "a"
 |1=> "b"
 |2=> "c"
 |3=> "d"
 |4=> "e"
 |_=> "f"
def ci(c:Str):Nat:=if c= "a" then 0 else if c= "b" then 1 else if c= "c" then 2 else if c= "d" then 3 else if c= "e" then 4 else 5
theorem a6Q:∀k:Fin 6,ci (cn k.val)=k.val:=by decide+kernel
theorem kO{k:Nat}(h:k<=5):ci (cn k)=k:=a6Q ⟨k,by omega⟩
theorem nL{k:Nat}(hj:j<=5)(hk:k<=5)(h:cn j=cn k):j=k:=by
 have:=congrArg ci h
 rwa [kO hj,kO hk]at this
theorem a4T:∀k:Fin 6,Nl (cn k.val):=by unfold Nl;decide+kernel
theorem kQ{k:Nat}(h:k<=5):Nl (cn k):=a4T ⟨k,by omega⟩
theorem a59{m:Nat}(h:p<m):cI (eJ 0 m) (p:Int)=some (.int (p:Int)):=by
 refine jB ?_
 unfold eJ
 rw[List.getElem?_map,List.getElem?_range h]
 show some (V.int (0+ (p:Int)))=_
 rw[Int.zero_add]
theorem yY{val:aU->PyData}{z:Str}:(iP "t" [z] p).run val=if isT (val ("t",z,p)) then .inl (val ("t",z,p)) else .inr [eS (val ("t",z,p))]:=by
 show(gQ .done [(("t",z,p):aU)] []).run val=_
 rw[wQ]
 show(if isT (val ("t",z,p)) then GT.done (.inl (val ("t",z,p))) else gQ .done [] ([] ++ [eS (val ("t",z,p))])).run val=_
 cases isT (val ("t",z,p))<;>rfl
theorem a0s{val:aU->PyData}{z:Str}:(iP "t" [z] p).looks val= [(("t",z,p):aU)]:=by
 show(gQ .done [(("t",z,p):aU)] []).looks val=_
 rw[wQ]
 show _::(if isT (val ("t",z,p)) then GT.done (.inl (val ("t",z,p))) else gQ .done [] ([] ++ [eS (val ("t",z,p))])).looks val=_
 cases isT (val ("t",z,p))<;>rfl
theorem Sm.vd{b:Int}(h:Sm b d)(hb:b<=101):Vd d:=by
 rcases h with⟨n,rfl,h0,h1⟩|rfl
 ·exact .inl ⟨n,rfl,rY _ (by omega) (by omega)⟩
 ·exact .inr ⟨"small",rfl,iZ.1⟩
theorem Sm.set{b:Int}(h:Sm b d)(hb:b<=101):fC d=d:=by
 unfold fC
 rcases h with⟨n,rfl,h0,h1⟩|rfl
 ·rw[if_pos (show iR (.int n)=true from by rw[show iR (.int n)=(jE (.int n)||iB (.int n)) from rfl,rY _ (by omega) (by omega)];rfl)]
 ·rw[if_pos (show iR uP=true from by decide+kernel)]
structure bR where
 s:Addr
 ch:Addr
 bd:Addr
 ca:Addr
 vl:Addr
 wa:Addr
 la:Addr
 lA:Addr
 lr:Nat->Addr
 gr:Nat->Addr
 nl:Nat->Addr
 fa:Nat->Addr
 mc:Nat->Addr
 B:BM
 m:Nat
 ws:List Int
def bR.n(W:bR):Nat:=W.ws.length
def bR.fx(W:bR):List Addr:=W.ch::W.B.r::W.B.od::W.lA::W.ca::W.vl::W.wa::W.la::(List.range W.m).map W.lr
structure fP(W:bR):Prop where
 nd:W.fx.Nodup
 mb:∀k,k<W.n->W.mc k≠W.bd/\W.mc k≠W.B.e/\W.mc k≠W.B.ru/\W.mc k≠W.B.me
 md:∀j k,j<W.n->k<W.n->W.mc j=W.mc k->j=k
 ss:lP W.bd W.ch W.B
 k1:aE W.B.kvs (.inr "a":aB)=some (.ref W.lA)
 r0:∀k,k<W.n->aE W.B.rus (.inr (cn (k+ 1)):aB)=some (.ref (W.gr k))
 r1:aE W.B.rus (.inr "a":aB)=none
 me:∀k,k<W.n->aE W.B.mes (.inr (cn (k+ 1)):aB)=some (.ref (W.mc k))
 xs:W.B.xs=eJ 0 W.m
 m5:1<=W.m/\W.m<=5
 n5:2<=W.n/\W.n<=5
 od:W.B.ord=(List.range (W.n+ 1)).map cn
 gs:∀k,k<W.n->W.gr k≠W.s/\W.nl k≠W.s
 gx:∀k,k<W.n->W.gr k∉W.fx/\W.nl k∉W.fx
section
variable(P:Program)(w:World)(K:Fg)(mg:Str->Option Value)(base:Heap)
def mU(CG:Addr)(W:bR)(k:Nat):RD:=⟨W.gr k,W.fa k,W.mc k,CG,gK (W.nl k) (W.fa k),[W.gr k,W.nl k],some (.int (k:Int)),lK (W.ws.getD k 0),lQ,rR P w K mg base CG⟩
def bJ(CG:Addr)(W:bR)(fi fd lk:Addr)(ys:List V)(ds:List PyData):X1 where
 fi:=fi
 bd:=W.bd
 fd:=fd
 lk:=lk
 nm:= "t"
 B:=W.B
 m:=W.m
 gv:=fun c=>if c= "a" then some ys else none
 val:=fun c p=>bK W.ws (ds.getD p .none) (ci c)
 rl:=fun c=>if 1<=ci c/\ci c<=W.n/\c=cn (ci c) then some (mU P w K mg base CG W (ci c- 1)) else none
 tree:=fun c p=>iP "t" [cn (ci c- 1)] p
 rk:=fun c _=>ci c
 rc:=(List.range W.n).map fun k=>cn (k+ 1)
 num:=fun p=>p
 bnd:=W.m
 ca:=some W.ca
 fx:=W.fx
 abn:=fun _=>False
 wa:=fun _ _=>none
end
section
theorem iU{W:bR}{R:RD}(h:(bJ P w K mg base CG W fi fd lk ys ds).rl c=some R):∃k,k<W.n/\c=cn (k+ 1)/\R=mU P w K mg base CG W k:=by
 have h:(if 1<=ci c/\ci c<=W.n/\c=cn (ci c) then some (mU P w K mg base CG W (ci c- 1)) else none)=some R:=h
 split at h
 ·next y=>
  refine⟨ci c- 1,by omega,?_,(Option.some.inj h).symm⟩
  rw[show ci c- 1+ 1=ci c by omega]
  exact y.2.2
 ·cases h
theorem a1A{W:bR}(O:fP W){k:Nat}(hk:k<W.n):(bJ P w K mg base CG W fi fd lk ys ds).rl (cn (k+ 1))=some (mU P w K mg base CG W k):=by
 have n5:=O.n5
 have e:ci (cn (k+ 1))=k+ 1:=kO (by omega)
 show(if 1<=ci (cn (k+ 1))/\ci (cn (k+ 1))<=W.n/\cn (k+ 1)=cn (ci (cn (k+ 1))) then some (mU P w K mg base CG W (ci (cn (k+ 1))- 1)) else none)=_
 rw[e,if_pos ⟨by omega,by omega,rfl⟩]
 rfl
theorem oR{W:bR}{ys':List V}(h:(bJ P w K mg base CG W fi fd lk ys ds).gv c=some ys'):c= "a" /\ys'=ys:=by
 have h:(if c= "a" then some ys else none)=some ys':=h
 split at h
 ·exact⟨by assumption,(Option.some.inj h).symm⟩
 ·cases h
theorem yJ{W:bR}{k:Nat}(hk:k+ 1<=5):(bJ P w K mg base CG W fi fd lk ys ds).gv (cn (k+ 1))=none:=by
 show(if cn (k+ 1)= "a" then some ys else none)=none
 rw[if_neg (fun y=>by have:=nL (k:=0) hk (by decide) y;cases this)]
theorem qD{W:bR}{k:Nat}(hk:k<=5):(bJ P w K mg base CG W fi fd lk ys ds).v ("t",cn k,p)=bK W.ws (ds.getD p .none) k:=by
 show bK W.ws (ds.getD p .none) (ci (cn k))=_
 rw[kO hk]
theorem a4B{W:bR}(O:fP W)(fl:fd≠lk)(ly:ys.length=W.m)(ld:ds.length=W.m)(vd:∀d∈ds,Sm 12 d):X1Ok (bJ P w K mg base CG W fi fd lk ys ds):=by
 have m5:=O.m5
 have n5:=O.n5
 have nd:=O.nd
 unfold bR.fx at nd
 simp only[List.nodup_cons,List.mem_cons,not_or]at nd
 obtain⟨⟨_,_,_,_,_,_,_,_⟩,⟨_,_,b3,_,_,_,_⟩,⟨_,c2,_,_,_,_⟩,⟨d1,_,_,_,_⟩,_,_,_,_,_⟩:=nd
 have hv:∀p,p<W.m->Sm 12 (ds.getD p .none):=fun p hp=>by
  rw[List.getD_eq_getElem?_getD,List.getElem?_eq_getElem (by omega)]
  exact vd _ (List.getElem_mem _)
 have caf:W.ca∈W.fx:=by unfold bR.fx;simp
 refine⟨by show W.B.xs.length=W.m;rw[O.xs,pR],by show W.m<=30;omega,by show W.B.ord.length<=8;rw[O.od,List.length_map,List.length_range];omega,fun c hc=> ?_,fun c R h=> ?_,fun c hc=> ?_,?_,fun c R h=> ?_,fun c R h=> ?_,fun c R h is hi=> ?_,fun c R h=> ?_,fun c R h=> ?_,fun c R c' R' h h' e=> ?_,⟨fun y=>b3 (Option.some.inj y).symm,fun y=>c2 (Option.some.inj y).symm⟩,fun c ys' l g e y=> ?_,fl,fun p hp=>⟨by show cI W.B.xs _=_;rw[O.xs];exact a59 hp,hp⟩,fun p p' _ _ e=>e,by show W.m<=85;omega,fun p j _ h=>False.elim h,fun a e=>by rw[<- Option.some.inj e];exact caf,fun c R p _ hp h=> ?_,fun c R p _ hp h y hy=> ?_,fun c R p _ hp h is hi=> ?_⟩
 ·have hc:c∈W.B.ord:=hc
  rw[O.od,List.mem_map]at hc
  obtain⟨k,hk,rfl⟩:=hc
  have hk:=List.mem_range.mp hk
  cases k with
  |zero=>exact .inl ⟨ys,(show(if("a":Str)= "a" then some ys else none)=some ys from if_pos rfl),ly,kQ (by decide),O.r1⟩
  |succ k=>exact .inr ⟨yJ (by omega),_,a1A O (by omega)⟩
 ·obtain⟨k,hk,rfl,rfl⟩:=iU h
  exact List.mem_map.mpr ⟨k,List.mem_range.mpr hk,rfl⟩
 ·obtain⟨k,hk,rfl⟩:=List.mem_map.mp hc
  have hk:=List.mem_range.mp hk
  exact yJ (by omega)
 ·show((List.range W.n).map fun k=>cn (k+ 1)).Nodup
  rw[List.nodup_iff_pairwise_ne,List.pairwise_map]
  refine List.Pairwise.imp_of_mem (fun{a b} ha hb hab y=> ?_) (List.nodup_iff_pairwise_ne.mp List.nodup_range)
  have ha:=List.mem_range.mp ha
  have hb:=List.mem_range.mp hb
  have:=nL (j:=a+ 1) (k:=b+ 1) (by omega) (by omega) y
  omega
 ·obtain⟨k,hk,rfl,rfl⟩:=iU h
  exact⟨O.r0 k hk,O.me k hk⟩
 ·obtain⟨k,hk,rfl,rfl⟩:=iU h
  exact⟨⟨(nI _ _).1,(nI _ _).2.2.2.2⟩,(nI _ _).2.2.2.1⟩
 ·obtain⟨k,hk,rfl,rfl⟩:=iU h
  obtain⟨n,rfl,h0,h1⟩:=hi
  have hs:=wM (w:=W.ws.getD k 0) h0 h1
  have hv:=hs.vd (by decide)
  show jI (jL _ n)/\Vd (fC (jL _ n))
  rw[hs.set (by decide)]
  exact⟨(Vd.short hv).1,hv⟩
 ·obtain⟨k,hk,rfl,rfl⟩:=iU h
  refine⟨aa,fun b hb y=> ?_⟩
  have hb:b∈ [W.gr k,W.nl k]:=hb
  have y:W.ca=b:=Option.some.inj y
  have gx:=O.gx k hk
  simp only[List.mem_cons,List.not_mem_nil,or_false]at hb
  rcases hb with h|h
  ·exact gx.1 (by rw[<- h,<- y];exact caf)
  ·exact gx.2 (by rw[<- h,<- y];exact caf)
 ·obtain⟨k,hk,rfl,rfl⟩:=iU h
  exact O.mb k hk
 ·obtain⟨k,hk,rfl,rfl⟩:=iU h
  obtain⟨j,hj,rfl,rfl⟩:=iU h'
  rw[O.md k j hk hj e]
 ·obtain⟨rfl,rfl⟩:=oR g
  have e:aE W.B.kvs (.inr "a":aB)=some (.ref l):=e
  rw[O.k1]at e
  have:=V.ref.inj (Option.some.inj e)
  exact d1 (this.trans (Option.some.inj y).symm)
 ·obtain⟨k,hk,rfl,rfl⟩:=iU h
  have e1:ci (cn (k+ 1))=k+ 1:=kO (by omega)
  show bK W.ws (ds.getD p .none) (ci (cn (k+ 1)))=tI (lK (W.ws.getD k 0)) ((iP "t" [cn (ci (cn (k+ 1))- 1)] p).run (bJ P w K mg base CG W fi fd lk ys ds).v)
  rw[e1,show k+ 1- 1=k from rfl,yY,qD (by omega)]
  show oM (W.ws.getD k 0) (bK W.ws (ds.getD p .none) k)=_
  have sm:=pM (ws:=W.ws) (hv p hp) k
  cases hT:isT (bK W.ws (ds.getD p .none) k)with
  |true=>
   rw[nx_t hT]
   rfl
  |false=>
   obtain⟨n,hn,n0,n1⟩:=sm.nt hT
   rw[hn]
   show jL _ n=fC (jL _ n)
   exact((wM n0 n1).set (by omega)).symm
 ·obtain⟨k,hk,rfl,rfl⟩:=iU h
  have e1:ci (cn (k+ 1))=k+ 1:=kO (by omega)
  have hy:y∈(iP "t" [cn (ci (cn (k+ 1))- 1)] p).looks (bJ P w K mg base CG W fi fd lk ys ds).v:=hy
  rw[e1,show k+ 1- 1=k from rfl,a0s,List.mem_singleton]at hy
  subst hy
  refine⟨⟨rfl,?_,hp⟩,fun _=> ?_⟩
  ·show cn k∈W.B.ord
   rw[O.od]
   exact List.mem_map.mpr ⟨k,List.mem_range.mpr (by omega),rfl⟩
  ·show ci (cn k)<ci (cn (k+ 1))
   rw[e1,kO (by omega)]
   omega
 ·obtain⟨k,hk,rfl,rfl⟩:=iU h
  have e1:ci (cn (k+ 1))=k+ 1:=kO (by omega)
  have hi:(iP "t" [cn (ci (cn (k+ 1))- 1)] p).run (bJ P w K mg base CG W fi fd lk ys ds).v= .inr is:=hi
  rw[e1,show k+ 1- 1=k from rfl,yY,qD (by omega)]at hi
  have sm:=pM (ws:=W.ws) (hv p hp) k
  cases hT:isT (bK W.ws (ds.getD p .none) k)with
  |true=>
   rw[hT,if_pos rfl]at hi
   cases hi
  |false=>
   rw[hT,if_neg Bool.false_ne_true]at hi
   obtain⟨n,hn,n0,n1⟩:=sm.nt hT
   rw[hn]at hi
   obtain rfl:[n]=is:=Sum.inr.inj hi
   exact⟨⟨n,rfl,n0,by omega⟩,by show 1<=100;decide⟩
end
noncomputable def dq (ws:List Int) (d:PyData) (wl:Nat->Option Int) (k:Nat):Option (Int×List Int):=if isT (bK ws d k)=false/\wl k≠some (eS (bK ws d k)) then some ((k:Int),[eS (bK ws d k)]) else none
theorem uO(ws:List Int)(d:PyData)(wl:Nat->Option Int):∀n k,(bY ws d wl n).1 k=if k<n/\isT (bK ws d k)=false then some (eS (bK ws d k)) else wl k
 |0,k=>by rw[if_neg (fun y=>by omega)];rfl
 |n+ 1,k=>by
  rw[mS]
  unfold kY
  by_cases e:k=n
  ·subst e
   have ih:=uO ws d wl k k
   rw[if_neg (fun y=>by omega)]at ih
   cases hT:isT (bK ws d k)with
   |true=>
    rw[if_neg (fun y=>by cases y.1),if_neg (fun y=>by cases y.2)]
    exact ih
   |false=>
    rw[show (if k<k+ 1/\false=false then some (eS (bK ws d k)) else wl k)=some (eS (bK ws d k)) from if_pos ⟨by omega,rfl⟩]
    by_cases hq:(bY ws d wl k).1 k=some (eS (bK ws d k))
    ·rw[if_neg (fun y=>y.2 hq)]
     exact hq
    ·rw[if_pos ⟨rfl,hq⟩]
     show(if k=k then _ else _)=_
     rw[if_pos rfl]
  ·have ih:=uO ws d wl n k
   have e1:(k<n+ 1/\isT (bK ws d k)=false)↔(k<n/\isT (bK ws d k)=false):=⟨fun y=>⟨by omega,y.2⟩,fun y=>⟨by omega,y.2⟩⟩
   rw[show (if k<n+ 1/\isT (bK ws d k)=false then some (eS (bK ws d k)) else wl k)=(if k<n/\isT (bK ws d k)=false then some (eS (bK ws d k)) else wl k) from by simp only[e1],<- ih]
   split
   ·show(if k=n then _ else _)=_
    rw[if_neg e]
   ·rfl
theorem a3F(ws:List Int)(d:PyData)(wl:Nat->Option Int):∀n,(bY ws d wl n).2=(List.range n).filterMap (dq ws d wl)
 |0=>rfl
 |n+ 1=>by
  rw[mS,List.range_succ,List.filterMap_append,<- a3F ws d wl n]
  have h:=uO ws d wl n n
  rw[if_neg (fun y=>by omega)]at h
  unfold kY
  rw[h]
  rw[List.filterMap_cons,List.filterMap_nil]
  unfold dq
  by_cases e:isT (bK ws d n)=false/\wl n≠some (eS (bK ws d n))
  ·rw[if_pos e,if_pos e]
  ·rw[if_neg e,if_neg e,List.append_nil]
noncomputable def dC (wo:aU->Option (List Int×V)) (p k:Nat):Option Int:=(wo ("t",cn (k+ 1),p)).map fun jv=>jv.1.headD 0
section
variable{W:bR}
theorem gv26{k:Nat}(hk:k+ 1<=5):(bJ P w K mg base CG W fi fd lk ys ds).sx.gv "t" (cn (k+ 1))=none:=(X1.gvn _ _).trans (yJ hk)
theorem zB(O:fP W){k:Nat}(hk:k<W.n):(bJ P w K mg base CG W fi fd lk ys ds).sx.rl "t" (cn (k+ 1))=some (mU P w K mg base CG W k):=(X1.rln _ _).trans (a1A O hk)
theorem a3o{k:Nat}(hk:k+ 1<=5):(bJ P w K mg base CG W fi fd lk ys ds).sx.tree ("t",cn (k+ 1),p)=iP "t" [cn k] p:=by
 show iP "t" [cn (ci (cn (k+ 1))- 1)] p=_
 rw[kO hk]
 rfl
theorem pA{k:Nat}(hk:k+ 1<=5):((bJ P w K mg base CG W fi fd lk ys ds).sx.tree ("t",cn (k+ 1),p)).run (bJ P w K mg base CG W fi fd lk ys ds).sx.val=if isT (bK W.ws (ds.getD p .none) k) then .inl (bK W.ws (ds.getD p .none) k) else .inr [eS (bK W.ws (ds.getD p .none) k)]:=by
 rw[a3o hk]
 show(iP "t" [cn k] p).run (bJ P w K mg base CG W fi fd lk ys ds).v=_
 rw[yY,qD (by omega)]
theorem a3E{k:Nat}(hk:k+ 1<=5):((bJ P w K mg base CG W fi fd lk ys ds).sx.tree ("t",cn (k+ 1),p)).looks (bJ P w K mg base CG W fi fd lk ys ds).sx.val= [(("t",cn k,p):aU)]:=by
 rw[a3o hk]
 exact a0s
theorem a7E{u:Nat}(hu:u+ 1<=5){y:aU}(h:nM (bJ P w K mg base CG W fi fd lk ys ds).sx ("t",cn (u+ 1),p) y):∃k,k<=u/\y=(("t":Str),cn (k+ 1),p):=by
 induction h with
 |refl=>exact⟨u,Nat.le_refl _,rfl⟩
 | @step y z h hz g ih=>
  obtain⟨k,hk,rfl⟩:=ih
  rw[a3E (by omega),List.mem_singleton]at hz
  subst hz
  cases k with
  |zero=>
   have g:(if("t":Str)= "t" then(if("a":Str)= "a" then some ys else none) else none)=none:=g
   rw[if_pos rfl,if_pos rfl]at g
   cases g
  |succ k=>exact⟨k,by omega,rfl⟩
theorem a79(O:fP W){k:Nat}(hk:k<W.n)(w1:∀is v,wo ("t",cn (k+ 1),p)=some (is,v)->∃n,is= [n])(sm:∃b,Sm b (bK W.ws (ds.getD p .none) k)):kR (bJ P w K mg base CG W fi fd lk ys ds).sx wo ("t",cn (k+ 1),p)=(dq W.ws (ds.getD p .none) (dC wo p) k).map fun m=>(some (.int m.1),m.2):=by
 have n5:=O.n5
 have e2:=pA (P:=P) (w:=w) (K:=K) (mg:=mg) (base:=base) (CG:=CG) (W:=W) (fi:=fi) (fd:=fd) (lk:=lk) (ys:=ys) (ds:=ds) (k:=k) (p:=p) (by omega)
 obtain⟨b,sm⟩:=sm
 cases hT:isT (bK W.ws (ds.getD p .none) k)with
 |true=>
  rw[hT,if_pos rfl]at e2
  unfold kR dq
  rw[e2]
  simp only[zB O hk]
  rw[if_neg (fun y=>by rw[hT]at y;cases y.1)]
  rfl
 |false=>
  rw[hT,if_neg Bool.false_ne_true]at e2
  obtain⟨n,hn,_,_⟩:=sm.nt hT
  unfold kR dq
  rw[e2]
  simp only[zB O hk]
  rw[hn]
  show(if(wo ("t",cn (k+ 1),p)).map (·.1)=some [n] then none else some (some (.int (k:Int)),[n]))=((if isT (.int n)=false/\dC wo p k≠some n then some ((k:Int),[n]) else none).map fun m:Int×List Int=>((some (.int m.1):Option V),m.2))
  unfold dC
  cases hw:wo ("t",cn (k+ 1),p)with
  |none=>
   rw[if_neg (fun y=>by cases y),if_pos ⟨rfl,fun y=>by cases y⟩]
   rfl
  |some jv=>
   obtain⟨js,v⟩:=jv
   obtain⟨j,rfl⟩:=w1 js v hw
   show(if some [j]=some [n] then none else _)=_
   by_cases e:j=n
   ·subst e
    rw[if_pos rfl,if_neg (fun y=>y.2 rfl)]
    rfl
   ·rw[if_neg (fun y=>e (by simpa using y)),if_pos ⟨rfl,fun y=>e (by simpa using y)⟩]
    rfl
abbrev ce(k p:Nat):aU:=("t",cn (k+ 1),p)
def wD(wo:aU->Option (List Int×V)):Prop:=∀y is v,wo y=some (is,v)->∃n,is= [n]
theorem vo26(O:fP W)(hv:∀p,p<W.m->Sm 12 (ds.getD p .none)){u:Nat}(hu:u<W.n)(hp:p<W.m){kl':List (Ky×V)}{mem mem':Str->Str->List (aB×V)}{L:List aU}(w1:wD wo)
 (S:SB P w K mg base RG CF CB CT zt (bJ P w K mg base CG W fi fd lk ys ds).sx kf kl mem wo cs ns H)(S':SB P w K mg base RG CF CB CT zt (bJ P w K mg base CG W fi fd lk ys ds).sx kf' kl' mem' wo' cs' ns' H')(fnd:(aE kf' (cK (ce u p))).isSome=true)(ve:mN (bJ P w K mg base CG W fi fd lk ys ds).sx [ce u p] kf kf' wo wo' ns ns' L):
 (∃calls:List (Int×List Int),ns'=ns++ calls.map (fun m=>((some (.int m.1):Option V),m.2))/\calls.Perm (bY W.ws (ds.getD p .none) (dC wo p) (u+ 1)).2)/\(∀q k,q<W.m->k<W.n->dC wo' q k=if q=p then(bY W.ws (ds.getD p .none) (dC wo p) (u+ 1)).1 k else dC wo q k)/\wD wo':=by
 have n5:=O.n5
 have gvn:∀k p,k<W.n->(bJ P w K mg base CG W fi fd lk ys ds).sx.gv (ce k p).1 (ce k p).2.1=none:=fun k p hk=>gv26 (by omega)
 have Vc:∀k,k<W.n->(bJ P w K mg base CG W fi fd lk ys ds).sx.Vc (ce k p):=fun k hk=>⟨rfl,by show cn (k+ 1)∈W.B.ord;rw[O.od];exact List.mem_map.mpr ⟨k+ 1,List.mem_range.mpr (by omega),rfl⟩,hp⟩
 have allf:∀j,j<=u->(aE kf' (cK (ce (u- j) p))).isSome=true:=fun j=>by
  induction j with
  |zero=>exact fun _=>fnd
  |succ j ih=>
   intro hj
   obtain⟨v,e⟩:=Option.isSome_iff_exists.mp (ih (by omega))
   have:=S'.cz (ce (u- j) p) v (Vc _ (by omega)) (gvn _ _ (by omega)) e (ce (u- (j+ 1)) p)
   refine this ?_ (gvn _ _ (by omega))
   rw[a3E (by omega),List.mem_singleton]
   show((("t":Str),cn (u- (j+ 1)+ 1),p):aU)=(("t":Str),cn (u- j),p)
   rw[show u- (j+ 1)+ 1=u- j by omega]
 have allf':∀k,k<=u->(aE kf' (cK (ce k p))).isSome=true:=fun k hk=>by
  have:=allf (u- k) (by omega)
  rwa [show u- (u- k)=k by omega]at this
 have sm:∀k,∃b,Sm b (bK W.ws (ds.getD p .none) k):=fun k=>⟨_,pM (hv p hp) k⟩
 let Lv:List aU:=(List.range (u+ 1)).map fun k=>ce k p
 have jN:∀y∈L,y∈Lv:=fun y hy=>by
  obtain⟨_,_,_,x,hx,hd⟩:=ve.mem y hy
  rw[List.mem_singleton.mp hx]at hd
  obtain⟨k,hk,rfl⟩:=a7E (by omega) hd
  exact List.mem_map.mpr ⟨k,List.mem_range.mpr (by omega),rfl⟩
 have ndv:Lv.Nodup:=by
  show((List.range (u+ 1)).map fun k=>ce k p).Nodup
  rw[List.nodup_iff_pairwise_ne,List.pairwise_map]
  refine List.Pairwise.imp_of_mem (fun{a b} ha hb hab y=> ?_) (List.nodup_iff_pairwise_ne.mp List.nodup_range)
  have ha:=List.mem_range.mp ha
  have hb:=List.mem_range.mp hb
  have:=nL (j:=a+ 1) (k:=b+ 1) (by omega) (by omega) (congrArg (fun z:aU=>z.2.1) y)
  omega
 have old:∀k,k<=u->ce k p∉L->isT (bK W.ws (ds.getD p .none) k)=false->∃v,wo (ce k p)=some ([eS (bK W.ws (ds.getD p .none) k)],v):=fun k hk hn hT=>by
  have hf:=allf' k hk
  rw[ve.fnd _ (gvn _ _ (by omega)) hn]at hf
  obtain⟨v,e⟩:=Option.isSome_iff_exists.mp hf
  have h2:=(S.fp _ v (Vc k (by omega)) (gvn _ _ (by omega)) e).2
  rw[pA (by omega),hT,if_neg Bool.false_ne_true]at h2
  exact⟨v,h2 _ rfl⟩
 have hcall:∀k,k<=u->kR (bJ P w K mg base CG W fi fd lk ys ds).sx wo (ce k p)=(dq W.ws (ds.getD p .none) (dC wo p) k).map fun m=>(some (.int m.1),m.2):=fun k hk=>a79 O (by omega) (fun is v e=>w1 _ is v e) (sm k)
 have need:∀y∈Lv,kR (bJ P w K mg base CG W fi fd lk ys ds).sx wo y≠none->y∈L:=fun y hy hn'=>by
  cases Classical.em (y∈L)with
  |inl h=>exact h
  |inr h=>
   exfalso
   obtain⟨k,hk,rfl⟩:=List.mem_map.mp hy
   have hk:=List.mem_range.mp hk
   apply hn'
   rw[hcall k (by omega)]
   unfold dq
   cases hT:isT (bK W.ws (ds.getD p .none) k)with
   |true=>rw[if_neg (fun y=>by cases y.1)];rfl
   |false=>
    obtain⟨v,e⟩:=old k (by omega) h hT
    have:dC wo p k=some (eS (bK W.ws (ds.getD p .none) k)):=by
     unfold dC
     rw[show wo ("t",cn (k+ 1),p)=_ from e]
     rfl
    rw[if_neg (fun y=>y.2 this)]
    rfl
 have perm:=a16 ve.nd ndv jN need
 have eR:Lv.filterMap (kR (bJ P w K mg base CG W fi fd lk ys ds).sx wo)=(bY W.ws (ds.getD p .none) (dC wo p) (u+ 1)).2.map fun m=>((some (.int m.1):Option V),m.2):=by
  rw[a3F]
  show((List.range (u+ 1)).map fun k=>ce k p).filterMap _=_
  rw[List.filterMap_map,List.map_filterMap]
  exact a2A fun k hk=>hcall k (by have:=List.mem_range.mp hk;omega)
 rw[eR]at perm
 refine⟨?_,fun q k hq hk=> ?_,fun y is v e=> ?_⟩
 ·let f:Int×List Int->Option V×List Int:=fun m=>(some (.int m.1),m.2)
  let g:Option V×List Int->Int×List Int:=fun x=>(match x.1 with|some (.int i)=>i|_=>0,x.2)
  have gf:∀m,g (f m)=m:=fun m=>rfl
  refine⟨(L.filterMap (kR (bJ P w K mg base CG W fi fd lk ys ds).sx wo)).map g,?_,?_⟩
  ·rw[ve.ns,List.map_map]
   congr 1
   refine(List.map_id _).symm.trans (List.map_congr_left fun x hx=> ?_)
   obtain⟨m,_,rfl⟩:=List.mem_map.mp (perm.mem_iff.mp hx)
   rfl
  ·have:=perm.map g
   rw[List.map_map,show(g ∘ fun m:Int×List Int=>((some (.int m.1):Option V),m.2))=id from funext gf,List.map_id]at this
   exact this
 ·by_cases e:q=p
  ·subst e
   rw[if_pos rfl,uO]
   by_cases hku:k<=u
   ·cases hT:isT (bK W.ws (ds.getD q .none) k)with
    |true=>
     rw[if_neg (fun y=>by cases y.2)]
     have:wo' (ce k q)=wo (ce k q):=by
      cases Classical.em (ce k q∈L)with
      |inl h=>exact ve.wov _ h (bK W.ws (ds.getD q .none) k) (by rw[pA (by omega),hT,if_pos rfl])
      |inr h=>exact ve.won _ h
     unfold dC
     rw[show wo' ("t",cn (k+ 1),q)=wo ("t",cn (k+ 1),q) from this]
    |false=>
     rw[if_pos ⟨by omega,rfl⟩]
     obtain⟨v,ev⟩:=Option.isSome_iff_exists.mp (allf' k hku)
     have h2:=(S'.fp _ v (Vc k hk) (gvn _ _ hk) ev).2
     rw[pA (by omega),hT,if_neg Bool.false_ne_true]at h2
     unfold dC
     rw[show wo' ("t",cn (k+ 1),q)=_ from h2 _ rfl]
     rfl
   ·rw[if_neg (fun y=>by omega)]
    have:wo' (ce k q)=wo (ce k q):=ve.won _ fun hm=>by
     obtain⟨j,hj,e⟩:=List.mem_map.mp (jN _ hm)
     have hj:=List.mem_range.mp hj
     have:=nL (j:=j+ 1) (k:=k+ 1) (by omega) (by omega) (congrArg (fun z:aU=>z.2.1) e)
     omega
    unfold dC
    rw[show wo' ("t",cn (k+ 1),q)=wo ("t",cn (k+ 1),q) from this]
  ·rw[if_neg e]
   have:wo' (ce k q)=wo (ce k q):=ve.won _ fun hm=>by
    obtain⟨j,hj,e'⟩:=List.mem_map.mp (jN _ hm)
    exact e (congrArg (fun z:aU=>z.2.2) e').symm
   unfold dC
   rw[show wo' ("t",cn (k+ 1),q)=wo ("t",cn (k+ 1),q) from this]
 ·cases Classical.em (y∈L)with
  |inr h=>exact w1 y is v (by rw[<- ve.won y h];exact e)
  |inl h=>
   obtain⟨k,hk,rfl⟩:=List.mem_map.mp (jN y h)
   have hk:=List.mem_range.mp hk
   cases hT:isT (bK W.ws (ds.getD p .none) k)with
   |true=>exact w1 _ is v (by rw[<- ve.wov _ h (bK W.ws (ds.getD p .none) k) (by rw[pA (by omega),hT,if_pos rfl])];exact e)
   |false=>
    obtain⟨v',ev⟩:=Option.isSome_iff_exists.mp (allf' k (by omega))
    have h2:=(S'.fp _ v' (Vc k (by omega)) (gvn _ _ (by omega)) ev).2
    rw[pA (by omega),hT,if_neg Bool.false_ne_true]at h2
    have h3:=h2 _ rfl
    rw[h3]at e
    cases e
    exact⟨_,rfl⟩
end
section
def mJ(P:Program)(w:World)(K:Fg)(mg:Str->Option Value)(base:Heap)(CG:Addr):Addr->Sp->Prop:=fun C sp=>C=CG/\sp=rR P w K mg base C
structure eG(P:Program)(w:World)(K:Fg)(mg:Str->Option Value)(base:Heap)(CS CF CB CT CG zt:Addr)(W:bR)(fi fd lk:Addr)(ys:List V)(ds:List PyData)(kf kl:List (Ky×V))(mem:Str->Str->List (aB×V))(wo:aU->Option (List Int×V))(cs:List V)(ns:List (Option V×List Int))(csh:List V)(wl:Nat->Nat->Option Int)(H:Hp):Prop where
 sb:SB P w K mg base (mJ P w K mg base CG) CF CB CT zt (bJ P w K mg base CG W fi fd lk ys ds).sx kf kl mem wo cs ns H
 sh:∃dx,H W.s=some (.ins CS dx (dW W.bd W.ch fi))
 ch:H W.ch=some (.lst csh)
 fl:fd≠lk
 ly:ys.length=W.m
 ld:ds.length=W.m
 py:dE K H ys ds
 sd:∀d∈ds,Sm 12 d
 w1:wD wo
 zs:∃zs,H W.vl=some (.lst zs)/\dE K H zs ds
 wy:H W.wa=some (.lst (W.ws.map V.int))
 lo:H W.la=some (.lst ((List.range W.m).map fun q=>V.ref (W.lr q)))
 ls:∀q,q<W.m->∃ls,H (W.lr q)=some (.lst ls)/\iV W.n ls (wl q)
variable{W:bR}{mem:Str->Str->List (aB×V)}{wl:Nat->Nat->Option Int}
theorem eG.ok(N:eG P w K mg base CS CF CB CT CG zt W fi fd lk ys ds kf kl mem wo cs ns csh wl H)(O:fP W):gU (bJ P w K mg base CG W fi fd lk ys ds).sx:=a7g (a4B O N.fl N.ly N.ld N.sd)
theorem eG.colA(N:eG P w K mg base CS CF CB CT CG zt W fi fd lk ys ds kf kl mem wo cs ns csh wl H)(O:fP W):H W.lA=some (.lst ys):=by
 obtain⟨l,h1,h2⟩:=N.sb.cols "t" "a" ys W.B (by show(if("t":Str)= "t" then(if("a":Str)= "a" then some ys else none) else none)=some ys;rw[if_pos rfl,if_pos rfl]) (List.mem_singleton.mpr rfl)
 rw[O.k1]at h1
 cases h1
 exact h2
theorem eG.fxl(N:eG P w K mg base CS CF CB CT CG zt W fi fd lk ys ds kf kl mem wo cs ns csh wl H)(O:fP W):∀b∈W.fx,∃zs,H b=some (.lst zs):=fun b hb=>by
 have hB:=N.sb.F _ (List.mem_singleton.mpr rfl)
 have b1:H W.B.r=some (.lst W.B.xs):=hB.B.tab.rows
 have b2:H W.B.od=some (.lst (W.B.ord.map V.str)):=hB.B.ord
 unfold bR.fx at hb
 simp only[List.mem_cons]at hb
 rcases hb with rfl|rfl|rfl|rfl|rfl|rfl|rfl|rfl|hb
 ·exact⟨_,N.ch⟩
 ·exact⟨_,b1⟩
 ·exact⟨_,b2⟩
 ·exact⟨_,N.colA O⟩
 ·exact⟨_,N.sb.ca.2 _ rfl⟩
 ·exact N.zs.imp fun _ e=>e.1
 ·exact⟨_,N.wy⟩
 ·exact⟨_,N.lo⟩
 ·obtain⟨q,hq,rfl⟩:=List.mem_map.mp hb
  exact(N.ls q (List.mem_range.mp hq)).imp fun _ e=>e.1
theorem xG{X:X1}{t:Str}{B:BM}(h:(t,B)∈X.sx.tabs):t=X.nm/\B=X.B:=Prod.mk.inj (List.mem_singleton.mp h)
theorem kC{t:Str}{R:RD}(h:(bJ P w K mg base CG W fi fd lk ys ds).sx.rl t c=some R):t= "t" /\∃k,k<W.n/\c=cn (k+ 1)/\R=mU P w K mg base CG W k:=by
 obtain⟨h1,h2⟩:=X1.rl_some (Y:=bJ P w K mg base CG W fi fd lk ys ds) h
 exact⟨h1,iU h2⟩
theorem eG.sbD(N:eG P w K mg base CS CF CB CT CG zt W fi fd lk ys ds kf kl mem wo cs ns csh wl H)(O:fP W)(D:List Addr)(hD:∀b∈D,b∈W.fx/\b≠W.B.r/\b≠W.B.od/\b≠W.lA/\b≠W.ca)(k1:∀b o,H b=some o->(∀y,o≠ .lst y)->(∀u,o≠Fz u)->H' b=some o)(k2:∀b ys,b∉D->H b=some (.lst ys)->H' b=some (.lst ys))(k3:∀b∈D,H' b≠none)(tb':fM mE H' zt):SB P w K mg base (mJ P w K mg base CG) CF CB CT zt (bJ P w K mg base CG W fi fd lk ys ds).sx kf kl mem wo cs ns H':=by
 have kt:bS H H':=fun a xs e=>k1 _ _ e nk nk
 have hca:=N.sb.ca.2 W.ca rfl
 refine N.sb.mv D k1 k2 (fun b hb y=> ?_) (fun b hb=>(hD b hb).1) (fun b hb tb htb=> ?_) (fun b hb t c ys' B g h e=> ?_) (fun b hb t c R hR hm=> ?_) ⟨fun y=>(by cases y),fun a e=> ?_⟩ (fun h=>Paired.imp (fun a b h=>h.mv kt (fun b ys n e=>k2 b ys (fun hm=>n (hD b hm).1) e)) (N.sb.nt h)) tb'
 ·obtain⟨zs,e⟩:=N.fxl O b hb
  cases Classical.em (b∈D)with
  |inl h=>exact k3 b h y
  |inr h=>rw[k2 _ _ h e]at y;cases y
 ·rw[List.mem_singleton.mp htb]
  exact⟨(hD b hb).2.1,(hD b hb).2.2.1⟩
 ·obtain⟨rfl,rfl⟩:=xG h
  have g1:(bJ P w K mg base CG W fi fd lk ys ds).gv c=some ys':=(X1.gv_some (Y:=bJ P w K mg base CG W fi fd lk ys ds) g).2
  obtain⟨rfl,rfl⟩:=oR g1
  have e:aE W.B.kvs (.inr "a":aB)=some (.ref b):=e
  rw[O.k1]at e
  exact(hD b hb).2.2.2.1 (V.ref.inj (Option.some.inj e)).symm
 ·obtain⟨_,k,hk,rfl,rfl⟩:=kC hR
  have hm:b∈ [W.gr k,W.nl k]:=hm
  have gx:=O.gx k hk
  simp only[List.mem_cons,List.not_mem_nil,or_false]at hm
  rcases hm with rfl|rfl
  ·exact gx.1 (hD _ hb).1
  ·exact gx.2 (hD _ hb).1
 ·have e:some W.ca=some a:=e
  cases e
  exact k2 _ _ (fun hm=>(hD _ hm).2.2.2.2 rfl) hca
theorem eG.same(N:eG P w K mg base CS CF CB CT CG zt W fi fd lk ys ds kf kl mem wo cs ns csh wl H)(O:fP W)(s:aH H H'):eG P w K mg base CS CF CB CT CG zt W fi fd lk ys ds kf kl mem wo cs ns csh wl H':=
 ⟨N.sbD O [] (fun b hb=>by cases hb) (fun b o e _ _=>s _ _ e) (fun b ys _ e=>s _ _ e) (fun b hb=>by cases hb) (qA s N.sb.tb),N.sh.imp fun _ e=>s _ _ e,s _ _ N.ch,N.fl,N.ly,N.ld,N.py.keep (bS.of s),N.sd,N.w1,N.zs.imp fun _ e=>⟨s _ _ e.1,e.2.keep (bS.of s)⟩,s _ _ N.wy,s _ _ N.lo,fun q hq=>(N.ls q hq).imp fun _ e=>⟨s _ _ e.1,e.2⟩⟩
theorem eG.last(N:eG P w K mg base CS CF CB CT CG zt W fi fd lk ys ds kf kl mem wo cs ns csh wl H)(O:fP W)(hp:p<W.m)(u:aY (W.lr p) H H'){ls':List V}{wp:Nat->Option Int}(h':H' (W.lr p)=some (.lst ls'))(hl:iV W.n ls' wp):eG P w K mg base CS CF CB CT CG zt W fi fd lk ys ds kf kl mem wo cs ns csh (fun q=>if q=p then wp else wl q) H':=by
 obtain⟨l0,e0,_⟩:=N.ls p hp
 have nd:=O.nd
 unfold bR.fx at nd
 simp only[List.nodup_cons,List.mem_cons,not_or]at nd
 obtain⟨⟨_,_,_,_,_,_,_,a8⟩,⟨_,_,_,_,_,_,b7⟩,⟨_,_,_,_,_,c6⟩,⟨_,_,_,_,d5⟩,⟨_,_,_,e4⟩,⟨_,_,f3⟩,⟨_,g2⟩,h1,nr⟩:=nd
 have hm:W.lr p∈(List.range W.m).map W.lr:=List.mem_map.mpr ⟨p,List.mem_range.mpr hp,rfl⟩
 have ne:∀{x:Addr},x∉(List.range W.m).map W.lr->x≠W.lr p:=fun h y=>h (y▸hm)
 have k1:∀b o,H b=some o->(∀y,o≠ .lst y)->(∀u,o≠Fz u)->H' b=some o:=fun b o e n _=>u _ _ (fun y=>by rw[y,e0]at e;exact n _ (Option.some.inj e).symm) e
 have kt:bS H H':=fun a xs e=>k1 _ _ e nk nk
 refine⟨N.sbD O [W.lr p] (fun b hb=> ?_) k1 (fun b ys n e=>u _ _ (fun y=>n (by rw[y];exact List.mem_singleton.mpr rfl)) e) (fun b hb=> ?_) (nN N.sb.tb fun b o _ _ n e=>u _ _ (fun y=>by rw[y,e0]at e;exact n _ (Option.some.inj e).symm) e),N.sh.imp fun _ e=>k1 _ _ e nk nk,u _ _ (ne a8) N.ch,N.fl,N.ly,N.ld,N.py.keep kt,N.sd,N.w1,N.zs.imp fun _ e=>⟨u _ _ (ne f3) e.1,e.2.keep kt⟩,u _ _ (ne g2) N.wy,u _ _ (ne h1) N.lo,fun q hq=> ?_⟩
 ·rw[List.mem_singleton.mp hb]
  refine⟨?_,(ne b7).symm,(ne c6).symm,(ne d5).symm,(ne e4).symm⟩
  unfold bR.fx
  simp only[List.mem_cons]
  exact .inr (.inr (.inr (.inr (.inr (.inr (.inr (.inr hm)))))))
 ·rw[List.mem_singleton.mp hb,h']
  exact fun y=>by cases y
 ·by_cases e:q=p
  ·subst e
   rw[if_pos rfl]
   exact⟨ls',h',hl⟩
  ·rw[if_neg e]
   obtain⟨l,e1,e2⟩:=N.ls q hq
   refine⟨l,u _ _ (fun y=>e ?_) e1,e2⟩
   have:=List.pairwise_map.mp (List.nodup_iff_pairwise_ne.mp nr)
   rw[List.pairwise_iff_getElem]at this
   rcases Nat.lt_trichotomy q p with h|h|h
   ·exact absurd y (by have:=this q p (by rw[List.length_range];exact hq) (by rw[List.length_range];exact hp) h;simpa using this)
   ·exact h
   ·exact absurd y.symm (by have:=this p q (by rw[List.length_range];exact hp) (by rw[List.length_range];exact hq) h;simpa using this)
end
theorem iV.congr{m:Nat}{ls:List V}{wl wl':Nat->Option Int}(h:iV m ls wl)(e:∀p,p<m->wl p=wl' p):iV m ls wl':=⟨h.1,fun p hp=>by rw[<- e p hp];exact h.2 p hp⟩
theorem a0L(ws:List Int)(d:PyData)(wl:Nat->Option Int):∀n,((bY ws d wl n).2.Pairwise fun a b=>a.1<b.1)/\∀m∈(bY ws d wl n).2,m.1<(n:Int)
 |0=>⟨.nil,fun m hm=>by cases hm⟩
 |n+ 1=>by
  obtain⟨h1,h2⟩:=a0L ws d wl n
  rw[mS]
  unfold kY
  split
  ·refine⟨List.pairwise_append.mpr ⟨h1,List.pairwise_singleton ..,fun a ha b hb=> ?_⟩,fun m hm=> ?_⟩
   ·rw[List.mem_singleton.mp hb]
    exact h2 a ha
   ·rcases List.mem_append.mp hm with h|h
    ·have:=h2 m h
     omega
    ·rw[List.mem_singleton.mp h]
     show(n:Int)<((n+ 1:Nat):Int)
     omega
  ·exact⟨h1,fun m hm=>by have:=h2 m hm;omega⟩
theorem a0S{l:List (Int×List Int)}(h:l.Pairwise fun a b=>a.1<b.1):(l.map (·.1)).Nodup:=by
 rw[List.nodup_iff_pairwise_ne,List.pairwise_map]
 exact h.imp fun h y=>by omega
def MN(K:Fg)(H:Hp)(x:V)(m:Int×List Int):Prop:=∃t l,x= .ref t/\bU K H t [.int m.1,.ref l] /\aN K H l (m.2.map V.int)
noncomputable def jU (m:Int×List Int):PyData:=.tuple [.int m.1,.list (m.2.map .int)]
theorem MN.same(s:aH H H'){x:V}{m:Int×List Int}(h:MN K H x m):MN K H' x m:=by
 obtain⟨t,l,e1,e2,e3⟩:=h
 exact⟨t,l,e1,aH.seqT s e2,s.seq e3⟩
theorem xK{K:Fg}{H:Hp}:∀{ys:List V} {ms:List (Int×List Int)},Paired (MN K H) ys ms->dI K H ys (ms.map jU)
 |_,_,.nil=> .nil
 |_,_,.cons ⟨t,l,e,h1,h2⟩ r=>by
  subst e
  exact .cons (.tup h1 (.cons (.int _) (.cons (.lst h2 (pW _)) .nil))) (xK r)
theorem a1N{K:Fg}{H:Hp}:∀{ys:List V} {ms:List (Int×List Int)},Paired (MN K H) ys ms->oA K H ys (ms.map (·.1))
 |_,_,.nil=> .nil
 |_,_,.cons ⟨t,l,e,h1,_⟩ r=> .cons ⟨t,.ref l,e,h1⟩ (a1N r)
theorem a03{K:Fg}{H:Hp}{fx:List Addr}:∀{cs:List V} {calls:List (Int×List Int)},Paired (lY fx H) cs (calls.map fun m=>((some (.int m.1):Option V),m.2))->Paired (MN K H) cs calls
 |_,[],.nil=> .nil
 |_,_::_,.cons ⟨lc,h1,_⟩ t=>by
  obtain⟨tp,e1,e2⟩:=h1.2.2 _ rfl
  exact .cons ⟨tp,lc,e1,bU.of e2,aN.of h1.1⟩ (a03 t)
theorem a8c{calls due:List (Int×List Int)}{p:Array Nat}(h:Paired (MN K H) cs calls)(perm:calls.Perm due)(inc:due.Pairwise fun a b=>a.1<b.1)(hs:p.size=cs.length)(hp:p.Perm (List.toArray (List.range cs.length)))(sd:Sd (jP (calls.map (·.1))) p cs.length):Paired (MN K H) (p.toList.map fun i=>cs.getD i .non) due:=by
 have hl:cs.length=calls.length:=Paired.length h
 have nd:(calls.map (·.1)).Nodup:=(perm.map (·.1)).nodup_iff.mpr (a0S inc)
 have h1:=a3y (0,[]) h (is:=p.toList) fun i hi=>sH hp hi
 have p1:(p.toList.map fun i=>calls.getD i (0,[])).Perm calls:=a3V calls (0,[]) (by rw[<- hl];exact hp)
 have nd1:((p.toList.map fun i=>calls.getD i (0,[])).map (·.1)).Nodup:=(p1.map (·.1)).nodup_iff.mpr nd
 have s1:(p.toList.map fun i=>calls.getD i (0,[])).Pairwise fun a b=>¬b.1<a.1:=by
  refine a8J ?_
  refine List.Pairwise.imp_of_mem (fun{i j} hi hj e=> ?_) (a5m hs sd)
  unfold jP at e
  rw[decide_eq_false_iff_not]at e
  have g:∀i,i<calls.length->(calls.map (·.1)).getD i 0=(calls.getD i (0,[])).1:=fun i hi=>by
   rw[List.getD_eq_getElem?_getD,List.getD_eq_getElem?_getD,List.getElem?_map,List.getElem?_eq_getElem hi]
   rfl
  rw[g i (by rw[<- hl];exact sH hp hi),g j (by rw[<- hl];exact sH hp hj)]at e
  exact e
 have s2:(p.toList.map fun i=>calls.getD i (0,[])).Pairwise fun a b=>a.1<b.1:=by
  have n2:=List.pairwise_map.mp (List.nodup_iff_pairwise_ne.mp nd1)
  exact(s1.and n2).imp fun h=>by have:=h.1;have:=h.2;omega
 have e:(p.toList.map fun i=>calls.getD i (0,[]))=due:=a0Y (r:=fun a b=>a.1<b.1) (fun a b h1 h2=>by omega) (p1.trans perm) s2 inc
 rw[e]at h1
 exact h1
section
variable{W:bR}{kl':List (Ky×V)}{mem mem':Str->Str->List (aB×V)}{L:List aU}
theorem eG.cell{u:Nat}(N:eG P w K mg base CS CF CB CT CG zt W fi fd lk ys ds kf kl mem wo cs ns csh (fun q=>if q=p then(bY W.ws (ds.getD p .none) (dC wo p) (u+ 1)).1 else dC wo q) H)(O:fP W)(hu:u<W.n)(hp:p<W.m)(S':SB P w K mg base (mJ P w K mg base CG) CF CB CT zt (bJ P w K mg base CG W fi fd lk ys ds).sx kf' kl' mem' wo' cs' ns' H')(f:dA (bJ P w K mg base CG W fi fd lk ys ds).sx zt H H')(fnd:(aE kf' (cK (ce u p))).isSome=true)(ve:mN (bJ P w K mg base CG W fi fd lk ys ds).sx [ce u p] kf kf' wo wo' ns ns' L):
 (∃calls:List (Int×List Int),ns'=ns++ calls.map (fun m=>((some (.int m.1):Option V),m.2))/\calls.Perm (bY W.ws (ds.getD p .none) (dC wo p) (u+ 1)).2)/\eG P w K mg base CS CF CB CT CG zt W fi fd lk ys ds kf' kl' mem' wo' cs' ns' csh (dC wo') H':=by
 have hv:∀p,p<W.m->Sm 12 (ds.getD p .none):=fun p hp=>by
  rw[List.getD_eq_getElem?_getD,List.getElem?_eq_getElem (by rw[N.ld];exact hp)]
  exact N.sd _ (List.getElem_mem _)
 obtain⟨h1,h2,h3⟩:=vo26 O hv hu hp N.w1 N.sb S' fnd ve
 have nd:=O.nd
 unfold bR.fx at nd
 simp only[List.nodup_cons,List.mem_cons,not_or]at nd
 obtain⟨⟨_,_,_,a4,_,_,_,_⟩,_,_,_,⟨e1,e2,e3,e4⟩,_,_,_,_⟩:=nd
 have k:∀{b:Addr} {o:HO},H b=some o->(∀y,o≠ .dT y)->(∀y,o≠ .dK y)->(∀y,o≠ .ext y)->b≠W.ca->H' b=some o:=fun e n1 n2 n3 n4=>N.sb.k f e n1 n2 n3 (fun y=>n4 (Option.some.inj y).symm)
 have hca:=N.sb.ca.2 W.ca rfl
 have nl:∀{b:Addr} {o:HO},H b=some o->(∀y,o≠ .lst y)->b≠W.ca:=fun e n y=>by rw[y,hca]at e;exact n _ (Option.some.inj e).symm
 have kl1:∀{b:Addr} {zs:List V},H b=some (.lst zs)->b≠W.ca->H' b=some (.lst zs):=fun e n=>k e nk nk nk n
 have kt:bS H H':=fun b xs e=>k e nk nk nk (nl e nk)
 refine⟨h1,S',N.sh.imp fun _ e=>k e nk nk nk (nl e nk),kl1 N.ch a4,N.fl,N.ly,N.ld,N.py.keep kt,N.sd,h3,N.zs.imp fun _ e=>⟨kl1 e.1 (fun y=>e1 y.symm),e.2.keep kt⟩,kl1 N.wy (fun y=>e2 y.symm),kl1 N.lo (fun y=>e3 y.symm),fun q hq=> ?_⟩
 obtain⟨ls,l1,l2⟩:=N.ls q hq
 refine⟨ls,kl1 l1 (fun y=>e4 (y▸List.mem_map.mpr ⟨q,List.mem_range.mpr hq,rfl⟩)),l2.congr fun j hj=> ?_⟩
 rw[h2 q j hq hj]
 by_cases e:q=p
 ·rw[if_pos e,if_pos e]
 ·rw[if_neg e,if_neg e]
end
theorem dE.set{K:Fg}{H:Hp}{v:V}{d:PyData}(h:Pv K H v d):∀{vs:List V} {ds:List PyData} {i:Nat},dE K H vs ds->dE K H (vs.set i v) (ds.set i d)
 |_,_,_,.nil=> .nil
 |_,_,0,.cons _ t=> .cons h t
 |_,_,i+ 1,.cons h' t=> .cons h' (dE.set h t)
theorem vD{K:Fg}{H:Hp}:∀{xs:List V} {ds:List PyData} {i:Nat} {v:V},dE K H xs ds->xs[i]?=some v->Pv K H v (ds.getD i .none)
 |_,_,0,_,.cons h _,e=>by cases e;exact h
 |_,_,i+ 1,_,.cons _ t,e=>vD (i:=i) t e
theorem rL{v:V}(h:cI xs (p:Int)=some v):xs[p]?=some v:=by
 by_cases hp:p<xs.length
 ·have e:=jB (i:=p) (List.getElem?_eq_getElem hp)
  rw[h]at e
  rw[List.getElem?_eq_getElem hp,Option.some.inj e]
 ·exfalso
  unfold cI at h
  cases e:gP xs.length (p:Int)with
  |none=>rw[e]at h;cases h
  |some j=>
   rw[e]at h
   have hj:j<xs.length:=(List.getElem?_eq_some_iff.mp h).1
   unfold gP at e
   split at e<;>simp at e<;>omega
section
variable{W:bR}{mem:Str->Str->List (aB×V)}{wl:Nat->Nat->Option Int}
theorem a6k(N:eG P w K mg base CS CF CB CT CG zt W fi fd lk ys ds kf kl mem wo cs ns csh wl H)(O:fP W)(hzs:H W.vl=some (.lst zs)){v:V}(hv:Pv K H v d)(hsm:Sm 12 d)(u:aY W.vl H H1)(h1:H1 W.vl=some (.lst (zs.set p v))):(∃dx,H1 W.s=some (.ins CS dx (dW W.bd W.ch fi)))/\H1 W.ch=some (.lst csh)/\(∃kb,H1 W.bd=some (.dK kb)/\aE kb (.inr "t":aB)=some (.ref W.B.b))/\cD CB CT H1 W.B/\H1 W.lA=some (.lst ys)/\Pv K H1 v d/\
 ∀H2 fi' fd' lk' c kb,nR CS CF W.s W.bd W.ch fi' fd' lk' (csh++ [.ref c]) kb H1 H2->aE kb (.inr "t":aB)=some (.ref W.B.b)->cD CB CT H2 W.B->H2 W.lA=some (.lst (ys.set p v))->(∀x o,x≠W.s->x≠W.ch->x≠W.lA->H1 x=some o->H2 x=some o)->
  eG P w K mg base CS CF CB CT CG zt W fi' fd' lk' (ys.set p v) (ds.set p d) [] [] mem wo cs ns (csh++ [.ref c]) wl H2:=by
 have nd:=O.nd
 have fxe:∀x,x∈W.fx↔x=W.ch\/ x=W.B.r\/ x=W.B.od\/ x=W.lA\/ x=W.ca\/ x=W.vl\/ x=W.wa\/ x=W.la\/ x∈(List.range W.m).map W.lr:=fun x=>by unfold bR.fx;simp only[List.mem_cons]
 unfold bR.fx at nd
 simp only[List.nodup_cons,List.mem_cons,not_or]at nd
 obtain⟨⟨a1,a2,a3,a4,a5,a6,a7,a8⟩,⟨b1,b2,b3,b4,b5,b6,b7⟩,⟨c1,c2,c3,c4,c5,c6⟩,⟨d1,d2,d3,d4,d5⟩,⟨e1,e2,e3,e4⟩,⟨f1,f2,f3⟩,⟨g1,g2⟩,i1,_⟩:=nd
 have k1:∀{b:Addr} {o:HO},H b=some o->(∀y,o≠ .lst y)->H1 b=some o:=fun e n=>u _ _ (fun y=>by rw[y,hzs]at e;exact n _ (Option.some.inj e).symm) e
 have hF:=N.sb.F _ (List.mem_singleton.mpr rfl)
 have hB:cD CB CT H1 W.B:=by
  obtain⟨⟨q1,t1⟩,⟨⟨q2,t2⟩,t3,t4⟩,t5,t6,t7⟩:=hF.B
  exact⟨⟨q1,k1 t1 nk⟩,⟨⟨q2,k1 t2 nk⟩,u _ _ b4 t3,k1 t4 nk⟩,k1 t5 nk,k1 t6 nk,u _ _ c3 t7⟩
 obtain⟨kb0,kb1,kb2⟩:=hF.bds
 have hA:=N.colA O
 have kt1:bS H H1:=fun b xs e=>k1 e nk
 refine⟨N.sh.imp fun _ e=>k1 e nk,u _ _ a5 N.ch,⟨kb0,k1 kb1 nk,kb2⟩,hB,u _ _ d2 hA,hv.keep kt1,fun H2 fi' fd' lk' c kb Fr kbv B2 l2 u2=> ?_⟩
 obtain⟨⟨dS',s2⟩,ch2,bd2,⟨df,fi2⟩,fd2,lk2,fl2,nfi,nfd,nlk⟩:=Fr
 have k2:∀{b:Addr} {o:HO},H b=some o->b∉ [W.vl,W.s,W.ch,W.lA] ->H2 b=some o:=fun{b o} e n=>by
  simp only[List.mem_cons,List.not_mem_nil,or_false,not_or]at n
  exact u2 b o n.2.1 n.2.2.1 n.2.2.2 (u b o n.1 e)
 obtain⟨dS,sS⟩:=N.sh
 have kn:∀{b:Addr} {o:HO},H b=some o->(∀y,o≠ .lst y)->(∀a b c,o≠ .ins a b c)->H2 b=some o:=fun{b o} e n1 n2=>k2 e (fun hm=>by
  simp only[List.mem_cons,List.not_mem_nil,or_false]at hm
  rcases hm with y|y|y|y<;>subst y
  ·rw[hzs]at e;exact n1 _ (Option.some.inj e).symm
  ·rw[sS]at e;exact n2 _ _ _ (Option.some.inj e).symm
  ·rw[N.ch]at e;exact n1 _ (Option.some.inj e).symm
  ·rw[hA]at e;exact n1 _ (Option.some.inj e).symm)
 have ns':∀{b:Addr} {zs:List V},H b=some (.lst zs)->b≠W.s:=fun e y=>by rw[y,sS]at e;cases e
 have kl2:∀{b:Addr} {zs:List V},H b=some (.lst zs)->b≠W.vl->b≠W.ch->b≠W.lA->H2 b=some (.lst zs):=fun e n1 n2 n3=>k2 e (by simp only[List.mem_cons,List.not_mem_nil,or_false,not_or];exact⟨n1,ns' e,n2,n3⟩)
 have kt2:bS H H2:=fun b xs e=>kn e nk (fun _ _ _ y=>by cases y)
 have hv2:=hv.keep kt2
 have py2:dE K H2 (ys.set p v) (ds.set p d):=dE.set hv2 (N.py.keep kt2)
 have vl2:H2 W.vl=some (.lst (zs.set p v)):=u2 _ _ (ns' hzs) (fun y=>a5 y.symm) (fun y=>d2 y.symm) h1
 have vin:W.vl∈W.fx/\W.ch∈W.fx/\W.lA∈W.fx:=⟨(fxe _).mpr (by simp),(fxe _).mpr (by simp),(fxe _).mpr (by simp)⟩
 have ftn:∀k,k<W.n->∀b∈ [W.gr k,W.nl k],b∉ [W.vl,W.s,W.ch,W.lA]:=fun k hk b hb=>by
  have gx:=O.gx k hk
  have gs:=O.gs k hk
  simp only[List.mem_cons,List.not_mem_nil,or_false,not_or]at hb|-
  rcases hb with rfl|rfl
  ·exact⟨fun y=>gx.1 (y▸vin.1),gs.1,fun y=>gx.1 (y▸vin.2.1),fun y=>gx.1 (y▸vin.2.2)⟩
  ·exact⟨fun y=>gx.2 (y▸vin.1),gs.2,fun y=>gx.2 (y▸vin.2.1),fun y=>gx.2 (y▸vin.2.2)⟩
 have S2:SB P w K mg base (mJ P w K mg base CG) CF CB CT zt (bJ P w K mg base CG W fi' fd' lk' (ys.set p v) (ds.set p d)).sx [] [] mem wo cs ns H2:=by
  refine SB.new N.sb [W.vl,W.s,W.ch,W.lA] (fun b hb=> ?_) (fun b o n e=>k2 e n) rfl rfl rfl (Nat.le_refl _) (fun t c R hR b hb=> ?_) (fun t c R hR=> ?_) (fun a e=> ?_) (fun b hb y=> ?_) (fun tb htb=> ?_) fd2 lk2 (fun t c ys' B g h=> ?_) (fun t c ys' q x g e=> ?_) (fun t c R hR q hq=> ?_) (fun x R hx hR=> .inl ⟨x,hx,rfl,rfl,rfl,rfl⟩) (fun t c R j hR hj=>False.elim hj)
  ·simp only[List.mem_cons,List.not_mem_nil,or_false]at hb
   rcases hb with rfl|rfl|rfl|rfl
   ·exact .inr ⟨_,hzs,vin.1⟩
   ·exact .inl ⟨_,_,_,sS⟩
   ·exact .inr ⟨_,N.ch,vin.2.1⟩
   ·exact .inr ⟨_,hA,vin.2.2⟩
  ·obtain⟨_,k,hk,rfl,rfl⟩:=kC hR
   exact ftn k hk b hb
  ·obtain⟨_,k,hk,rfl,rfl⟩:=kC hR
   exact aa
  ·have e:some W.ca=some a:=e
   cases e
   simp only[List.mem_cons,List.not_mem_nil,or_false,not_or]
   exact⟨e1,ns' (N.sb.ca.2 _ rfl),fun y=>a4 y.symm,fun y=>d1 y.symm⟩
  ·simp only[List.mem_cons,List.not_mem_nil,or_false]at hb
   rcases hb with rfl|rfl|rfl|rfl
   ·rw[vl2]at y;cases y
   ·rw[s2]at y;cases y
   ·rw[ch2]at y;cases y
   ·rw[l2]at y;cases y
  ·rw[List.mem_singleton.mp htb]
   exact⟨⟨df,fi2⟩,⟨kb,bd2,kbv⟩,B2,fd2,by decide⟩
  ·have g1:(bJ P w K mg base CG W fi' fd' lk' (ys.set p v) (ds.set p d)).gv c=some ys':=(X1.gv_some (Y:=bJ P w K mg base CG W fi' fd' lk' (ys.set p v) (ds.set p d)) g).2
   obtain⟨rfl,rfl⟩:=oR g1
   rw[(xG h).2]
   exact⟨W.lA,O.k1,l2⟩
  ·have g1:(bJ P w K mg base CG W fi' fd' lk' (ys.set p v) (ds.set p d)).gv c=some ys':=(X1.gv_some (Y:=bJ P w K mg base CG W fi' fd' lk' (ys.set p v) (ds.set p d)) g).2
   obtain⟨rfl,rfl⟩:=oR g1
   show Pd K H2 x ((bJ P w K mg base CG W fi' fd' lk' (ys.set p v) (ds.set p d)).v ("t",cn 0,q))
   rw[qD (by decide)]
   exact(vD py2 (rL e)).pd
  ·obtain⟨rfl,k,hk,rfl,rfl⟩:=kC hR
   refine lU.mv (fun b hb o e=>k2 e (ftn k hk b hb)) (N.sb.ra "t" (cn (k+ 1)) _ (zB O hk) q hq)
 refine⟨S2,⟨dS',s2⟩,ch2,fl2,by rw[List.length_set];exact N.ly,by rw[List.length_set];exact N.ld,py2,fun x hx=> ?_,N.w1,⟨_,vl2,?_⟩,kl2 N.wy (fun y=>f1 y.symm) (fun y=>a6 y.symm) (fun y=>d3 y.symm),kl2 N.lo (fun y=>f2 y.symm) (fun y=>a7 y.symm) (fun y=>d4 y.symm),fun q hq=> ?_⟩
 ·rcases List.mem_or_eq_of_mem_set hx with h|h
  ·exact N.sd x h
  ·rw[h];exact hsm
 ·obtain⟨zs',h',pz⟩:=N.zs
  rw[hzs]at h'
  cases h'
  exact dE.set hv2 (pz.keep kt2)
 ·obtain⟨ls,l1,l3⟩:=N.ls q hq
  have hm:W.lr q∈(List.range W.m).map W.lr:=List.mem_map.mpr ⟨q,List.mem_range.mpr hq,rfl⟩
  exact⟨ls,kl2 l1 (fun y=>f3 (y▸hm)) (fun y=>a8 (y▸hm)) (fun y=>d5 (y▸hm)),l3⟩
end
section
variable{X:SX}{mem:Str->Str->List (aB×V)}
theorem SB.clear(S:SB P w K mg base RG CF CB CT zt X kf kl mem wo cs ns H)(O:gU X)(hc:X.ca=some a)(u:aY a H H')(h':H' a=some (.lst [])):SB P w K mg base RG CF CB CT zt X kf kl mem wo [] [] H':=by
 have ha:=S.ca.2 a hc
 have k1:∀b o,H b=some o->(∀y,o≠ .lst y)->H' b=some o:=fun b o e n=>u b o (fun y=>by rw[y,ha]at e;exact n _ (Option.some.inj e).symm) e
 refine S.mv [a] (fun b o e n _=>k1 b o e n) (fun b ys n e=>u b _ (fun y=>n (by rw[y];exact List.mem_singleton.mpr rfl)) e) (fun b hb=> ?_) (fun b hb=> ?_) (fun b hb=> ?_) (fun b hb=> ?_) (fun b hb=> ?_) ⟨fun _=>rfl,fun b e=> ?_⟩ (fun h=> .nil) (nN S.tb fun b o _ _ n e=>k1 b o e n)
 ·by_cases e:b=a
  ·rw[e,h'];exact fun y=>by cases y
  ·cases e2:H b with
   |none=>exact absurd e2 (S.fx b hb)
   |some o=>rw[u b o e e2];exact fun y=>by cases y
 ·rw[List.mem_singleton.mp hb];exact O.cf a hc
 ·rw[List.mem_singleton.mp hb];exact fun tb htb=>⟨fun y=>(O.cc tb htb).1 (y▸hc),fun y=>(O.cc tb htb).2 (y▸hc)⟩
 ·rw[List.mem_singleton.mp hb];exact fun t c ys B g h e=>O.cl t c ys B a g h e hc
 ·rw[List.mem_singleton.mp hb];exact fun t c R hR hm=>(O.ft t c R hR).2 a hm hc
 ·rw[hc]at e
  cases e
  exact h'
end
section
variable{W:bR}{mem:Str->Str->List (aB×V)}{wl:Nat->Nat->Option Int}
theorem eG.clear(N:eG P w K mg base CS CF CB CT CG zt W fi fd lk ys ds kf kl mem wo cs ns csh wl H)(O:fP W)(u:aY W.ca H H')(h':H' W.ca=some (.lst [])):eG P w K mg base CS CF CB CT CG zt W fi fd lk ys ds kf kl mem wo [] [] csh wl H':=by
 have hca:=N.sb.ca.2 W.ca rfl
 have nd:=O.nd
 unfold bR.fx at nd
 simp only[List.nodup_cons,List.mem_cons,not_or]at nd
 obtain⟨⟨_,_,_,a4,_,_,_,_⟩,_,_,_,⟨e1,e2,e3,e4⟩,_,_,_,_⟩:=nd
 have k1:∀{b:Addr} {o:HO},H b=some o->(∀y,o≠ .lst y)->H' b=some o:=fun e n=>u _ _ (fun y=>by rw[y,hca]at e;exact n _ (Option.some.inj e).symm) e
 have kt:bS H H':=fun b xs e=>k1 e nk
 refine⟨N.sb.clear (N.ok O) rfl u h',N.sh.imp fun _ e=>k1 e nk,u _ _ a4 N.ch,N.fl,N.ly,N.ld,N.py.keep kt,N.sd,N.w1,N.zs.imp fun _ e=>⟨u _ _ (fun y=>e1 y.symm) e.1,e.2.keep kt⟩,u _ _ (fun y=>e2 y.symm) N.wy,u _ _ (fun y=>e3 y.symm) N.lo,fun q hq=> ?_⟩
 obtain⟨ls,l1,l2⟩:=N.ls q hq
 exact⟨ls,u _ _ (fun y=>e4 (y▸List.mem_map.mpr ⟨q,List.mem_range.mpr hq,rfl⟩)) l1,l2⟩
theorem a2P(u:Nat)(h:u<=4):∃ch,cI ("bcdef":Str).cps.toList (u:Int)=some ch/\(⟨#[ch]⟩:Str)=cn (u+ 1):=by
 rcases(show u=0\/ u=1\/ u=2\/ u=3\/ u=4 by omega)with rfl|rfl|rfl|rfl|rfl<;>exact⟨_,rfl,rfl⟩
theorem a7D(u:Nat)(h:u<=4):∃ch,cI ("abcde":Str).cps.toList (u:Int)=some ch/\(⟨#[ch]⟩:Str)=cn u:=by
 rcases(show u=0\/ u=1\/ u=2\/ u=3\/ u=4 by omega)with rfl|rfl|rfl|rfl|rfl<;>exact⟨_,rfl,rfl⟩
theorem a3s:∀ms:List (Int×List Int),PyData.canLayAll0 (ms.map jU)=true
 | []=>rfl
 |m::r=>by
  have h:=a09 [m.2]
  rw[List.map_cons,PyData.canLayAll0,a3s r,Bool.and_true]
  show PyData.canLayAll0 [.int m.1,.list (m.2.map .int)]=true
  rw[PyData.canLayAll0]
  exact h
theorem a1j:∀ms:List (Int×List Int),PyData.depthAll (ms.map jU)<=2
 | []=>by decide
 |m::r=>by
  have h1:=a1j r
  have h2:=a0V m.2
  show max (max 0 (max (PyData.depthAll (m.2.map .int)+ 1) 0)+ 1) (PyData.depthAll (r.map jU))<=2
  omega
end
abbrev rG:List Str:=["_law_script","_law_many","_law_sheet","_law_values","_law_ways","_law_calls","_law_at","_law_last","_law_k","_law_place","_law_upto","_law_value","_law_due_here"]
theorem iA:bA rG ["_law_script"] (aO gY):={}
section
def xS(Hz:Hp)(W:bR)(zt:Addr):Prop:=∀b o,Hz b=some o->b∉zt::W.s::W.fx/\(∀k,k<W.n->b≠W.mc k)/\∀y,o≠ .dT y
def jS(W:bR)(zt:Addr)(H H':Hp):Prop:=∀b o,b∉zt::W.s::W.fx->(∀k,k<W.n->b≠W.mc k)->(∀y,o≠ .dT y)->H b=some o->H' b=some o
theorem jS.z{W:bR}{Hz:Hp}(Z:xS Hz W zt)(s:aH Hz H)(f:jS W zt H H'):aH Hz H':=fun b o e=>f b o (Z b o e).1 (Z b o e).2.1 (Z b o e).2.2 (s b o e)
theorem jS.but{W:bR}{x:Addr}(hx:x∈W.fx)(u:aY x H H'):jS W zt H H':=fun b o n _ _ e=>u b o (fun y=>n (by rw[y];exact List.mem_cons_of_mem _ (List.mem_cons_of_mem _ hx))) e
theorem dA.fr26{W:bR}{mem:Str->Str->List (aB×V)}(S:SB P w K mg base RG CF CB CT zt (bJ P w K mg base CG W fi fd lk ys ds).sx kf kl mem wo cs ns H)(f:dA (bJ P w K mg base CG W fi fd lk ys ds).sx zt H H'):jS W zt H H':=fun b o n1 n3 n2 e=>by
 simp only[List.mem_cons,not_or]at n1
 refine f b o (fun y=>by rw[y,S.fd]at e;exact n2 _ (Option.some.inj e).symm) (fun y=>by rw[y,S.hl]at e;exact n2 _ (Option.some.inj e).symm) n1.1 (fun y=>n1.2.2 ?_) (fun t c R hR y=> ?_) e
 ·rw[<- Option.some.inj y]
  unfold bR.fx
  simp
 ·obtain⟨_,k,hk,rfl,rfl⟩:=kC hR
  exact n3 k hk y
def mF(P:Program)(w:World)(K:Fg)(mg:Str->Option Value)(base:Heap)(W:bR)(H:Hp):Prop:=∀k,k<W.n->iS P w K mg base 4 H (W.fa k) (some W.ca) (some (.int (k:Int))) (lK (W.ws.getD k 0)) lQ
theorem a7x{W:bR}(h:mF P w K mg base W H):lX P w K mg base (bJ P w K mg base CG W fi fd lk ys ds).sx H:=fun t c R hR=>by
 obtain⟨_,k,hk,rfl,rfl⟩:=kC hR
 exact h k hk
theorem mF.keep{W:bR}(k:cS H H')(h:mF P w K mg base W H):mF P w K mg base W H':=fun j hj=>(h j hj).keep k
theorem rs26{W:bR}(O:fP W):(bJ P w K mg base CG W fi fd lk ys ds).sx.Rs.length<=25:=by
 have n5:=O.n5
 have m5:=O.m5
 show(((List.range W.n).map fun k=>cn (k+ 1)).flatMap fun c=>(List.range W.m).map fun p=>((("t":Str),c,p):aU)).length<=25
 rw[xO (n:=W.m) (fun a=>by rw[List.length_map,List.length_range]),List.length_map,List.length_range]
 exact Nat.le_trans (Nat.mul_le_mul n5.2 m5.2) (by decide)
def yA(P:Program)(w:World)(K:Fg)(mg:Str->Option Value)(base:Heap)(CS CF CB CT CG zt:Addr)(W:bR)(i:Nat)(H:Hp):Prop:=mF P w K mg base W H/\∃(fi fd lk:Addr) (ys:List V) (ds:List PyData) (kf kl:List (Ky×V)) (mem:Str->Str->List (aB×V)) (wo:aU->Option (List Int×V)) (cs:List V) (ns:List (Option V×List Int)) (csh:List V),eG P w K mg base CS CF CB CT CG zt W fi fd lk ys ds kf kl mem wo cs ns csh (dC wo) H/\csh.length<=20+ i
abbrev kW(P:Program)(w:World)(K:Fg)(mg:Str->Option Value)(base:Heap)(f:Addr)(cdv:Value)(A:Around)(outer:List Env)(s:Shared)(H:Hp)(E:XK):Cx:=(dM aF P w K mg base rG "law" (aO gY) f cdv A outer s H E).nox
theorem Sm.eqv{b:Int}(h:Sm b d):PyData.eqv d d=true:=by
 rcases h with⟨n,rfl,_⟩|rfl
 ·simp[PyData.eqv]
 ·simp[uP,PyData.eqv,PyData.eqvAll]
theorem a3J:∀ns:List Int,PyData.eqvAll (ns.map .int) (ns.map .int)=true
 | []=>by simp[PyData.eqvAll]
 |n::r=>by simp[PyData.eqvAll,PyData.eqv,a3J r]
theorem a2b:∀ms:List (Int×List Int),PyData.eqvAll (ms.map jU) (ms.map jU)=true
 | []=>by simp[PyData.eqvAll]
 |m::r=>by
  rw[List.map_cons,PyData.eqvAll,a2b r,Bool.and_true]
  unfold jU
  simp[PyData.eqv,PyData.eqvAll,a3J]
theorem a65(T:bC K mg){CR CV:Addr}(Y:gA K mg CS)(R:nJ K mg CR)(F:eT K mg CF)(Wb:cV K mg CB)(U:dR K mg CT)(Ce:lE K mg CG)(VP:rB K mg CV){z2:Addr×Addr}(B2:kJ K mg "Finder" "gathered" "Finder.gathered" gO z2)(M2:jA mg base z2.1 z2.2)(A:Around)(outer:List Env)(s:Shared)(H:Hp)(Q:VK)(E:XK)(hr:bT 17 (A.deeper (PyProof.Rows.envOfC "law" (aO gY) s.heap.objs.size f cdv)))(q:∀H',qQ [z1,z2] H'->Q (.bl true) H'):
 ∃t,dU (kW P w K mg base f cdv A outer s H E) ((eC gY).drop 9) t/\
  ∀(H1 Hz:Hp) (W:bR) (a:Addr) (sc:List Int) (o6 o8 o9 o10 o11 o12:Option V),fP W->xS Hz W z2.2->aH Hz H1->yA P w K mg base CS CF CB CT CG z2.2 W 0 H1->aN K Hz a (sc.map V.int)->sc.length<=63->(∃S,Hz z1.2=some (eZ z1.2 S))->
   t {nx:=fun _ H'=>Q .non H',rt:=Q} [some (.ref a),some (.int (W.m:Int)),some (.ref W.s),some (.ref W.vl),some (.ref W.wa),some (.ref W.ca),o6,some (.ref W.la),o8,o9,o10,o11,o12] H1:=by
 have hRG:∀C sp,mJ P w K mg base CG C sp->cF K C/\aR P w K mg base aF 8 C "gather" ["self","look","many","table","column","place"] sp:=fun C sp h=>by
  obtain⟨rfl,rfl⟩:=h
  exact⟨Ce.cl,a6n T Ce⟩
 have G_vo:aR P w K mg base aF 11 CF "value_of" ["self","cell"] (qS P w K mg base (mJ P w K mg base CG) CF CB CT z2.2):=a4m T R F Wb U B2 M2 hRG
 have G_cell:aR P w K mg base aF 12 CS "cell" ["self","table","column","place"] (rP CS CF CB CT (qS P w K mg base (mJ P w K mg base CG) CF CB CT z2.2)):=a7O T Y F Wb U (by decide) G_vo
 have G_mixed:bH P w K mg base aF 1 "_law_mixed" ["_law_script","_law_k"] (oB K):=a04 T
 have G_due:bH P w K mg base aF 2 "_law_due" ["_law_ways","_law_value","_law_last","_law_upto"] (vZ K):=a5C T
 have G_put:aR P w K mg base aF 9 CS "put" ["self","table","column","place","value"] (zD K CS CF CB CT):=a4M T Y F Wb U VP
 refine⟨_,(aK (kH PassesOwn.never rfl (pK rfl T.range (aA bD aI)) (fT (i:=8) iA.nd rfl ad)
  (aK (cH (i:=9) iA.nd rfl ad (cG gG (bV G_mixed hr.mn aS (aA (pv 0) (aA (cG gZ bD (cG nE bD (pv 8))) aI))) (pv 1)))
  (aK (cA (a1B PySem.F.plainAttrs_list PySem.F.slot_list_clear PySem.F.type_list_clear a5o (pv 5)))
  (aL (bL (cN mO (cG gG (bV G_mixed hr.mn aS (aA (pv 0) (aA (cG gZ bD (cG nE bD (pv 8))) aI))) bD) bD (cX _))
   (aK (sP (cG gG (bV G_mixed hr.mn aS (aA (pv 0) (aA (cG gZ bD (cG nE bD (pv 8))) aI))) bD) (zU (pv 3) (pv 9) yX (fun _=>rfl)))
   (aK (cA (cC (pv 2) Y.cl G_put hr.mn aS (aA fX (aA fX (aA (pv 9) (aA (cM iD (pv 3) (pv 9) (fun _ _=>rfl)) aI))))))
   (aL (bL (cN (nG hr.units) (pv 5) (gW aI) (cX _)) (aL (bN qG)) bO))))
   (aK (cH (i:=10) iA.nd rfl ad (cG gG (bV G_mixed hr.mn aS (aA (pv 0) (aA (cG gZ bD (cG nE bD (pv 8))) aI))) (dQ jJ rfl T.len iE (aA (pv 4) aI))))
   (aK (sP (bV G_due hr.mn aS (aA (pv 4) (aA (cM iD (pv 3) (pv 9) (fun _ _=>rfl)) (aA (cM iD (pv 7) (pv 9) (fun _ _=>rfl)) (aA (pv 10) aI))))) (wJ rfl (nF (fT (i:=11) iA.nd rfl ad) (nF (fT (i:=12) iA.nd rfl ad) zR))))
   (aL (bL (PW.pt (iY (cN (nG hr.units) (cC (pv 2) Y.cl G_cell hr.mn aS (aA fX (aA (cM xN fX (pv 10) (fun _ _=>rfl)) (aA (pv 9) aI)))) (pv 11) (cX _)) (jM (cN (nG hr.units) (dQ a4j rfl T.sorted a74 (aA (pv 5) aI)) (pv 12) (cX _))))) (aL (bN qG)) bO)))))))))
  (aL (bN qG))),?_⟩
 intro H1 Hz W a sc o6 o8 o9 o10 o11 o12 O Z old1 L1 hS hl hz1
 have n5:=O.n5
 have m5:=O.m5
 have lx:W.B.xs.length=W.m:=by rw[O.xs,pR]
 have caf:W.ca∈W.fx:=by unfold bR.fx;simp
 have vlf:W.vl∈W.fx:=by unfold bR.fx;simp
 have lrf:∀{p},p<W.m->W.lr p∈W.fx:=fun{p} hp=>by
  unfold bR.fx
  simp only[List.mem_cons]
  exact .inr (.inr (.inr (.inr (.inr (.inr (.inr (.inr (List.mem_map.mpr ⟨p,List.mem_range.mpr hp,rfl⟩))))))))
 refine⟨_,rfl,by decide,by decide,?_⟩
 refine yP (lo:=0) (n:=(12:Int).toNat) (fun i σ Hi=>∃o8 o9 o10 o11 o12,σ= [some (.ref a),some (.int (W.m:Int)),some (.ref W.s),some (.ref W.vl),some (.ref W.wa),some (.ref W.ca),o6,some (.ref W.la),o8,o9,o10,o11,o12] /\aH Hz Hi/\yA P w K mg base CS CF CB CT CG z2.2 W i Hi) ⟨_,_,_,_,_,rfl,old1,L1⟩ ?_ ?_
 ·rintro i σ Hi hi ⟨o8,o9,o10,o11,o12,rfl,oldi,fw,L⟩
  have hi:i<12:=hi
  obtain⟨fi,fd,lk,ys,ds,kf,kl,mem,wo,cs,ns,csh,N,lc⟩:=L
  rw[Int.zero_add]
  refine⟨_,rfl,_,rfl,_,_,rfl,rfl,.inl ⟨by decide,by decide⟩,_,_,rfl,rfl,a,sc,_,rfl,oldi.seq hS,hl,by omega,by omega,fun m1 h1 h2=>⟨_,rfl,_,_,rfl,rfl,by omega,?_⟩⟩
  have e1:=Int.emod_nonneg m1 (show(W.m:Int)≠0 by omega)
  have e2:=Int.emod_lt_of_pos m1 (show(0:Int)<(W.m:Int)by omega)
  obtain⟨p,hp'⟩:∃p:Nat,m1% (W.m:Int)=(p:Int):=⟨(m1% (W.m:Int)).toNat,by omega⟩
  have hp:p<W.m:=by omega
  have hca:=N.sb.ca.2 W.ca rfl
  refine⟨_,rfl,.inl ⟨rfl,_,aN.of hca⟩,W.ca,_,rfl,rfl,hca,?_⟩
  have u2:aY W.ca Hi (upd Hi W.ca (.lst [])):=aY.upd
  have c2:upd Hi W.ca (.lst []) W.ca=some (.lst []):=aJ
  generalize upd Hi W.ca (.lst [])=H2 at u2 c2|-
  have N2:=N.clear O u2 c2
  have old2:aH Hz H2:=jS.z Z oldi (jS.but caf u2)
  have fw2:mF P w K mg base W H2:=fw.keep (cS.but u2 hca nk)
  obtain⟨zs,hvl,pz⟩:=N2.zs
  have lz:zs.length=W.m:=by rw[Paired.length pz,N.ld]
  refine⟨_,rfl,_,rfl,_,_,rfl,rfl,.inl ⟨by decide,by decide⟩,_,_,rfl,rfl,a,sc,_,rfl,old2.seq hS,hl,by omega,by omega,fun m2 h3 h4=>⟨_,_,rfl,rfl,(show(0:Int)<2 by decide),rfl,_,rfl,?_⟩⟩
  refine cW (fun _=> ?_) (fun _=> ?_)
  ·
   refine⟨_,rfl,_,rfl,_,_,rfl,rfl,.inl ⟨by decide,by decide⟩,_,_,rfl,rfl,a,sc,_,rfl,old2.seq hS,hl,by omega,by omega,fun m3 h5 h6=>⟨_,_,rfl,rfl,(show(0:Int)<12 by decide),?_⟩⟩
   have g1:=Int.emod_nonneg m3 (show(12:Int)≠0 by decide)
   have g2:=Int.emod_lt_of_pos m3 (show(0:Int)<12 by decide)
   have pvv:Pv K H2 (.int (m3% 12)) (.int (m3% 12)):=.inl ⟨_,rfl,rfl,rY _ (by omega) (by omega)⟩
   refine⟨_,rfl,_,rfl,W.vl,zs,m1% (W.m:Int),p,rfl,rfl,hvl,by rw[hp',uF (by omega) (by omega),Int.toNat_natCast],?_⟩
   have u4:aY W.vl H2 (upd H2 W.vl (.lst (zs.set p (.int (m3% 12))))):=aY.upd
   have v4:upd H2 W.vl (.lst (zs.set p (.int (m3% 12)))) W.vl=some (.lst (zs.set p (.int (m3% 12)))):=aJ
   generalize upd H2 W.vl (.lst (zs.set p (.int (m3% 12))))=H4 at u4 v4|-
   obtain⟨⟨dS,sS⟩,ch4,⟨kb,bd4,kbv⟩,B4,lA4,pv4,fin⟩:=a6k N2 O hvl pvv (.inl ⟨_,rfl,g1,by omega⟩) u4 v4
   have nd:=O.nd
   unfold bR.fx at nd
   simp only[List.nodup_cons,List.mem_cons,not_or]at nd
   obtain⟨⟨a1,a2,a3,a4,a5,a6,a7,a8⟩,⟨b1,b2,b3,b4,b5,b6,b7⟩,⟨c1,c2',c3,c4,c5,c6⟩,⟨d1,d2,d3,d4,d5⟩,⟨f1,f2,f3,f4⟩,_,_,_,_⟩:=nd
   refine⟨_,rfl,W.s,dS,_,rfl,sS,fL,_,rfl,_,rfl,_,rfl,W.vl,_,_,_,rfl,rfl,aN.of v4,by{rw[hp'];exact jB (List.getElem?_set_self (by omega))},W.s,W.bd,W.ch,W.lA,csh,kb,"t","a",p,_,_,ys,W.B,by{rw[<- hp'];rfl},⟨⟨dS,fi,sS⟩,ch4,bd4⟩,by omega,iZ.2,kbv,B4,O.ss,kQ (k:=0) (by decide),by{rw[O.od];exact List.mem_map.mpr ⟨0,List.mem_range.mpr (by omega),rfl⟩},O.r1,O.k1,lA4,by omega,by rw[lx];exact N.ly,pv4,fun y=>a3 y.symm,fun y=>b2 y.symm,fun y=>c1 y.symm,fun H5 fi' fd' lk' c Fr B5 l5 u5=> ?_⟩
   have N5:=fin H5 fi' fd' lk' c kb Fr kbv B5 l5 u5
   have kz5:cS H2 H5:=fun b u e=>u5 _ _ (fun y=>by rw[y,N2.sh.choose_spec]at e;cases e) (fun y=>by rw[y,N2.ch]at e;cases e) (fun y=>by rw[y,N2.colA O]at e;cases e) (u4 _ _ (fun y=>by rw[y,hvl]at e;cases e) e)
   have old5:aH Hz H5:=jS.z Z old2 fun b o n1 n3 n2 e=>by
    simp only[List.mem_cons,not_or]at n1
    have hx:∀x∈W.fx,b≠x:=fun x hx y=>n1.2.2 (y▸hx)
    exact u5 _ _ n1.2.1 (hx _ (by unfold bR.fx;simp)) (hx _ (by unfold bR.fx;simp)) (u4 _ _ (hx _ vlf) e)
   refine⟨_,rfl,sl,fun el hel=> ?_⟩
   have s6:=aH.new (o:=.lst []) hel
   have ca6:=s6 _ _ (N5.sb.ca.2 _ rfl)
   refine⟨.list [],.list [],.lst (aN.of ca6) .nil,.lst (aN.of aJ) .nil,rfl,rfl,by decide,_,rfl,bI ?_⟩
   refine⟨_,_,_,_,_,rfl,old5.trans s6,(fw2.keep kz5).keep (cS.of s6),fi',fd',lk',_,_,[],[],mem,wo,[],[],csh++ [.ref c],N5.same O s6,?_⟩
   rw[List.length_append]
   show csh.length+ 1<=20+ (i+ 1)
   omega
  ·
   have lws:(W.ws.map V.int).length=W.n:=List.length_map ..
   refine⟨_,rfl,_,rfl,_,_,rfl,rfl,.inl ⟨by decide,by decide⟩,_,_,rfl,rfl,a,sc,_,rfl,old2.seq hS,hl,by omega,by omega,fun m3 h5 h6=>⟨_,rfl,_,_,rfl,.inl ⟨_,aN.of N2.wy,rfl⟩,_,_,rfl,rfl,by omega,?_⟩⟩
   have g1:=Int.emod_nonneg m3 (show((W.ws.map V.int).length:Int)≠0 by omega)
   have g2:=Int.emod_lt_of_pos m3 (show(0:Int)<((W.ws.map V.int).length:Int)by omega)
   obtain⟨u,hu'⟩:∃u:Nat,m3% ((W.ws.map V.int).length:Int)=(u:Int):=⟨(m3% ((W.ws.map V.int).length:Int)).toNat,by omega⟩
   have hu:u<W.n:=by omega
   have hzp:zs[p]?=some (zs[p]'(by omega)):=List.getElem?_eq_getElem _
   have pvp:=vD pz hzp
   have smp:Sm 12 (ds.getD p .none):=by
    rw[List.getD_eq_getElem?_getD,List.getElem?_eq_getElem (by rw[N.ld];exact hp)]
    exact N.sd _ (List.getElem_mem _)
   obtain⟨ls,hls,lso⟩:=N2.ls p hp
   have hlo:((List.range W.m).map fun q=>V.ref (W.lr q))[p]?=some (.ref (W.lr p)):=by rw[List.getElem?_map,List.getElem?_range hp];rfl
   have nd:=O.nd
   unfold bR.fx at nd
   simp only[List.nodup_cons,List.mem_cons,not_or]at nd
   obtain⟨_,_,_,_,⟨f1,f2,f3,f4⟩,_,⟨_,w2⟩,_,_⟩:=nd
   have lrm:W.lr p∈(List.range W.m).map W.lr:=List.mem_map.mpr ⟨p,List.mem_range.mpr hp,rfl⟩
   refine⟨_,rfl,_,rfl,_,rfl,W.vl,_,_,_,rfl,rfl,aN.of hvl,by{rw[hp'];exact jB hzp},_,rfl,_,rfl,W.la,_,_,_,rfl,rfl,aN.of N2.lo,by{rw[hp'];exact jB hlo},_,rfl,W.wa,W.lr p,W.ws,_,_,dC wo p,ls,u,by{rw[<- hu'];rfl},N2.wy,pvp,smp,hls,lso,hu,n5.2,fun y=>w2 (y▸lrm),fun H3 tp du v' dv ls' b3 htp e3 hdu d3 pv3 dm3 l3 lo3=> ?_⟩
   refine⟨tp,_,rfl,bU.of e3,rfl,_,_,rfl,_,_,rfl,rfl,?_⟩
   have N4:=N2.last O hp b3 l3 lo3
   have old3:aH Hz H3:=jS.z Z old2 (jS.but (lrf hp) b3)
   have fw3:mF P w K mg base W H3:=fw2.keep (cS.but b3 hls nk)
   obtain⟨dS,sS⟩:=N4.sh
   obtain⟨chh,hch,ech⟩:=a2P u (by omega)
   have rs:=rs26 (P:=P) (w:=w) (K:=K) (mg:=mg) (base:=base) (CG:=CG) O (fi:=fi) (fd:=fd) (lk:=lk) (ys:=ys) (ds:=ds)
   have co:cn (u+ 1)∈W.B.ord:=by rw[O.od];exact List.mem_map.mpr ⟨u+ 1,List.mem_range.mpr (by omega),rfl⟩
   refine⟨_,rfl,W.s,dS,_,rfl,sS,fL,_,rfl,"bcdef",_,chh,rfl,rfl,by decide+kernel,by{rw[hu'];exact hch},_,rfl,?_⟩
   show rP CS CF CB CT _ [.ref W.s,.str "t",.str ⟨#[chh]⟩,.int (m1% (W.m:Int))] H3 _ E0
   rw[ech,hp']
   refine sc_T (N4.ok O) N4.sb (a7x fw3) N4.sh (List.mem_singleton.mpr rfl) iZ.2 (kQ (by omega)) co ⟨rfl,co,hp⟩ (by show 0+ _<900;omega) (fun H5 v kf' kl' mem' wo' cs' ns' L S' f5 hv5 pd5 ve5 hc5=> ?_)
   obtain⟨⟨calls,ecalls,perm⟩,N5⟩:=N4.cell O hu hp S' f5 (by rw[show aE kf' (cK (ce u p))=some v from hv5];rfl) ve5
   have old5:aH Hz H5:=jS.z Z old3 (dA.fr26 N4.sb f5)
   have fw5:=fw3.keep (N4.sb.kz f5)
   have kt5:=N4.sb.ktt f5
   have smu:=pM (ws:=W.ws) smp (u+ 1)
   have pd5':Pd K H5 v (bK W.ws (ds.getD p .none) (u+ 1)):=by
    have this:Pd K H5 v ((bJ P w K mg base CG W fi fd lk ys ds).v ("t",cn (u+ 1),p)):=pd5
    rw[qD (by omega)]at this
    exact this
   have lay:=(smu.vd (by omega)).lay
   refine⟨_,rfl,_,_,pd5'.2,(pv3.keep kt5.t).dt,lay.1,lay.1,Nat.le_trans lay.2 (by decide),_,rfl,?_⟩
   rw[smu.eqv]
   refine bI ?_
   have inc:=(a0L W.ws (ds.getD p .none) (dC wo p) (u+ 1)).1
   have nt5:=S'.nt (fun y=>by cases y)
   rw[ecalls]at nt5
   have mn:Paired (MN K H5) cs' calls:=a03 nt5
   have l1:cs'.length=calls.length:=Paired.length mn
   have l2:=perm.length_eq
   have l4:=yM W.ws (ds.getD p .none) (dC wo p) (u+ 1)
   have ca5:=S'.ca.2 W.ca rfl
   refine⟨_,rfl,W.ca,cs',_,rfl,aN.of ca5,by omega,a5a _,⟨calls.map fun m:Int×List Int=>m.1,(perm.map fun m:Int×List Int=>m.1).nodup_iff.mpr (a0S inc),a1N mn,rfl⟩,fun D pr hD hs hpr sd=> ?_⟩
   have sD:=aH.new (o:=.lst (pr.toList.map fun i=>cs'.getD i .non)) hD
   have mnS:=a8c mn perm inc hs hpr sd
   have hca2:=N2.sb.ca.2 W.ca rfl
   have nca:∀{x:Addr},H2 x=none->x≠W.ca:=fun e y=>by rw[y,hca2]at e;cases e
   have k:∀{b:Addr} {o:HO},H3 b=some o->(∀y,o≠ .dT y)->(∀y,o≠ .dK y)->(∀y,o≠ .ext y)->b≠W.ca->H5 b=some o:=fun e n1 n2 n3 n4=>N4.sb.k f5 e n1 n2 n3 (fun y=>n4 (Option.some.inj y).symm)
   have du5:=k d3 nk nk nk (nca hdu)
   have mnD5:Paired (MN K H5) dv (bY W.ws (ds.getD p .none) (dC wo p) (u+ 1)).2:=Paired.imp (fun a b ⟨t,l,x1,x2,x3,x4,x5,_⟩=>⟨t,l,x1,bU.of (k x2 nk nk nk (nca x4)),aN.of (k x3 nk nk nk (nca x5))⟩) dm3
   have lay2:(PyData.list ((bY W.ws (ds.getD p .none) (dC wo p) (u+ 1)).2.map jU)).canLay0=true:=a3s _
   have dep2:(PyData.list ((bY W.ws (ds.getD p .none) (dC wo p) (u+ 1)).2.map jU)).depth<=64:=by
    show PyData.depthAll _+ 1<=64
    have:=a1j (bY W.ws (ds.getD p .none) (dC wo p) (u+ 1)).2
    omega
   refine⟨_,rfl,_,_,.lst (aN.of aJ) (xK (Paired.imp (fun a b h=>MN.same sD h) mnS)),.lst (aN.of (sD _ _ du5)) (xK (Paired.imp (fun a b h=>MN.same sD h) mnD5)),lay2,lay2,dep2,_,rfl,?_⟩
   rw[show PyData.eqv (.list ((bY W.ws (ds.getD p .none) (dC wo p) (u+ 1)).2.map jU)) (.list ((bY W.ws (ds.getD p .none) (dC wo p) (u+ 1)).2.map jU))=true from by rw[PyData.eqv];exact a2b _]
   refine bI ⟨_,_,_,_,_,rfl,old5.trans sD,fw5.keep (cS.of sD),fi,fd,lk,ys,ds,kf',kl',mem',wo',cs',ns',csh,N5.same O sD,by omega⟩
 ·rintro σ Hi ⟨o8,o9,o10,o11,o12,rfl,oldi,fw,L⟩
  obtain⟨fi,fd,lk,ys,ds,kf,kl,mem,wo,cs,ns,csh,N,lc⟩:=L
  refine q _ fun z hz=> ?_
  simp only[List.mem_cons,List.not_mem_nil,or_false]at hz
  rcases hz with rfl|rfl
  ·obtain⟨S,e⟩:=hz1
   exact⟨S,oldi _ _ e⟩
  ·obtain⟨S,e,_⟩:=N.sb.tb
   exact⟨S,e⟩
theorem a6Y(T:bC K mg)(A:Around)(outer:List Env)(s:Shared)(H:Hp)(E:XK){tE:TS}(hE:dU (kW P w K mg base f cdv A outer s H E) ((eC gY).drop 9) tE):
 ∃t,dU (kW P w K mg base f cdv A outer s H E) ((eC gY).drop 8) t/\
  ∀(D:iX) (H6:Hp) (a sA vl wa ca:Addr) (m:Nat) (xs:List V) (o6 o7 o8 o9 o10 o11 o12:Option V),m<=5->xs.length<=5->H6 wa=some (.lst xs)->
   (∀(H7:Hp) (ll:Addr) (g:Nat->Addr),aH H6 H7->H6 ll=none->H7 ll=some (.lst ((List.range m).map fun q=>V.ref (g q)))->(∀q,q<m->H6 (g q)=none/\g q≠ll/\H7 (g q)=some (.lst (List.replicate xs.length .non)))->(∀q q',q<m->q'<m->g q=g q'->q=q')->tE D [some (.ref a),some (.int (m:Int)),some (.ref sA),some (.ref vl),some (.ref wa),some (.ref ca),o6,some (.ref ll),o8,o9,o10,o11,o12] H7)->
   t D [some (.ref a),some (.int (m:Int)),some (.ref sA),some (.ref vl),some (.ref wa),some (.ref ca),o6,o7,o8,o9,o10,o11,o12] H6:=by
 have hcl:∀x,(kW P w K mg base f cdv A outer s H E).env.scope.names.lookup x=some .cell->∃c,(kW P w K mg base f cdv A outer s H E).env.cells.lookup x=some c:=fun x hx=>Option.isSome_iff_exists.mp (W.cellsFrom_some _ _ _ (.inl hx))
 refine⟨_,(aK (a1y (te:=yW [] (a1x K (nK 1)) pS (tC .non)) (i:=7) iA.nd rfl rfl (mC (sc:=aO gY) (N:=rG) (cp:=[(4,"_law_ways")]) hcl) rfl rfl (by decide) (pK rfl T.range (aA (pv 1) aI)) (fun _ _ _ _ _=>mD) (fun _ _ _ _ _=>(oP xL rfl rfl (by decide) (kA (pv 1)) (fun _ _ _ _ _=>mD) (fun _ _ _ _ _=>fZ))) rfl)
  hE),?_⟩
 intro D H6 a sA vl wa ca m xs o6 o7 o8 o9 o10 o11 o12 m5 x5 hwa q
 refine⟨_,rfl,(m:Int),rfl,by omega,by omega,fun ll hll=> ?_⟩
 rw[Int.toNat_natCast]
 refine vW (lo:=0) (n:=m) (fun i zs H7=>∃g:Nat->Addr,zs=(List.range i).map (fun q=>V.ref (g q))/\aH H6 H7/\(∀q,q<i->H6 (g q)=none/\g q≠ll/\H7 (g q)=some (.lst (List.replicate xs.length .non)))/\∀q q',q<i->q'<i->g q=g q'->q=q') ⟨fun _=>ll,rfl,aH.new hll,fun q h=>by{omega},fun q q' h=>by{omega}⟩ ?_ ?_
 ·rintro i zs H7 hi h7 ⟨g,rfl,s7,hg,inj⟩
  have hwa7:=s7 _ _ hwa
  refine⟨_,rfl,wa,rfl,⟨_,aN.of hwa7⟩,fun l hl=> ?_⟩
  refine sV (K:=K) (a:=wa) (xs:=xs) (fun j ws H8=>ws=List.replicate j .non/\aH H7 H8) ⟨rfl,aH.new hl⟩ (fun j ws H8 _ h=>aN.of (h.2 _ _ hwa7)) ?_ ?_
  ·rintro j x ws H8 hj h8 ⟨rfl,s8⟩
   have jl:j<xs.length:=by
    rcases Nat.lt_or_ge j xs.length with h|h
    ·exact h
    ·rw[List.getElem?_eq_none h]at hj;cases hj
   exact⟨h8,cY (by rw[List.length_replicate];omega),by rw[List.replicate_succ'],s8.on hl⟩
  ·rintro ws H8 h8 ⟨rfl,s8⟩
   have l6:H6 l=none:=iM s7 hl
   have nll:l≠ll:=fun y=>by rw[y,h7]at hl;cases hl
   have h78:=s8 _ _ h7
   refine⟨h78,cY (by rw[List.length_map,List.length_range];omega),fun q=>if q=i then l else g q,?_,?_,fun q hq=> ?_,fun q q' hq hq' e=> ?_⟩
   ·rw[List.range_succ,List.map_append]
    congr 1
    ·refine List.map_congr_left fun q hq=> ?_
     show V.ref (g q)=V.ref (if q=i then l else g q)
     rw[if_neg (by have:=List.mem_range.mp hq;omega)]
    ·show [V.ref l]= [V.ref (if i=i then l else g i)]
     rw[if_pos rfl]
   ·exact(s7.trans s8).on hll
   ·show H6 (if q=i then l else g q)=none/\(if q=i then l else g q)≠ll/\upd H8 ll _ (if q=i then l else g q)=_
    by_cases e:q=i
    ·rw[if_pos e]
     exact⟨l6,nll,by rw[aG nll];exact h8⟩
    ·rw[if_neg e]
     obtain⟨x1,x2,x3⟩:=hg q (by omega)
     exact⟨x1,x2,by rw[aG x2];exact s8 _ _ x3⟩
   ·have e:(if q=i then l else g q)=(if q'=i then l else g q'):=e
    by_cases e1:q=i<;>by_cases e2:q'=i
    ·omega
    ·rw[if_pos e1,if_neg e2]at e
     have:=(hg q' (by omega)).2.2
     rw[<- e,hl]at this
     cases this
    ·rw[if_neg e1,if_pos e2]at e
     have:=(hg q (by omega)).2.2
     rw[e,hl]at this
     cases this
    ·rw[if_neg e1,if_neg e2]at e
     exact inj q q' (by omega) (by omega) e
 ·rintro zs H7 h7 ⟨g,rfl,s7,hg,inj⟩
  exact q H7 ll g s7 hll h7 hg inj
end
theorem a0Z{κ:Type} [DecidableEq κ]{k:κ}:∀{kvs:List (κ×V)},(∀kv∈kvs,kv.1≠k)->aE kvs k=none
 | [],_=>rfl
 |x::r,h=>by
  rw[iW (h x aa)]
  exact a0Z fun kv hkv=>h kv (List.mem_cons_of_mem _ hkv)
def rK(gr:Nat->Addr)(j:Nat):List (aB×V):=(List.range j).map fun k=>((.inr (cn (k+ 1)):aB),V.ref (gr k))
theorem wV:(rK gr j).length=j:=by unfold rK;rw[List.length_map,List.length_range]
theorem a3v{rv:aB×V}(h:rv∈rK gr j):∃k,k<j/\rv=((.inr (cn (k+ 1)):aB),V.ref (gr k)):=by
 obtain⟨k,hk,e⟩:=List.mem_map.mp h
 exact⟨k,List.mem_range.mp hk,e.symm⟩
theorem a0t(h:j<=5):((rK gr j).map (·.1)).Nodup:=by
 unfold rK
 rw[List.map_map,List.nodup_iff_pairwise_ne,List.pairwise_map]
 refine List.Pairwise.imp_of_mem (fun{a b} ha hb hab y=> ?_) (List.nodup_iff_pairwise_ne.mp List.nodup_range)
 have ha:=List.mem_range.mp ha
 have hb:=List.mem_range.mp hb
 have y:(Sum.inr (cn (a+ 1)):aB)= .inr (cn (b+ 1)):=y
 have:=nL (j:=a+ 1) (k:=b+ 1) (by omega) (by omega) (Sum.inr.inj y)
 omega
theorem a2j{k:Nat}(h:j<=5)(hk:k<j):aE (rK gr j) (.inr (cn (k+ 1)):aB)=some (.ref (gr k)):=vN (a0t h) (List.mem_map.mpr ⟨k,List.mem_range.mpr hk,rfl⟩)
theorem yZ(h:j<=5)(hi:i<=5)(n:i=0\/ j<i):aE (rK gr j) (.inr (cn i):aB)=none:=a0Z fun kv hkv y=>by
 obtain⟨k,hk,rfl⟩:=a3v hkv
 have:=nL (j:=k+ 1) (k:=i) (by omega) hi (Sum.inr.inj y)
 omega
def ext(f:Nat->Addr)(j:Nat)(a:Addr):Nat->Addr:=fun k=>if k=j then a else f k
theorem nC{f:Nat->Addr}:ext f j a j=a:=if_pos rfl
theorem lF{f:Nat->Addr}{k:Nat}(h:k<j):ext f j a k=f k:=if_neg (by omega)
theorem pP{f:Nat->Addr}{p:Nat->Addr->Prop}(h:∀k,k<j->p k (f k))(ha:p j a):∀k,k<j+ 1->p k (ext f j a k):=fun k hk=>by
 rcases Nat.lt_or_ge k j with h'|h'
 ·rw[lF h']
  exact h k h'
 ·obtain rfl:k=j:=by omega
  rw[nC]
  exact ha
theorem a2u(h:j<5):aQ (rK gr j) (.inr (cn (j+ 1)):aB) (.ref a)=rK (ext gr j a) (j+ 1):=by
 rw[uV _ (yZ (by omega) (by omega) (.inr (by omega)))]
 unfold rK
 rw[List.range_succ,List.map_append]
 congr 1
 ·refine List.map_congr_left fun k hk=> ?_
  show(_,V.ref (gr k))=(_,V.ref (ext gr j a k))
  rw[lF (List.mem_range.mp hk)]
 ·show [(_,V.ref a)]= [(_,V.ref (ext gr j a j))]
  rw[nC]
def mK(B:BM)(gr mc:Nat->Addr)(j:Nat):BM:={B with rus:=rK gr j,mes:=rK mc j,ord:=(List.range (j+ 1)).map cn}
theorem a2M(h:j<5):cn (j+ 1)∉(List.range (j+ 1)).map cn:=fun y=>by
 obtain⟨k,hk,e⟩:=List.mem_map.mp y
 have hk:=List.mem_range.mp hk
 have:=nL (by omega) (by omega) e
 omega
section
variable(P:Program)(w:World)(K:Fg)(mg:Str->Option Value)(base:Heap)
structure gT(CS CF CB CT CG zt s ch bd ca:Addr)(B:BM)(ws:List Int)(H0:Hp)(j:Nat)(gr nl fa mc:Nat->Addr)(fi fd lk:Addr)(csh:List V)(H:Hp):Prop where
 sh:∃dx,H s=some (.ins CS dx (dW bd ch fi))
 hc:H ch=some (.lst csh)
 hb:H bd=some (.dK [((.inr "t":aB),V.ref B.b)])
 hf:∃df,H fi=some (.ins CF df (fR bd fd lk))
 d1:H fd=some (.dT [])
 d2:H lk=some (.dT [])
 fl:fd≠lk
 bt:cD CB CT H (mK B gr mc j)
 g:∀k,k<j->∃dg,H (gr k)=some (.ins CG dg (gK (nl k) (fa k)))
 n:∀k,k<j->H (nl k)=some (.lst [.str (cn k)])
 m:∀k,k<j->H (mc k)=some (.dK [])
 md:∀i k,i<j->k<j->mc i=mc k->i=k
 g0:∀k,k<j->H0 (gr k)=none
 n0:∀k,k<j->H0 (nl k)=none
 m0:∀k,k<j->H0 (mc k)=none
 fn:∀k,k<j->iS P w K mg base 4 H (fa k) (some ca) (some (.int (k:Int))) (lK (ws.getD k 0)) lQ
 tb:fM tT H zt
 kp:∀x o,x≠zt->x≠s->x≠ch->x≠B.od->x≠B.ru->x≠B.me->H0 x=some o->H x=some o
 ol:∀x∈ [s,ch,B.od,B.ru,B.me],H0 x≠none
 lc:csh.length=2+ j
end
section
variable{s ca:Addr}{B:BM}{ws:List Int}{nl fa mc:Nat->Addr}
theorem gT.dn(R:gT P w K mg base CS CF CB CT CG zt s ch bd ca B ws H0 j gr nl fa mc fi fd lk csh H){x:Addr}(h:H x=none):H0 x=none:=by
 cases e:H0 x with
 |none=>rfl
 |some o=>
  obtain⟨_,s1⟩:=R.sh
  obtain⟨_,t1,_⟩:=R.tb
  have:=R.kp x o (fun y=>by rw[y,t1]at h;cases h) (fun y=>by rw[y,s1]at h;cases h) (fun y=>by rw[y,R.hc]at h;cases h) (fun y=>by rw[y]at h;have:=R.bt.ord.symm.trans h;cases this) (fun y=>by rw[y]at h;have:=R.bt.rul.symm.trans h;cases this) (fun y=>by rw[y]at h;have:=R.bt.mem.symm.trans h;cases this) e
  rw[h]at this
  cases this
theorem gT.go(R:gT P w K mg base CS CF CB CT CG zt s ch bd ca B ws H0 j gr nl fa mc fi fd lk csh H)(u:nY zt H H')(tb:fM tT H' zt):gT P w K mg base CS CF CB CT CG zt s ch bd ca B ws H0 j gr nl fa mc fi fd lk csh H':=by
 obtain⟨S,t1,_⟩:=R.tb
 have k:∀{x:Addr} {o:HO},H x=some o->(∀φ,o≠ .ext φ)->H' x=some o:=fun{x o} e n=>u _ _ (fun y=>by rw[y,t1]at e;exact n _ (Option.some.inj e).symm) e
 obtain⟨ds,hs⟩:=R.sh
 obtain⟨df,hf⟩:=R.hf
 have bt:cD CB CT H' (mK B gr mc j):=by
  obtain⟨⟨d1,e1⟩,⟨⟨d2,e2⟩,e3,e4⟩,e5,e6,e7⟩:=R.bt
  exact⟨⟨d1,k e1 nk⟩,⟨⟨d2,k e2 nk⟩,k e3 nk,k e4 nk⟩,k e5 nk,k e6 nk,k e7 nk⟩
 exact⟨⟨ds,k hs nk⟩,k R.hc nk,k R.hb nk,⟨df,k hf nk⟩,k R.d1 nk,k R.d2 nk,R.fl,bt,fun i hi=>let ⟨dg,e⟩:=R.g i hi;⟨dg,k e nk⟩,fun i hi=>k (R.n i hi) nk,fun i hi=>k (R.m i hi) nk,R.md,R.g0,R.n0,R.m0,fun i hi=>(R.fn i hi).keep (fun b v e=>k e nk),tb,fun x o n1 n2 n3 n4 n5 n6 e=>u _ _ n1 (R.kp x o n1 n2 n3 n4 n5 n6 e),R.ol,R.lc⟩
theorem gT.step(R:gT P w K mg base CS CF CB CT CG zt s ch bd ca B ws H0 j gr nl fa mc fi fd lk csh H)(hj:j<5){g n m dg fi' fd' lk' c:Addr}(hg:H g=some (.ins CG dg (gK n f)))(hn:H n=some (.lst [.str (cn j)]))(g0:H0 g=none)(n0:H0 n=none)(hfn:iS P w K mg base 4 H f (some ca) (some (.int (j:Int))) (lK (ws.getD j 0)) lQ)
 (Fr:nR CS CF s bd ch fi' fd' lk' (csh++ [.ref c]) [((.inr "t":aB),V.ref B.b)] H H')(hm:H m=none)(hB:cD CB CT H' {mK B gr mc j with rus:=aQ (rK gr j) (.inr (cn (j+ 1)):aB) (.ref g),mes:=aQ (rK mc j) (.inr (cn (j+ 1)):aB) (.ref m),ord:=(List.range (j+ 1)).map cn++ [cn (j+ 1)]})(m':H' m=some (.dK []))(u:∀x o,x≠s->x≠ch->x≠B.od->x≠B.ru->x≠B.me->H x=some o->H' x=some o):
 gT P w K mg base CS CF CB CT CG zt s ch bd ca B ws H0 (j+ 1) (ext gr j g) (ext nl j n) (ext fa j f) (ext mc j m) fi' fd' lk' (csh++ [.ref c]) H':=by
 obtain⟨sh',ch',bd',hf',fd1,lk1,fl1,_,_,_⟩:=Fr
 have o0:=R.ol
 obtain⟨_,s1⟩:=R.sh
 have h2:=R.hc
 have h3:H B.od=some (.lst (((List.range (j+ 1)).map cn).map V.str)):=R.bt.ord
 have h4:H B.ru=some (.dK (rK gr j)):=R.bt.rul
 have h5:H B.me=some (.dK (rK mc j)):=R.bt.mem
 have nw:∀{x y:Addr},H0 x=none->y∈ [s,ch,B.od,B.ru,B.me] ->x≠y:=fun e hy z=>o0 _ hy (by rw[<- z];exact e)
 have ku:∀{x:Addr} {o:HO},H0 x=none->H x=some o->H' x=some o:=fun e e1=>u _ _ (nw e (by simp)) (nw e (by simp)) (nw e (by simp)) (nw e (by simp)) (nw e (by simp)) e1
 have kz:∀{x:Addr} {o:HO},H x=some o->(∀a b c,o≠ .ins a b c)->(∀y,o≠ .lst y)->(∀y,o≠ .dK y)->H' x=some o:=fun{x o} e n1 n2 n3=>u _ _ (fun y=>by rw[y,s1]at e;exact n1 _ _ _ (Option.some.inj e).symm) (fun y=>by rw[y,h2]at e;exact n2 _ (Option.some.inj e).symm) (fun y=>by rw[y,h3]at e;exact n2 _ (Option.some.inj e).symm) (fun y=>by rw[y,h4]at e;exact n3 _ (Option.some.inj e).symm) (fun y=>by rw[y,h5]at e;exact n3 _ (Option.some.inj e).symm) e
 obtain⟨S,t1,t2⟩:=R.tb
 refine⟨sh',ch',bd',hf',fd1,lk1,fl1,?_,?_,?_,?_,?_,pP (p:=fun _ a=>H0 a=none) R.g0 g0,pP (p:=fun _ a=>H0 a=none) R.n0 n0,pP (p:=fun _ a=>H0 a=none) R.m0 (R.dn hm),?_,⟨S,kz t1 (fun _ _ _ y=>by cases y) nk nk,fun c hc=> ?_⟩,fun x o n1 n2 n3 n4 n5 n6 e=>u _ _ n2 n3 n4 n5 n6 (R.kp x o n1 n2 n3 n4 n5 n6 e),o0,?_⟩
 ·rw[a2u hj,a2u hj,<- List.map_singleton (f:=cn),<- List.map_append,<- List.range_succ]at hB
  exact hB
 ·intro k hk
  rcases Nat.lt_or_ge k j with h'|h'
  ·rw[lF h',lF h',lF h']
   obtain⟨dg,e⟩:=R.g k h'
   exact⟨dg,ku (R.g0 k h') e⟩
  ·obtain rfl:k=j:=by omega
   rw[nC,nC,nC]
   exact⟨dg,ku g0 hg⟩
 ·exact pP (p:=fun k a=>H' a=some (.lst [.str (cn k)])) (fun k hk=>ku (R.n0 k hk) (R.n k hk)) (ku n0 hn)
 ·exact pP (p:=fun _ a=>H' a=some (.dK [])) (fun k hk=>ku (R.m0 k hk) (R.m k hk)) m'
 ·intro i k hi hk e
  rcases Nat.lt_or_ge i j with a|a<;>rcases Nat.lt_or_ge k j with b|b
  ·rw[lF a,lF b]at e
   exact R.md i k a b e
  ·obtain rfl:k=j:=by omega
   rw[lF a,nC]at e
   have:=R.m i a
   rw[e,hm]at this
   cases this
  ·obtain rfl:i=j:=by omega
   rw[lF b,nC]at e
   have:=R.m k b
   rw[<- e,hm]at this
   cases this
  ·omega
 ·refine pP (p:=fun k a=>iS P w K mg base 4 H' a (some ca) (some (.int (k:Int))) (lK (ws.getD k 0)) lQ) (fun k hk=>(R.fn k hk).keep fun b v e=> ?_) (hfn.keep fun b v e=> ?_)<;>exact kz e (fun _ _ _ y=>by cases y) nk nk
 ·obtain⟨o,e1,e2⟩:=t2 c hc
  exact⟨o,kz e1 (fun _ _ _ y=>by cases y) nk nk,e2⟩
 ·rw[List.length_append,R.lc]
  rfl
end
section
theorem a5e(T:bC K mg){CE CU:Addr}(Y:gA K mg CS)(Fi:eT K mg CF)(Wb:cV K mg CB)(U:dR K mg CT)(CC:oZ K mg CU)(Ce:lE K mg CG)(Ru:uC K mg CE)(B1:mY K mg "_law_function" kK z1)(M1:jA mg base z1.1 z1.2)(A:Around)(outer:List Env)(s:Shared)(H:Hp)(E:XK)(hr:bT 17 (A.deeper (PyProof.Rows.envOfC "law" (aO gY) s.heap.objs.size f cdv))){tE:TS}(hE:dU (kW P w K mg base f cdv A outer s H E) ((eC gY).drop 8) tE):
 ∃t,dU (kW P w K mg base f cdv A outer s H E) ((eC gY).drop 7) t/\
  ∀(D:iX) (H0:Hp) (a sA ch bd ca vl wa:Addr) (B:BM) (m:Nat) (ws:List Int) (f0:Nat->Addr) (fi fd lk:Addr) (csh:List V) (o6 o7 o8 o9 o10 o11 o12:Option V),ws.length<=5->B.sep->lP bd ch B->H0 wa=some (.lst (ws.map V.int))->wa≠ch->wa≠B.od->gT P w K mg base CS CF CB CT CG z1.2 sA ch bd ca B ws H0 0 f0 f0 f0 f0 fi fd lk csh H0->
   (∀(H6:Hp) (gr nl fa mc:Nat->Addr) (fi fd lk:Addr) (csh:List V) (o6:Option V),gT P w K mg base CS CF CB CT CG z1.2 sA ch bd ca B ws H0 ws.length gr nl fa mc fi fd lk csh H6->tE D [some (.ref a),some (.int (m:Int)),some (.ref sA),some (.ref vl),some (.ref wa),some (.ref ca),o6,o7,o8,o9,o10,o11,o12] H6)->
   t D [some (.ref a),some (.int (m:Int)),some (.ref sA),some (.ref vl),some (.ref wa),some (.ref ca),o6,o7,o8,o9,o10,o11,o12] H0:=by
 have G_rule:aR P w K mg base aF 9 CS "rule" ["self","table","column","rule"] (zQ K CS CF CB CT CG (sF CG)):=a8f T Y Fi Wb U CC (a5f Ce) (a4H T Ce)
 have GI:eM P w K mg base aF 4 CG ["self","names","function"] (xA K CG):=a8B T Ru Ce
 have G_fn:bH P w K mg base aF 1 "_law_function" lS (zM P w K mg base z1.2):=a5u T B1 M1
 refine⟨_,(aK (kH PassesOwn.never rfl (pK rfl T.range (aA (dQ jJ rfl T.len iE (aA (pv 4) aI)) aI)) (fT (i:=6) iA.nd rfl ad)
  (aL (cA (cC (pv 2) Y.cl G_rule hr.mn aS (aA fX (aA (cM xN fX (pv 6) (fun _ _=>rfl)) (aA (jX GI hr.mn Ce.c aS (aA (gW (aA (cM xN fX (pv 6) (fun _ _=>rfl)) aI)) (aA (bV G_fn hr.mn aS (aA (pv 5) (aA (pv 6) (aA (cM iD (pv 4) (pv 6) (fun _ _=>rfl)) aI)))) aI))) aI)))))))
  hE),?_⟩
 intro D H0 a sA ch bd ca vl wa B m ws f0 fi fd lk csh o6 o7 o8 o9 o10 o11 o12 n5 sp ss hwa nwc nwo R0 q
 have nw1:wa≠z1.2:=fun y=>by obtain⟨_,e,_⟩:=R0.tb;rw[<- y,hwa]at e;cases e
 have nw2:wa≠sA:=fun y=>by obtain⟨_,e⟩:=R0.sh;rw[<- y,hwa]at e;cases e
 have nw3:wa≠B.ru:=fun y=>by have e:H0 B.ru=some (.dK (rK f0 0)):=R0.bt.rul;rw[<- y,hwa]at e;cases e
 have nw4:wa≠B.me:=fun y=>by have e:H0 B.me=some (.dK (rK f0 0)):=R0.bt.mem;rw[<- y,hwa]at e;cases e
 have lw:(ws.map V.int).length=ws.length:=List.length_map ..
 refine⟨_,rfl,_,_,rfl,.inl ⟨_,aN.of hwa,rfl⟩,_,rfl,by omega,by omega,?_⟩
 rw[lw,Int.toNat_natCast]
 refine yP (lo:=0) (n:=ws.length) (fun i σ Hi=>∃(o6:Option V) (gr nl fa mc:Nat->Addr) (fi fd lk:Addr) (csh:List V),σ= [some (.ref a),some (.int (m:Int)),some (.ref sA),some (.ref vl),some (.ref wa),some (.ref ca),o6,o7,o8,o9,o10,o11,o12] /\gT P w K mg base CS CF CB CT CG z1.2 sA ch bd ca B ws H0 i gr nl fa mc fi fd lk csh Hi) ⟨_,_,_,_,_,_,_,_,_,rfl,R0⟩ ?_ ?_
 ·rintro i σ Hi hi ⟨o6,gr,nl,fa,mc,fi,fd,lk,csh,rfl,R⟩
  rw[Int.zero_add]
  obtain⟨dS,sS⟩:=R.sh
  obtain⟨chh,hch,ech⟩:=a2P i (by omega)
  obtain⟨chk,hck,eck⟩:=a7D i (by omega)
  obtain⟨_,t1,_⟩:=R.tb
  have hru:Hi B.ru=some (.dK (rK gr i)):=R.bt.rul
  have hme:Hi B.me=some (.dK (rK mc i)):=R.bt.mem
  have hwi:Hi wa=some (.lst (ws.map V.int)):=R.kp wa _ nw1 nw2 nwc nwo nw3 nw4 hwa
  refine⟨_,rfl,sA,dS,_,rfl,sS,fL,_,rfl,"bcdef",_,chh,rfl,rfl,by decide+kernel,hch,_,rfl,"abcde",_,chk,rfl,rfl,by decide+kernel,hck,sl,fun l0 hl0=> ?_⟩
  have s1:=aH.new (o:=.lst [.str ⟨#[chk]⟩]) hl0
  have c1:upd Hi l0 (.lst [.str ⟨#[chk]⟩]) l0=some (.lst [.str (cn i)]):=by rw[aJ,eck]
  generalize upd Hi l0 (.lst [.str ⟨#[chk]⟩])=H1 at s1 c1|-
  have hwi':(ws.map V.int)[i]?=some (.int (ws.getD i 0)):=by
   rw[List.getElem?_map,List.getElem?_eq_getElem hi,List.getD_eq_getElem?_getD,List.getElem?_eq_getElem hi]
   rfl
  refine⟨_,rfl,_,rfl,_,rfl,_,rfl,wa,_,_,_,rfl,rfl,aN.of (s1 _ _ hwi),jB hwi',ca,(i:Int),ws.getD i 0,rfl,qA s1 R.tb,fun HA fn sA' tA hfn=> ?_⟩
  intro g dg hg hdg neg
  have uA:nY z1.2 Hi HA:=fun b o n e=>sA' b o n (s1 _ _ e)
  have RA:=R.go uA tA
  have l0A:HA l0=some (.lst [.str (cn i)]):=sA' _ _ (fun y=>by rw[y]at c1;obtain⟨S,e,_⟩:=qA s1 R.tb;rw[e]at c1;cases c1) c1
  have hNi:∀z∈ [cn i],Nl z:=fun z hz=>by rw[List.mem_singleton.mp hz];exact kQ (by omega)
  refine⟨g,dg,l0,fn,[cn i],rfl,aJ,aN.of ?_,bE l0A hg,(show 1<=6 by decide),hNi,fun HB n bB hn' gB nB=>⟨rfl,?_⟩⟩
  ·rw[aG (bE l0A hg),aG (bE l0A hdg)]
   exact l0A
  have hn:HA n=none:=(jT (jT hn').1).1
  have sB:aH HA HB:=fun x o ex=>bB _ _ (bE ex hg) (by rw[aG (bE ex hg),aG (bE ex hdg)];exact ex)
  have RB:=RA.go (fun b o _ e=>sB _ _ e) (qA sB tA)
  have fB:=hfn.keep (cS.of sB)
  obtain⟨dS2,sS2⟩:=RB.sh
  have once:∀{z:aC} {k:Nat},z∈fA ([cn k].map fun z=>(("t":Str),z))->z=(("t":Str),cn k):=fun hz=>List.mem_singleton.mp (a1L hz)
  have gm:∀{k:Nat},k<i+ 1->(("t":Str),cn k)∈(List.range (i+ 1)).map fun k=>(("t":Str),cn k):=fun{k} hk=>List.mem_map.mpr ⟨k,List.mem_range.mpr hk,rfl⟩
  have lcs:=RB.lc
  rw[ech]
  refine⟨sA,bd,ch,g,dg,csh,[((.inr "t":aB),V.ref B.b)],"t",cn (i+ 1),gK n fn,mK B gr mc i,fA ([cn i].map fun z=>(("t":Str),z)),(List.range (i+ 1)).map fun k=>(("t":Str),cn k),rfl,⟨⟨dS2,fi,sS2⟩,RB.hc,RB.hb⟩,by omega,iZ.2,rfl,RB.bt,⟨sp.ro,sp.eu,sp.em,sp.um⟩,⟨ss.r,ss.o,ss.e,ss.u,ss.m⟩,⟨yZ (by omega) (by omega) (.inr (by omega)),a2M (by omega)⟩,kQ (by omega),gB,(nI _ _).2.2.1,a14 gB nB (show 1<=6 by decide) hNi iZ.2,fun z hz=> ?_,Nat.le_trans (xT _) (show 1<=100 by decide),fun h=> ?_,by rw[List.length_map,List.length_range];omega,by simp,(show 1<=4 by decide),fun kv hkv=> ?_,by show(rK gr i).length<100;rw[wV];omega,by show(rK mc i).length<100;rw[wV];omega,by show((List.range (i+ 1)).map cn).length<8;rw[List.length_map,List.length_range];omega,fun H9 fi9 fd9 lk9 c9 m9 Fr9 hm9 hB9 mc9 u9=> ?_⟩
  ·obtain rfl:=once hz
   exact⟨⟨iZ.2,kQ (by omega)⟩,gm (by omega),mK B gr mc i,rfl,RB.bt,List.mem_map.mpr ⟨i,List.mem_range.mpr (by omega),rfl⟩⟩
  ·obtain⟨k,hk,e⟩:=List.mem_map.mp h
   exact a2M (j:=i) (by omega) (List.mem_map.mpr ⟨k,hk,(Prod.mk.inj e).2⟩)
  ·rw[List.mem_singleton.mp hkv]
   refine⟨"t",mK B gr mc i,rfl,iZ.2,RB.bt,ss.u,a0t (by omega),by show(rK gr i).length<=8;rw[wV];omega,fun rv hrv=> ?_⟩
   obtain⟨k,hk,rfl⟩:=a3v hrv
   obtain⟨dk,ek⟩:=RB.g k hk
   exact⟨cn (k+ 1),gr k,dk,_,_,rfl,kQ (by omega),ek,(nI _ _).2.2.1,a14 (zs:=[cn k]) ek (RB.n k hk) (show 1<=6 by decide) (fun z hz=>by rw[List.mem_singleton.mp hz];exact kQ (by omega)) iZ.2,fun y hy=>by rw[once hy];exact⟨⟨iZ.2,kQ (by omega)⟩,gm (by omega)⟩,Nat.le_trans (xT _) (show 1<=100 by decide)⟩
  have g0:H0 g=none:=RA.dn hg
  have n0:H0 n=none:=RA.dn hn
  exact⟨_,_,_,_,_,_,_,_,_,rfl,RB.step (by omega) gB nB g0 n0 fB Fr9 hm9 hB9 mc9 u9⟩
 ·rintro σ H6 ⟨o6,gr,nl,fa,mc,fi,fd,lk,csh,rfl,R⟩
  exact q H6 gr nl fa mc fi fd lk csh o6 R
end
noncomputable def nU (H:Hp) (L:List Addr):Hp:=fun x=>if x∈L then none else match H x with
 |some (.dT _)=>none
 |o=>o
theorem sI{L:List Addr}{x:Addr}(h:nU H L x=some o):x∉L/\(∀y,o≠ .dT y)/\H x=some o:=by
 unfold nU at h
 split at h
 ·cases h
 ·next n=>
  split at h
  ·cases h
  ·next e=>
   refine⟨n,fun y z=> ?_,h⟩
   subst z
   exact e y h
theorem a1J{L:List Addr}{x:Addr}(h:H x=some o)(n:x∉L)(nd:∀y,o≠ .dT y):nU H L x=some o:=by
 unfold nU
 rw[if_neg n,h]
 split
 ·next e=>exact absurd (Option.some.inj e) (nd _)
 ·rfl
section
variable{s ca vl wa la lA:Addr}{z2:Addr×Addr}{B:BM}{ws sc:List Int}{Hs H6 H7:Hp}{f0 nl fa mc lr:Nat->Addr}{fi0 fd0 lk0:Addr}{csh0:List V}{m:Nat}
theorem a5R(Ce:lE K mg CG)(n12:z1.2≠z2.2)(R0:gT P w K mg base CS CF CB CT CG z1.2 s ch bd ca B ws H0 0 f0 f0 f0 f0 fi0 fd0 lk0 csh0 H0)(R:gT P w K mg base CS CF CB CT CG z1.2 s ch bd ca B ws H0 ws.length gr nl fa mc fi fd lk csh H6)
 (m5:1<=m/\m<=5)(n5:2<=ws.length/\ws.length<=5)(ss:lP bd ch B)(nd7:[ch,B.r,B.od,lA,ca,vl,wa].Nodup)(k1:aE B.kvs (.inr "a":aB)=some (.ref lA))(bx:B.xs=eJ 0 m)
 (hlA:H0 lA=some (.lst ys))(hca:H0 ca=some (.lst []))(hvl:H0 vl=some (.lst zs))(hwa:H0 wa=some (.lst (ws.map V.int)))(py:dE K H0 ys ds)(pz:dE K H0 zs ds)(ly:ys.length=m)(ld:ds.length=m)(sd:∀d∈ds,Sm 12 d)
 (kp0:∀x o,Hs x=some o->H0 x=some o/\x∉ [s,ch,B.r,B.od,B.ru,B.me,lA,ca,vl,wa])(t1:Hs z1.2=some (eZ z1.2 []))(t2:Hs z2.2=some (eZ z2.2 []))(hS:aN K Hs a (sc.map V.int))
 (s7:aH H6 H7)(hla:H6 la=none)(la7:H7 la=some (.lst ((List.range m).map fun q=>V.ref (lr q))))(hlr:∀q,q<m->H6 (lr q)=none/\lr q≠la/\H7 (lr q)=some (.lst (List.replicate ws.length .non)))(inj:∀q q',q<m->q'<m->lr q=lr q'->q=q')
 {W:bR}(eW:W=⟨s,ch,bd,ca,vl,wa,la,lA,lr,gr,nl,fa,mc,mK B gr mc ws.length,m,ws⟩):
 ∃Hz,fP W/\xS Hz W z2.2/\aH Hz H7/\yA P w K mg base CS CF CB CT CG z2.2 W 0 H7/\aN K Hz a (sc.map V.int)/\∃S,Hz z1.2=some (eZ z1.2 S):=by
 have eB:W.B=mK B gr mc ws.length:=by rw[eW]
 have b6:=R.bt
 have r6:H6 B.r=some (.lst B.xs):=b6.tab.rows
 have o6:H6 B.od=some (.lst (((List.range (ws.length+ 1)).map cn).map V.str)):=b6.ord
 have u6:H6 B.ru=some (.dK (rK gr ws.length)):=b6.rul
 have e6:H6 B.me=some (.dK (rK mc ws.length)):=b6.mem
 have r0:H0 B.r=some (.lst B.xs):=R0.bt.tab.rows
 have o0:H0 B.od=some (.lst [.str (cn 0)]):=R0.bt.ord
 have u0:H0 B.ru=some (.dK []):=R0.bt.rul
 have e0:H0 B.me=some (.dK []):=R0.bt.mem
 obtain⟨d0,s0⟩:=R0.sh
 obtain⟨d6,s6⟩:=R.sh
 have t10:=(kp0 _ _ t1).1
 have nd:=nd7
 simp only[List.nodup_cons,List.mem_cons,List.not_mem_nil,or_false,not_or]at nd
 obtain⟨⟨c1,c2,c3,c4,c5,c6⟩,⟨r2,r3,r4,r5,r6'⟩,⟨q3,q4,q5,q6⟩,_,_,_⟩:=nd
 have kl:∀{x:Addr} {xs:List V},H0 x=some (.lst xs)->x≠ch->x≠B.od->H6 x=some (.lst xs):=fun{x xs} e n1 n2=>R.kp x _ (fun y=>by rw[y,t10]at e;cases e) (fun y=>by rw[y,s0]at e;cases e) n1 n2 (fun y=>by rw[y,u0]at e;cases e) (fun y=>by rw[y,e0]at e;cases e) e
 have lA6:=kl hlA (fun y=>c3 y.symm) (fun y=>q3 y.symm)
 have ca6:=kl hca (fun y=>c4 y.symm) (fun y=>q4 y.symm)
 have vl6:=kl hvl (fun y=>c5 y.symm) (fun y=>q5 y.symm)
 have wa6:=kl hwa (fun y=>c6 y.symm) (fun y=>q6 y.symm)
 have kt:bS H0 H7:=fun x xs e=>s7 _ _ (R.kp x _ (fun y=>by rw[y,t10]at e;cases e) (fun y=>by rw[y,s0]at e;cases e) (fun y=>by rw[y,R0.hc]at e;cases e) (fun y=>by rw[y,o0]at e;cases e) (fun y=>by rw[y,u0]at e;cases e) (fun y=>by rw[y,e0]at e;cases e) e)
 have l06:∀x∈ [ch,B.r,B.od,lA,ca,vl,wa],(∃xs,H6 x=some (.lst xs))/\H0 x≠none:=fun x hx=>by
  simp only[List.mem_cons,List.not_mem_nil,or_false]at hx
  rcases hx with y|y|y|y|y|y|y<;>rw[y]
  ·exact⟨⟨_,R.hc⟩,by rw[R0.hc];exact fun y=>by cases y⟩
  ·exact⟨⟨_,r6⟩,by rw[r0];exact fun y=>by cases y⟩
  ·exact⟨⟨_,o6⟩,by rw[o0];exact fun y=>by cases y⟩
  ·exact⟨⟨_,lA6⟩,by rw[hlA];exact fun y=>by cases y⟩
  ·exact⟨⟨_,ca6⟩,by rw[hca];exact fun y=>by cases y⟩
  ·exact⟨⟨_,vl6⟩,by rw[hvl];exact fun y=>by cases y⟩
  ·exact⟨⟨_,wa6⟩,by rw[hwa];exact fun y=>by cases y⟩
 have efx:W.fx= [ch,B.r,B.od,lA,ca,vl,wa] ++ (la::(List.range m).map lr):=by rw[eW];rfl
 have new6:∀x∈la::(List.range m).map lr,H6 x=none/\∃xs,H7 x=some (.lst xs):=fun x hx=>by
  rcases List.mem_cons.mp hx with rfl|hx
  ·exact⟨hla,_,la7⟩
  ·obtain⟨q,hq,rfl⟩:=List.mem_map.mp hx
   have:=hlr q (List.mem_range.mp hq)
   exact⟨this.1,_,this.2.2⟩
 have fxl:∀x∈W.fx,∃xs,H7 x=some (.lst xs):=fun x hx=>by
  rw[efx,List.mem_append]at hx
  rcases hx with hx|hx
  ·obtain⟨⟨xs,e⟩,_⟩:=l06 x hx
   exact⟨xs,s7 _ _ e⟩
  ·exact(new6 x hx).2
 have nfx:∀{x:Addr},H0 x=none->H6 x≠none->x∉W.fx:=fun{x} e e1 hx=>by
  rw[efx,List.mem_append]at hx
  rcases hx with hx|hx
  ·exact(l06 x hx).2 e
  ·exact e1 (new6 x hx).1
 have ndf:W.fx.Nodup:=by
  rw[efx,List.nodup_append]
  refine⟨nd7,List.nodup_cons.mpr ⟨fun h=> ?_,?_⟩,fun x hx y hy z=> ?_⟩
  ·obtain⟨q,hq,e⟩:=List.mem_map.mp h
   exact(hlr q (List.mem_range.mp hq)).2.1 e
  ·rw[List.nodup_iff_pairwise_ne,List.pairwise_map]
   exact List.Pairwise.imp_of_mem (fun{a b} ha hb hab y=>hab (inj a b (List.mem_range.mp ha) (List.mem_range.mp hb) y)) (List.nodup_iff_pairwise_ne.mp List.nodup_range)
  ·obtain⟨⟨xs,e⟩,_⟩:=l06 x hx
   rw[z,(new6 y hy).1]at e
   cases e
 have ne0:∀{x y:Addr} {o:HO},H0 x=none->H0 y=some o->x≠y:=fun e e1 z=>by rw[z,e1]at e;cases e
 have k0:H0 B.e=some (.dK B.kvs):=R0.bt.tab.kept
 have O:fP W:=by
  rw[eW]at ndf nfx|-
  exact⟨ndf,fun k hk=>⟨ne0 (R.m0 k hk) R0.hb,ne0 (R.m0 k hk) k0,ne0 (R.m0 k hk) u0,ne0 (R.m0 k hk) e0⟩,R.md,⟨ss.r,ss.o,ss.e,ss.u,ss.m⟩,k1,fun k hk=>a2j n5.2 hk,yZ (i:=0) n5.2 (by decide) (.inl rfl),fun k hk=>a2j n5.2 hk,bx,m5,n5,rfl,fun k hk=>⟨ne0 (R.g0 k hk) s0,ne0 (R.n0 k hk) s0⟩,fun k hk=>⟨nfx (R.g0 k hk) (by obtain⟨_,e⟩:=R.g k hk;rw[e];exact fun y=>by cases y),nfx (R.n0 k hk) (by rw[R.n k hk];exact fun y=>by cases y)⟩⟩
 have t26:H6 z2.2=some (eZ z2.2 []):=by
  obtain⟨e,n⟩:=kp0 _ _ t2
  simp only[List.mem_cons,List.not_mem_nil,or_false,not_or]at n
  exact R.kp _ _ (fun y=>n12 y.symm) n.1 n.2.1 n.2.2.2.1 n.2.2.2.2.1 n.2.2.2.2.2.1 e
 have py7:=py.keep kt
 have pz7:=pz.keep kt
 have S7:SB P w K mg base (mJ P w K mg base CG) CF CB CT z2.2 (bJ P w K mg base CG W fi fd lk ys ds).sx [] [] (fun _ _=> []) (fun _=>none) [] [] H7:=by
  refine⟨fun tb htb=> ?_,s7 _ _ R.d1,dX.nil,fun t c p v ys _ e=>(by cases e),fun x v _ _ e=>(by cases e),fun x v _ _ e=>(by cases e),fun x _ _ _=>rfl,fun x v _ _ e=>(by cases e),s7 _ _ R.d2,dX.nil,fun t c ys' B' g h=> ?_,fun t c ys' q x g e=> ?_,fun t c R' hR=> ?_,fun t c R' hR=> ?_,fun t c R' hR b hb=> ?_,fun t c R' hR p hp=> ?_,fun x R' hx hR=>⟨rfl,fun is v e=>(by cases e)⟩,fun t c R' j hR hj=>False.elim hj,⟨fun y=>(by cases y),fun a e=> ?_⟩,fun h=> .nil,fun b hb y=> ?_,⟨[],s7 _ _ t26,fun c hc=>by cases hc⟩⟩
  ·rw[List.mem_singleton.mp htb]
   obtain⟨df,hf⟩:=R.hf
   rw[eW]
   exact⟨⟨df,s7 _ _ hf⟩,⟨_,s7 _ _ R.hb,rfl⟩,b6.same s7,s7 _ _ R.d1,by decide⟩
  ·have g1:(bJ P w K mg base CG W fi fd lk ys ds).gv c=some ys':=(X1.gv_some (Y:=bJ P w K mg base CG W fi fd lk ys ds) g).2
   obtain⟨rfl,rfl⟩:=oR g1
   obtain⟨_,rfl⟩:=xG h
   exact⟨W.lA,O.k1,by rw[eW];exact s7 _ _ lA6⟩
  ·have g1:(bJ P w K mg base CG W fi fd lk ys ds).gv c=some ys':=(X1.gv_some (Y:=bJ P w K mg base CG W fi fd lk ys ds) g).2
   obtain⟨rfl,rfl⟩:=oR g1
   obtain⟨rfl,_⟩:=X1.gv_some (Y:=bJ P w K mg base CG W fi fd lk ys' ds) g
   show Pd K H7 x ((bJ P w K mg base CG W fi fd lk ys' ds).v ("t",cn 0,q))
   rw[qD (by decide)]
   exact(vD py7 (rL e)).pd
  ·obtain⟨_,k,hk,rfl,rfl⟩:=kC hR
   rw[eW]at hk|-
   obtain⟨dg,e⟩:=R.g k hk
   exact⟨⟨dg,s7 _ _ e⟩,⟨rfl,rfl⟩,a8L Ce⟩
  ·obtain⟨_,k,hk,rfl,rfl⟩:=kC hR
   rw[eW]at hk|-
   exact⟨s7 _ _ (R.m k hk),jV.nil⟩
  ·obtain⟨_,k,hk,rfl,rfl⟩:=kC hR
   have hb:b∈ [W.gr k,W.nl k]:=hb
   rw[eW]at hk hb
   simp only[List.mem_cons,List.not_mem_nil,or_false]at hb
   rcases hb with y|y<;>rw[y]
   ·obtain⟨dg,e⟩:=R.g k hk
    exact⟨_,s7 _ _ e,fun _ y=>(by cases y),fun _ y=>(by cases y),fun _ y=>(by cases y),fun _ y=>(by cases y)⟩
   ·exact⟨_,s7 _ _ (R.n k hk),fun _ y=>(by cases y),fun _ y=>(by cases y),fun _ y=>(by cases y),fun _ y=>(by cases y)⟩
  ·obtain⟨rfl,k,hk,rfl,rfl⟩:=kC hR
   have k5:k<ws.length:=by rw[eW]at hk;exact hk
   have et:(bJ P w K mg base CG W fi fd lk ys ds).sx.tree ("t",cn (k+ 1),p)=iP "t" [cn k] p:=by
    show iP "t" [cn (ci (cn (k+ 1))- 1)] p=_
    rw[kO (by omega)]
    rfl
   rw[et]
   obtain⟨dg,e⟩:=R.g k k5
   have e':H7 (W.gr k)=some (.ins CG dg (gK (W.nl k) (W.fa k))):=by rw[eW];exact s7 _ _ e
   have e'':H7 (W.nl k)=some (.lst ([cn k].map V.str)):=by rw[eW];exact s7 _ _ (R.n k k5)
   refine a4a e' e'' (show 1<=6 by decide) (fun z hz=> ?_)
   rw[List.mem_singleton.mp hz]
   refine⟨rfl,?_,hp.2.2⟩
   show cn k∈W.B.ord
   rw[O.od]
   exact List.mem_map.mpr ⟨k,List.mem_range.mpr (by omega),rfl⟩
  ·have e:some W.ca=some a:=e
   cases e
   rw[eW]
   exact s7 _ _ ca6
  ·obtain⟨xs,h⟩:=fxl b hb
   rw[h]at y
   cases y
 have N:eG P w K mg base CS CF CB CT CG z2.2 W fi fd lk ys ds [] [] (fun _ _=> []) (fun _=>none) [] [] csh (dC fun _=>none) H7:=by
  refine⟨S7,?_,?_,R.fl,?_,?_,py7,sd,fun y is v e=>(by cases e),?_,?_,?_,?_⟩<;>rw[eW]
  ·exact⟨d6,s7 _ _ s6⟩
  ·exact s7 _ _ R.hc
  ·exact ly
  ·exact ld
  ·exact⟨_,s7 _ _ vl6,pz7⟩
  ·exact s7 _ _ wa6
  ·exact la7
  ·intro q hq
   refine⟨_,(hlr q hq).2.2,List.length_replicate,fun p hp=> ?_⟩
   show(List.replicate ws.length V.non)[p]?=some .non
   exact List.getElem?_replicate_of_lt hp
 have fw:mF P w K mg base W H7:=by
  rw[eW]
  exact fun k hk=>(R.fn k hk).keep (cS.of s7)
 let L:=z2.2::W.s::W.fx++ (List.range W.n).map W.mc
 have hz:∀{x:Addr} {o:HO},H7 x=some o->(∀y,o≠ .lst y)->(∀y,o≠ .dK y)->(∀a b c,o≠ .ins a b c)->x≠z2.2->(∀y,o≠ .dT y)->nU H7 L x=some o:=fun{x o} ex n1 n2 n3 n4 n5=>a1J ex (fun hm=>by
  rcases List.mem_append.mp hm with hm|hm
  ·rcases List.mem_cons.mp hm with y|hm
   ·exact n4 y
   ·rcases List.mem_cons.mp hm with y|hm
    ·rw[y,eW]at ex
     have:=ex.symm.trans (s7 _ _ s6)
     exact n3 _ _ _ (Option.some.inj this)
    ·obtain⟨xs,h⟩:=fxl x hm
     rw[h]at ex
     exact n1 _ (Option.some.inj ex).symm
  ·obtain⟨k,hk,e⟩:=List.mem_map.mp hm
   have hk:=List.mem_range.mp hk
   rw[<- e,eW]at ex
   rw[eW]at hk
   have:=ex.symm.trans (s7 _ _ (R.m k hk))
   exact n2 _ (Option.some.inj this)) n5
 refine⟨nU H7 L,O,fun x o ex=>⟨fun hm=>(sI ex).1 (List.mem_append.mpr (.inl hm)),fun k hk y=>(sI ex).1 (List.mem_append.mpr (.inr (List.mem_map.mpr ⟨k,List.mem_range.mpr hk,y.symm⟩))),(sI ex).2.1⟩,fun x o ex=>(sI ex).2.2,⟨fw,fi,fd,lk,ys,ds,[],[],_,_,[],[],csh,N,?_⟩,?_,?_⟩
 ·rw[R.lc]
  omega
 ·have na:∀{o:HO},Hs a=some o->(∀φ,o≠ .ext φ)->(∀y,o≠ .dT y)->nU H7 L a=some o:=fun{o} ex n1 n4=>by
   obtain⟨x0,n⟩:=kp0 _ _ ex
   have nn:=n
   simp only[List.mem_cons,List.not_mem_nil,or_false,not_or]at nn
   have x6:=R.kp a o (fun y=>by rw[y,t1]at ex;exact n1 _ (Option.some.inj ex).symm) nn.1 nn.2.1 nn.2.2.2.1 nn.2.2.2.2.1 nn.2.2.2.2.2.1 x0
   refine a1J (s7 _ _ x6) (fun hm=> ?_) n4
   rcases List.mem_append.mp hm with hm|hm
   ·rcases List.mem_cons.mp hm with y|hm
    ·rw[y,t2]at ex
     exact n1 _ (Option.some.inj ex).symm
    ·rcases List.mem_cons.mp hm with y|hm
     ·rw[eW]at y
      exact nn.1 y
     ·rw[efx,List.mem_append]at hm
      rcases hm with hm|hm
      ·obtain⟨a1,a2,a3,a4,a5,a6,a7,a8,a9,a10⟩:=nn
       simp only[List.mem_cons,List.not_mem_nil,or_false]at hm
       rcases hm with y|y|y|y|y|y|y
       ·exact a2 y
       ·exact a3 y
       ·exact a4 y
       ·exact a7 y
       ·exact a8 y
       ·exact a9 y
       ·exact a10 y
      ·rw[(new6 a hm).1]at x6
       cases x6
   ·obtain⟨k,hk,e⟩:=List.mem_map.mp hm
    have hk:=List.mem_range.mp hk
    rw[eW]at hk e
    have:=R.m0 k hk
    have e:mc k=a:=e
    rw[e,x0]at this
    cases this
  rcases hS with(ex|⟨q,ex⟩)|h
  ·exact .inl (.inl (na ex nk nk))
  ·exact .inl (.inr ⟨q,na ex nk nk⟩)
  ·exact .inr h
 ·obtain⟨S,e,_⟩:=R.tb
  exact⟨S,hz (s7 _ _ e) nk nk (fun _ _ _ y=>by cases y) n12 nk⟩
end
section
inductive zG(K:Fg)(tabs:List (Addr×Addr))(vs:List V)(H:Hp)(Q:VK)(E':XK):Prop
 |mk (a:Addr) (ns:List Int):(vs= [.ref a])->(aN K H a (ns.map V.int))->(ns.length<=63)->(rN tabs H)->(∀H',qQ tabs H'->Q (.bl true) H')->zG K tabs vs H Q E'
theorem a6L(T:bC K mg){z2:Addr×Addr}(B1:mY K mg "_law_function" kK z1)(M1:jA mg base z1.1 z1.2)(B2:kJ K mg "Finder" "gathered" "Finder.gathered" gO z2)(M2:jA mg base z2.1 z2.2)(n12:z1.2≠z2.2){fd:FuncData}(F:kT K "law" "law" gY f fd):eY P w K mg base aF 18 f fd ["_law_script"] (zG K [z1,z2]):=by
 obtain⟨CS,Y⟩:=T.t_Sheet
 obtain⟨CF,Fi⟩:=T.t_Finder
 obtain⟨CB,Wb⟩:=T.t_Board
 obtain⟨CT,U⟩:=T.t_Table
 obtain⟨CG,Ce⟩:=T.t_Cells
 obtain⟨CE,Ru⟩:=T.t_Rule
 obtain⟨CR,R⟩:=T.t_Trial
 obtain⟨CV,VP⟩:=T.t_ValuePut
 obtain⟨CU,CC⟩:=T.t_ColumnSet
 obtain⟨CW,TT⟩:=T.t_TableTold
 have G_mixed:bH P w K mg base aF 1 "_law_mixed" ["_law_script","_law_k"] (oB K):=a04 T
 have GS:eM P w K mg base aF 3 CS ["self"] (yI CS CF):=a8g T Y Fi
 have G_table:aR P w K mg base aF 9 CS "table" ["self","name","many"] (yG CS CF CB CT):=a5p T Y Fi Wb U TT
 have G_give:aR P w K mg base aF 9 CS "give" ["self","table","column","values"] (zJ K CS CF CB CT):=a5H T Y Fi Wb U CC
 refine F.ok iA (fun vs H Q E h=> ?_) (fun cdv A outer s H vs Q E hr h=> ?_)
 ·obtain⟨a,ns,rfl,_⟩:=h
  rfl
 ·obtain⟨a,sc,rfl,hS,hl,hT,q⟩:=h
  have hcl:∀x,(kW P w K mg base f cdv A outer s H E).env.scope.names.lookup x=some .cell->∃c,(kW P w K mg base f cdv A outer s H E).env.cells.lookup x=some c:=fun x hx=>Option.isSome_iff_exists.mp (W.cellsFrom_some _ _ _ (.inl hx))
  obtain⟨tE,hE,qE⟩:=a65 (P:=P) (w:=w) T Y R Fi Wb U Ce VP (z1:=z1) B2 M2 (f:=f) (cdv:=cdv) A outer s H Q E hr q
  obtain⟨tL,hL,qL⟩:=a6Y (P:=P) (w:=w) T (f:=f) A outer s H E hE
  obtain⟨tR,hR,qR⟩:=a5e (P:=P) (w:=w) T Y Fi Wb U CC Ce Ru B1 M1 (f:=f) A outer s H E hr hL
  refine⟨_,(aK (cH (i:=1) iA.nd rfl ad (cG gZ bD (cG gG (bV G_mixed hr.mn aS (aA (pv 0) (aA bD aI))) bD)))
   (aK (cH (i:=2) iA.nd rfl ad (a8A GS hr.mn Y.c aS))
   (aK (cA (cC (pv 2) Y.cl G_table hr.mn aS (aA fX (aA (pv 1) aI))))
   (aK (a1y (te:=lV _ (rC (oB K) [] E0 (rT (nK 1) (rT (lV _ (tC (.int 2)) (nK 0)) mT))) (tC (.int 12))) (i:=3) iA.nd rfl rfl (mC (sc:=aO gY) (N:=rG) (cp:=[(0,"_law_script")]) hcl) rfl rfl (by decide) (pK rfl T.range (aA (pv 1) aI)) (fun _ _ _ _ _=>mD) (fun _ _ _ _ _=>(cG gG (bV G_mixed hr.mn aS (aA (pv 1) (aA (cG gZ bD (pv 0)) aI))) bD)) rfl)
   (aK (cA (cC (pv 2) Y.cl G_give hr.mn aS (aA fX (aA fX (aA (mV rH rfl T.list jR (aA (pv 3) aI)) aI)))))
   (aK (cH (i:=4) iA.nd rfl ad (oP (te:=lV _ (rC (oB K) [] E0 (rT (nK 1) (rT (lV _ (tC (.int 10)) (nK 0)) mT))) (tC (.int 5))) (mC (sc:=aO gY) (N:=rG) (cp:=[(0,"_law_script")]) hcl) rfl rfl (by decide) (pK rfl T.range (aA (cG gZ bD (cG gG (bV G_mixed hr.mn aS (aA (pv 0) (aA bD aI))) bD)) aI)) (fun _ _ _ _ _=>mD) (fun _ _ _ _ _=>(cG gG (bV G_mixed hr.mn aS (aA (pv 1) (aA (cG gZ bD (pv 0)) aI))) bD))))
   (aK (cH (i:=5) iA.nd rfl ad (gW aI))
   hR))))))),?_⟩
  have t1:H z1.2=some (eZ z1.2 []):=hT _ (by simp)
  have t2:H z2.2=some (eZ z2.2 []):=hT _ (by simp)
  refine⟨_,rfl,a,sc,_,rfl,hS,hl,by decide,by decide,fun m1 h1 h2=>⟨_,_,rfl,rfl,(show(0:Int)<5 by decide),_,_,rfl,rfl,?_⟩⟩
  have e1:=Int.emod_nonneg m1 (show(5:Int)≠0 by decide)
  have e2:=Int.emod_lt_of_pos m1 (show(0:Int)<5 by decide)
  obtain⟨m,em⟩:∃m:Nat,1+ m1% 5=(m:Int):=⟨(1+ m1% 5).toNat,by omega⟩
  have m5:1<=m/\m<=5:=by omega
  dsimp only
  rw[em]
  intro s' dSh hs hds ne
  refine⟨s',dSh,rfl,aJ,fun H2 bd ch fi0 fd0 lk0 df fr nfl g1 g2 g3 g4 g5 g6 b1=>⟨rfl,?_⟩⟩
  have s2:aH H H2:=fun x o e=>b1 _ _ (bE e hs) (by rw[aG (bE e hs),aG (bE e hds)];exact e)
  have fr0:∀x∈ [bd,ch,fi0,fd0,lk0],H x=none:=fun x hx=>(jT (jT (fr x hx)).1).1
  refine⟨_,rfl,s',dSh,_,rfl,g1,fL,_,rfl,s',bd,ch,[],[],"t",m,rfl,⟨⟨dSh,fi0,g1⟩,g3,g2⟩,by decide,by decide,iZ.2,rfl,by omega,fun H3 fi' fd2 lk' c1 b g r e ru me od Fr3 hB3 sp3 fr3 u3=> ?_⟩
  obtain⟨⟨dS3,sS3⟩,ch3,bd3,_⟩:=Fr3
  have n2:∀{x y:Addr} {o:HO},y∈ [b,g,r,e,ru,me,od] ->H2 x=some o->x≠y:=fun hy ex z=>by rw[z,fr3 _ hy]at ex;cases ex
  have k3:∀{x:Addr} {o:HO},H x=some o->H3 x=some o:=fun{x o} e=>u3 _ _ (fun y=>by rw[y,hs]at e;cases e) (fun y=>by rw[y,fr0 ch (by simp)]at e;cases e) (fun y=>by rw[y,fr0 bd (by simp)]at e;cases e) (s2 _ _ e)
  have hs2:∀{x:Addr} {o:HO},H x=some o->x≠s'/\x≠ch/\x≠bd:=fun{x o} ex=>⟨bE ex hs,(fun y=>by rw[y,fr0 ch (by simp)]at ex;cases ex),(fun y=>by rw[y,fr0 bd (by simp)]at ex;cases ex)⟩
  refine⟨_,rfl,(m:Int),rfl,by omega,by omega,fun vl hvl=> ?_⟩
  rw[Int.toNat_natCast]
  refine vW (lo:=0) (n:=m) (fun i ys Hi=>aH H3 Hi/\ys.length=i/\∃ds,dE K Hi ys ds/\∀d∈ds,Sm 12 d) ⟨aH.new hvl,rfl,[],.nil,fun d hd=>(by cases hd)⟩ ?_ ?_
  ·rintro i ys Hi hi hiD ⟨si,li,ds,py,sd⟩
   refine⟨_,rfl,_,rfl,_,_,rfl,rfl,a,sc,_,rfl,aH.seq (H:=H) (fun x o ex=>si _ _ (k3 ex)) hS,hl,by omega,by omega,fun m2 h3 h4=>⟨_,_,rfl,rfl,(show(0:Int)<12 by decide),?_⟩⟩
   have g1:=Int.emod_nonneg m2 (show(12:Int)≠0 by decide)
   have g2:=Int.emod_lt_of_pos m2 (show(0:Int)<12 by decide)
   have kt:bS Hi (upd Hi vl (.lst (ys++ [.int (m2% 12)]))):=bS.upd hiD nk
   refine⟨hiD,cY (by omega),si.on hvl,by rw[List.length_append,li];rfl,ds++ [.int (m2% 12)],Paired.snoc (.inl ⟨_,rfl,rfl,rY _ (by omega) (by omega)⟩) (dE.keep kt py),fun d hd=> ?_⟩
   rcases List.mem_append.mp hd with hd|hd
   ·exact sd d hd
   ·rw[List.mem_singleton.mp hd]
    exact .inl ⟨_,rfl,g1,by omega⟩
  rintro zs H4 vl4 ⟨s4,lz,ds,pz,sd⟩
  have ld:ds.length=m:=by rw[<- Paired.length pz];exact lz
  refine⟨_,rfl,s',dS3,_,rfl,s4 _ _ sS3,fL,_,rfl,vl,_,rfl,.inl (aN.of vl4),fun hd hhd=> ?_⟩
  have s4':=aH.new (o:=.lst zs) hhd
  have hd4:upd H4 hd (.lst zs) hd=some (.lst zs):=aJ
  generalize upd H4 hd (.lst zs)=H5 at s4' hd4|-
  have s35:=s4.trans s4'
  have hB5:=hB3.same s35
  have od3:H3 od=some (.lst (([]:List Str).map V.str)):=hB3.ord
  have nhd:hd≠od:=fun y=>by rw[y,s4 _ _ od3]at hhd;cases hhd
  have ss3:lP bd ch ⟨b,g,r,e,ru,me,od,eJ 0 m,(m:Int),[],[],[],[]⟩:=⟨n2 (by simp) g3,n2 (by simp) g3,n2 (by simp) g2,n2 (by simp) g2,n2 (by simp) g2⟩
  refine⟨s',bd,ch,hd,[.ref c1],[((.inr "t":aB),V.ref b)],"t","a",zs,ds,⟨b,g,r,e,ru,me,od,eJ 0 m,(m:Int),[],[],[],[]⟩,rfl,⟨⟨dS3,fi',s35 _ _ sS3⟩,s35 _ _ ch3,s35 _ _ bd3⟩,(show 1<900 by decide),iZ.2,rfl,hB5,sp3,ss3,⟨rfl,fun h=>by cases h⟩,kQ (k:=0) (by decide),hd4,nhd,dE.keep (bS.of s4') pz,by show zs.length=(eJ 0 m).length;rw[pR];exact lz,by omega,(show 0<8 by decide),(show 0<8 by decide),fun H6 fi5 fd5 lk5 c5 lA Fr5 hlA hB6 lA6 u5=> ?_⟩
  obtain⟨⟨dS6,sS6⟩,ch6,bd6,hf6,fd6,lk6,fl6,_⟩:=Fr5
  have k6:∀{x:Addr} {o:HO},H5 x=some o->x≠s'->x≠ch->x≠od->x≠e->H6 x=some o:=fun ex a1 a2 a3 a4=>u5 _ _ a1 a2 a3 a4 ex
  have h06:∀{x:Addr} {o:HO},H x=some o->H6 x=some o:=fun{x o} ex=>k6 (s35 _ _ (k3 ex)) (hs2 ex).1 (hs2 ex).2.1 (n2 (by simp) (s2 _ _ ex)) (n2 (by simp) (s2 _ _ ex))
  have vlne:∀{x:Addr} {o:HO},H3 x=some o->vl≠x:=fun ex y=>by rw[y,ex]at hvl;cases hvl
  have vl6:H6 vl=some (.lst zs):=k6 (s4' _ _ vl4) (vlne sS3) (vlne ch3) (vlne od3) (vlne hB3.tab.kept)
  have lAne:∀{x:Addr} {o:HO},H5 x=some o->lA≠x:=fun ex y=>by rw[y,ex]at hlA;cases hlA
  have hS6:aN K H6 a (sc.map V.int):=aH.seq (H:=H) (fun x o ex=>h06 ex) hS
  refine⟨_,rfl,a,sc,_,rfl,hS6,hl,by decide,by decide,fun m3 h5 h6=>⟨_,_,rfl,rfl,(show(0:Int)<4 by decide),_,_,rfl,rfl,?_⟩⟩
  have f1:=Int.emod_nonneg m3 (show(4:Int)≠0 by decide)
  have f2:=Int.emod_lt_of_pos m3 (show(0:Int)<4 by decide)
  refine⟨_,rfl,by omega,by omega,fun wa hwa=> ?_⟩
  obtain⟨n,en⟩:∃n:Nat,2+ m3% 4=(n:Int):=⟨(2+ m3% 4).toNat,by omega⟩
  have n5:2<=n/\n<=5:=by omega
  rw[en,Int.toNat_natCast]
  refine vW (lo:=0) (n:=n) (fun i ys Hi=>aH H6 Hi/\∃ws:List Int,ys=ws.map V.int/\ws.length=i) ⟨aH.new hwa,[],rfl,rfl⟩ ?_ ?_
  ·rintro i ys Hi hi hiD ⟨si,ws,rfl,lw⟩
   refine⟨_,rfl,_,rfl,_,_,rfl,rfl,a,sc,_,rfl,si.seq hS6,hl,by omega,by omega,fun m2 h3 h4=>⟨_,_,rfl,rfl,(show(0:Int)<5 by decide),?_⟩⟩
   exact⟨hiD,cY (by rw[List.length_map];omega),si.on hwa,ws++ [m2% 5],by rw[List.map_append];rfl,by rw[List.length_append,lw];rfl⟩
  rintro ys H7 wa7 ⟨s7,ws,rfl,lw⟩
  refine⟨sl,fun ca hca=> ?_⟩
  have s8:=aH.new (o:=.lst []) hca
  have c8:upd H7 ca (.lst []) ca=some (.lst []):=aJ
  generalize upd H7 ca (.lst [])=H8 at s8 c8|-
  have s68:=s7.trans s8
  have wane:∀{x:Addr} {o:HO},H6 x=some o->wa≠x:=fun ex y=>by rw[y,ex]at hwa;cases hwa
  have cane:∀{x:Addr} {o:HO},H7 x=some o->ca≠x:=fun ex y=>by rw[y,ex]at hca;cases hca
  have r3:H3 r=some (.lst (eJ 0 m)):=hB3.tab.rows
  have e3:H3 e=some (.dK []):=hB3.tab.kept
  have u3':H3 ru=some (.dK []):=hB3.rul
  have m3':H3 me=some (.dK []):=hB3.mem
  have o6:H6 od=some (.lst [.str "a"]):=hB6.ord
  have r6:H6 r=some (.lst (eJ 0 m)):=hB6.tab.rows
  have u6:H6 ru=some (.dK []):=hB6.rul
  have m6:H6 me=some (.dK []):=hB6.mem
  let B:BM:=⟨b,g,r,e,ru,me,od,eJ 0 m,(m:Int),aQ [] (.inr "a":aB) (.ref lA),[],[],["a"]⟩
  have hB8:cD CB CT H8 B:=cD.same (B:=B) hB6 s68
  have sp:B.sep:=⟨sp3.ro,sp3.eu,sp3.em,sp3.um⟩
  have ss:lP bd ch B:=⟨ss3.r,ss3.o,ss3.e,ss3.u,ss3.m⟩
  have t18:H8 z1.2=some (eZ z1.2 []):=s68 _ _ (h06 t1)
  obtain⟨df6,hf6⟩:=hf6
  have R0:gT P w K mg base CS CF CB CT CG z1.2 s' ch bd ca B ws H8 0 (fun _=>s') (fun _=>s') (fun _=>s') (fun _=>s') fi5 fd5 lk5 ([.ref c1] ++ [.ref c5]) H8:=by
   refine⟨⟨dS6,s68 _ _ sS6⟩,s68 _ _ ch6,s68 _ _ bd6,⟨df6,s68 _ _ hf6⟩,s68 _ _ fd6,s68 _ _ lk6,fl6,hB8,fun k h=>by{omega},fun k h=>by{omega},fun k h=>by{omega},fun i k h=>by{omega},fun k h=>by{omega},fun k h=>by{omega},fun k h=>by{omega},fun k h=>by{omega},⟨[],t18,fun c hc=>by cases hc⟩,fun x o _ _ _ _ _ _ ex=>ex,fun x hx=> ?_,rfl⟩
   have hx:x∈ [s',ch,od,ru,me]:=hx
   simp only[List.mem_cons,List.not_mem_nil,or_false]at hx
   rcases hx with y|y|y|y|y<;>rw[y]
   ·rw[s68 _ _ sS6];exact fun y=>by cases y
   ·rw[s68 _ _ ch6];exact fun y=>by cases y
   ·rw[s68 _ _ o6];exact fun y=>by cases y
   ·rw[s68 _ _ u6];exact fun y=>by cases y
   ·rw[s68 _ _ m6];exact fun y=>by cases y
  have n5':2<=ws.length/\ws.length<=5:=by omega
  have wa8:=s8 _ _ wa7
  refine qR _ H8 a s' ch bd ca vl wa B m ws _ fi5 fd5 lk5 _ _ _ _ _ _ _ _ n5'.2 sp ss wa8 (wane ch6) (wane o6) R0 (fun H9 gr nl fa mc fi9 fd9 lk9 csh9 o6' R9=> ?_)
  obtain⟨S9,t9,_⟩:=R9.tb
  have wa9:H9 wa=some (.lst (ws.map V.int)):=R9.kp wa _ (fun y=>by rw[y,t18]at wa8;cases wa8) (wane sS6) (wane ch6) (wane o6) (wane u6) (wane m6) wa8
  refine qL _ H9 a s' vl wa ca m _ _ _ _ _ _ _ _ (by omega) (by rw[List.length_map];omega) wa9 (fun H10 la lr s10 hla la10 hlr inj=> ?_)
  rw[List.length_map]at hlr
  have ha1:∀{x:Addr} {o:HO},H x=some o->x≠vl/\x≠lA/\x≠wa/\x≠ca:=fun{x o} ex=>⟨(vlne (k3 ex)).symm,(lAne (s35 _ _ (k3 ex))).symm,(wane (h06 ex)).symm,(cane (s7 _ _ (h06 ex))).symm⟩
  have nd7:[ch,B.r,B.od,lA,ca,vl,wa].Nodup:=by
   show [ch,r,od,lA,ca,vl,wa].Nodup
   simp only[List.nodup_cons,List.mem_cons,List.not_mem_nil,or_false,not_or]
   exact⟨⟨ss.r,ss.o,(lAne (s35 _ _ ch3)).symm,(cane (s7 _ _ ch6)).symm,(vlne ch3).symm,(wane ch6).symm⟩,⟨sp.ro,(lAne (s35 _ _ r3)).symm,(cane (s7 _ _ r6)).symm,(vlne r3).symm,(wane r6).symm⟩,⟨(lAne (s35 _ _ od3)).symm,(cane (s7 _ _ o6)).symm,(vlne od3).symm,(wane o6).symm⟩,⟨(cane (s7 _ _ lA6)).symm,lAne (s4' _ _ vl4),(wane lA6).symm⟩,⟨cane (s7 _ _ vl6),cane wa7⟩,(wane vl6).symm,not_false,List.nodup_nil⟩
  have k1:aE B.kvs (.inr "a":aB)=some (.ref lA):=by
   show aE (aQ [] (.inr "a":aB) (.ref lA)) (.inr "a":aB)=_
   rw[fQ,if_pos rfl]
  have kt8:bS H4 H8:=fun x xs ex=>s68 _ _ (k6 (s4' _ _ ex) (fun y=>by rw[y,s4 _ _ sS3]at ex;cases ex) (fun y=>by rw[y,s4 _ _ ch3]at ex;cases ex) (fun y=>by rw[y,s4 _ _ od3]at ex;cases ex) (fun y=>by rw[y,s4 _ _ e3]at ex;cases ex))
  have kp0:∀x o,H x=some o->H8 x=some o/\x∉ [s',ch,B.r,B.od,B.ru,B.me,lA,ca,vl,wa]:=fun x o ex=>by
   refine⟨s68 _ _ (h06 ex),?_⟩
   show x∉ [s',ch,r,od,ru,me,lA,ca,vl,wa]
   simp only[List.mem_cons,List.not_mem_nil,or_false,not_or]
   exact⟨(hs2 ex).1,(hs2 ex).2.1,n2 (by simp) (s2 _ _ ex),n2 (by simp) (s2 _ _ ex),n2 (by simp) (s2 _ _ ex),n2 (by simp) (s2 _ _ ex),(ha1 ex).2.1,(ha1 ex).2.2.2,(ha1 ex).1,(ha1 ex).2.2.1⟩
  have pz8:=dE.keep kt8 pz
  obtain⟨Hz,O,Z,sz,St,hSz,hz1⟩:=a5R (P:=P) (w:=w) (K:=K) (mg:=mg) (base:=base) (a:=a) (sc:=sc) (zs:=zs) (ys:=zs) (ds:=ds) (vl:=vl) (wa:=wa) (lA:=lA) (Hs:=H) (z2:=z2) Ce n12 R0 R9 m5 n5' ss nd7 k1 rfl (s68 _ _ lA6) c8 (s68 _ _ vl6) wa8 pz8 pz8 lz ld sd kp0 t1 t2 hS s10 hla la10 hlr inj rfl
  exact qE H10 Hz _ a sc _ _ _ _ _ _ O Z sz St hSz hl hz1
end
theorem walk{l:W.OpenLaw}{q:Program}{loose:List Str}{XP:(Str->Option Value)->Heap->Prop}{YP:World->Heap->Prop}{d:DefRec}{K:Params->Fg}(hn:l.most=some 63)(hdf:d.params.defaults= [])(hdn:d.name= "law")
 (hY:∀(w:World) (h:Heap),YP w h->(K w.params).In h)
 (recs:((PyProof.Rows.recsOf q).find? (fun e=>e.name==("_law_function":Str))).isSome=true)
 (F:∀(w:World) (mg:Str->Option Value) (h:Heap),YP w h->(K w.params).In h->h.Ns mainGlobals mg->bC (K w.params) mg/\True/\Tbs h (K w.params) mg):
 W.WalkO q loose XP YP l.row.toRowW d [] (fun f vs=>PySem.call f vs):=
 L2.a5s (n:=63) (k:=18) (x:= "_law_script") (CX:=fun _=>aF) (sp:=fun w tabs=>zG (K w.params) tabs) hn (by decide) hdf ⟨rfl,by decide,by decide⟩ hY
  (fun w mg fa h Yy KX G hmg=>by
   obtain⟨T,TD,TB⟩:=F w mg h Yy KX G
   obtain⟨f,fd,F4,hm⟩:=T.d_law.ex
   rw[hdn]at hmg
   have e:=hmg.symm.trans hm
   cases e
   obtain⟨z_law_function,z_Finder_gathered,B_law_function,B_Finder_gathered,ne_law_function_Finder_gathered,te_Finder_gathered⟩:=TB.bs
   have r_law_function:=recs
   refine⟨T.notabs,[z_law_function,z_Finder_gathered],fun z hz=> ?_,fd,fun s u=> ?_,fun base kb nb mk=> ?_⟩
   ·simp only[List.mem_cons,List.not_mem_nil,or_false]at hz
    rcases hz with rfl|rfl
    ·exact .inl ⟨⟨_,r_law_function,B_law_function.tab⟩⟩
    ·exact .inr ⟨B_Finder_gathered.hd,te_Finder_gathered⟩
   ·obtain⟨oc,od,kV,doc,pm,an,cdv,ct,osl,rfl,_⟩:=F4.ex
    exact .of_eq rfl
   ·exact a6L T B_law_function (mk _ (by simp)) B_Finder_gathered (mk _ (by simp)) ne_law_function_Finder_gathered F4)
  (fun _ _ _ a ns hl hT hS=>⟨a,ns,rfl,hS,hl,hT,fun _ hT'=>⟨rfl,hT'⟩⟩) fun _ _ _ _ _ z=>z
end My
variable{J:Option My.GT->Hp->Prop}{wo wo':My.aU->Option (List Int×V)}{tabs:List (Str×My.BM)}{kf kf' kl:List (My.Ky×V)}{Vc:My.aU->Prop}{adj:My.aC->List My.aC}{cm:My.aC->Option My.aC}{nodes wz fz:List My.aC}
namespace PySem.W.Fast
abbrev Z:=Nat
def tw10642194069813474710:=Z
def tw14768609142902656839:=Z
def tw8089394563623461014:=Z
def tw13637948009563557578:=Z
def tw15923880327383424077:=Z
def tw2208010716324337781:=Z
def tw3820202881635047079:=Z
def tw16117954839154978730:=Z
def tw8302636670921893236:=Z
def tw8691730332029525253:=Z
def tw17722486486637832674:=Z
def tw1964231057821352490:=Z
def tw46766495421735592:=Z
def tw356349357271222273:=Z
def tw18308488683855534845:=Z
def tw16083091321951036006:=Z
def tw10305534847628670119:=Z
def tw12780786489999053516:=Z
def tw15883965232869581432:=Z
def tw5193751456092362942:=Z
def tw8432865327508765829:=Z
def tw8160876911938178418:=Z
def tw6910416715618938575:=Z
def tw8774532608694109733:=Z
def tw5164865213031253958:=Z
def tw4587420667137970361:=Z
def tw13820948351169643462:=Z
def tw14545001550570485873:=Z
def tw7370835054193287079:=Z
def tw1585447531025059699:=Z
def tw15869192325605529816:=Z
def tw7537453799299757837:=Z
def tw3525778205339091769:=Z
def tw12421654847133118257:=Z
def tw10321881649654363552:=Z
def tw4094902732561059317:=Z
def tw13230116311428625731:=Z
def tw18098495346086370947:=Z
def tw4454824218147580499:=Z
def tw7995748196654813076:=Z
def tw16673641602206097416:=Z
def tw4029648746567511801:=Z
def tw11682863761762590485:=Z
def tw14482213054373509285:=Z
def tw12026429719256888745:=Z
def tw9294762913379123518:=Z
def tw17917323066894276395:=Z
def tw3881759207543849180:=Z
def tw17991946670622552487:=Z
def tw429920932636628880:=Z
def tw7934536846218158946:=Z
def tw14001850325966395696:=Z
def tw9491983085128765249:=Z
def tw14780163526855496432:=Z
def tw47898348265155151:=Z
def tw12045410774322564932:=Z
def tw2560416817003570201:=Z
def tw10066368734749969433:=Z
def tw6030340580953485206:=Z
def tw2430855008646217138:=Z
def tw4133918031989798584:=Z
def tw3081515474851311437:=Z
def tw6119830616150850158:=Z
def tw565618074236429174:=Z
def tw15298718940109596374:=Z
def tw18144787990782629630:=Z
def tw12927082801719057614:=Z
def tw5763005656623022594:=Z
def tw13634214215421398348:=Z
def tw14638466792973365989:=Z
def tw8651325740817541263:=Z
def tw10351148171009159389:=Z
def tw306944783800850300:=Z
def tw5564721144359593501:=Z
def tw12572526305029221637:=Z
def tw8985641901615799092:=Z
def tw13478116904563510562:=Z
def tw17019823386058573718:=Z
def tw11155177067482696287:=Z
def tw5612157713692703344:=Z
def tw16325206240437780134:=Z
def tw14944409940183695694:=Z
def tw7974018647269469826:=Z
def tw3462744477196266571:=Z
def tw10261957111123576572:=Z
def tw14271981036168386517:=Z
def tw10687761876915592433:=Z
def tw13546998305580509706:=Z
def tw10477458882811994129:=Z
def tw2557875495188215156:=Z
def tw7671232714960218241:=Z
def tw12325157909234309482:=Z
def tw11168773759636673638:=Z
def tw2366117790853627229:=Z
def tw7442316121754950396:=Z
def tw5442376308207577053:=Z
def tw8307441090210242757:=Z
def tw13957032239082935049:=Z
def tw13716447409566268880:=Z
def tw15015465833422229457:=Z
def tw2377739426794691832:=Z
def tw15467026603846255125:=Z
def tw6101715493511905106:=Z
def tw7796392101912407683:=Z
def tw3932917884011155675:=Z
def tw5600274572274368875:=Z
def tw10262172141355138295:=Z
def tw9516529729322016898:=Z
def tw9878760864035406713:=Z
def tw10547216944024470802:=Z
def tw4168981499160799814:=Z
def tw15554686225277832797:=Z
def tw9379452075770813826:=Z
def tw9001950445504491694:=Z
def tw2427044250599318283:=Z
def tw11571068306878965060:=Z
def tw1862437877936551540:=Z
def tw9061448033149941554:=Z
def tw18378172444229289700:=Z
def tw5703972898009553561:=Z
def tw7607047041769390640:=Z
def tw10850106155070143337:=Z
def tw5770335387608204093:=Z
def tw12391153219602568557:=Z
def tw9470987281208732801:=Z
def tw5078684207960866057:=Z
def tw2716306886266277799:=Z
def tw17008752756217865113:=Z
def tw3784597100980601926:=Z
def tw12670208675853726948:=Z
def tw17915345241966116025:=Z
def tw11954927659189120582:=Z
def tw4141792397006687075:=Z
def tw18119027427157408362:=Z
def tw10279023291768485331:=Z
def tw11181931809720689623:=Z
def tw3091122479166090078:=Z
def tw9716524761386430165:=Z
def tw9269107309355947435:=Z
def tw4144530262646671803:=Z
def tw6278872837376100828:=Z
def tw11971684280653262543:=Z
def tw15093824217488483916:=Z
def tw13337360511784128936:=Z
def tw8471258015158360709:=Z
def tw582819741392396957:=Z
def tw1067063679399040627:=Z
def tw16017409175387209490:=Z
def tw8700668760182434777:=Z
def tw10126025264071210560:=Z
def tw12014142296701148234:=Z
def tw17729215425099891130:=Z
def tw9908020792310056985:=Z
def tw17006884143641717271:=Z
def tw5690079969796313131:=Z
def tw8150499915286187000:=Z
def tw17477984365912723595:=Z
def tw15988427973907653165:=Z
def tw15999353877984560429:=Z
def tw11215072509829574953:=Z
def tw17346515552799259946:=Z
def tw16969547578108744193:=Z
def tw16668327619925817355:=Z
def tw8081603854216285627:=Z
def tw15104699692860150307:=Z
def tw3028878929983912359:=Z
def tw4442628145435768073:=Z
def tw5334884195482693131:=Z
def tw10226301254361379006:=Z
def tw11041755553673647762:=Z
def tw7607783354344663122:=Z
def tw18064029073690398106:=Z
def tw6954248232868406799:=Z
def tw14966756684924784472:=Z
def tw6754939004495669081:=Z
def tw15733911681783799348:=Z
def tw17334357050337684261:=Z
def tw1528010507270403518:=Z
def tw6298756005949506062:=Z
def tw9213967198055969549:=Z
def tw13527195007650302348:=Z
def tw14498929712545339576:=Z
def tw13971461683847727108:=Z
def tw5984455403330884226:=Z
def tw4108466470977256463:=Z
def tw9241441982052951889:=Z
def tw17363260498789714991:=Z
def tw6025487168079120187:=Z
def tw13288374568915462350:=Z
def tw16857552340980599933:=Z
def tw6476518597083646318:=Z
def tw2899036561034029754:=Z
def tw1951189541315951195:=Z
def tw7067999216298289563:=Z
def tw16163231949182369082:=Z
def tw11772509153566599504:=Z
def tw3589750845353937604:=Z
def tw7506861495155825354:=Z
def tw6881092069813333112:=Z
def tw5236222297911479759:=Z
def tw2784459482904888082:=Z
def tw10420328501409371131:=Z
def tw16455031295956505095:=Z
def tw14510221164569557518:=Z
def tw7704045768091433130:=Z
def tw17297788272001613135:=Z
def tw8483273371176416954:=Z
def tw3159355842897968392:=Z
def tw14774492015997360552:=Z
def tw11394896557287120494:=Z
def tw12891300360555679344:=Z
def tw1290136470549364270:=Z
def tw14805197570475433188:=Z
def tw17043505073654647988:=Z
def tw11578014693944671548:=Z
def tw7627162831293891754:=Z
def tw1844908778830331006:=Z
def tw14350473750435103087:=Z
def tw5452664953374217932:=Z
def tw12466167260127333112:=Z
def tw14825444406988377072:=Z
def tw244682020866029618:=Z
def tw9252347003438043155:=Z
def tw17438802562838710856:=Z
def tw10854209444933936836:=Z
def tw11720394784947580928:=Z
def tw18188753954090828525:=Z
def tw11515818256963537568:=Z
def tw14805594702688465436:=Z
def tw5322415840582938125:=Z
def tw15497206164744530222:=Z
def tw16262121932659162412:=Z
def tw3283594957242626147:=Z
def tw18264686720329485656:=Z
def tw6589325369655024783:=Z
def tw8626406235881007543:=Z
def tw17967692756986454406:=Z
def tw13828948166131434458:=Z
def tw1105732988380744755:=Z
def tw15247283722158406285:=Z
def tw13330051336310500370:=Z
def tw6379524510824018598:=Z
def tw14679305105878666752:=Z
def tw15204201441354556804:=Z
def tw8006504293719138256:=Z
def tw12869856740686067634:=Z
def tw2875789290776642867:=Z
def tw6609530775471859071:=Z
def tw11834981539436457684:=Z
def tw1183393669752287892:=Z
def tw13065208874115703452:=Z
def tw15758725721518140902:=Z
def tw3281910277265524114:=Z
def tw14676235975763802998:=Z
def tw10529214863270702949:=Z
def tw11946817126029990418:=Z
def tw17531743301611758619:=Z
def tw1936737317186438446:=Z
def tw13373938372572652358:=Z
def tw11323461967495360996:=Z
def tw4093514559954919160:=Z
def tw4157031178485161516:=Z
def tw7647324763633817847:=Z
def tw7946339126981615449:=Z
def tw8151527906805226396:=Z
def tw18422642045998657444:=Z
def tw8812328493211572579:=Z
def tw17159417141434936574:=Z
def tw17493290671813539116:=Z
def tw2410218911827388916:=Z
def tw4946749473279245037:=Z
def tw12569859439095432596:=Z
def tw4580232928810685093:=Z
def tw6790751076016670980:=Z
def tw15120799167300482168:=Z
def tw680470338594724010:=Z
def tw9911376908463203176:=Z
def tw4206991484532477797:=Z
def tw8495367947739302961:=Z
def tw6089393723536608940:=Z
def tw3643767431878248678:=Z
def tw18010557480523009387:=Z
def tw5070368377123746719:=Z
def tw14682643622262860024:=Z
def tw4832345439368936675:=Z
def tw6382512207826114583:=Z
def tw9297426415524887089:=Z
def tw13479223100009689180:=Z
def tw16321131618202084126:=Z
def tw14053709715443488771:=Z
def tw13657242346892307232:=Z
def tw13359069039938962842:=Z
def tw14635293188645282440:=Z
def tw12205609778022612795:=Z
def tw3681119615251668724:=Z
def tw15487933224244171080:=Z
def tw12560412047165956903:=Z
def tw3231748385077838053:=Z
def tw9238349815779217222:=Z
def tw17176409939186332158:=Z
def tw16238307007059288208:=Z
def tw9442551523119596248:=Z
def tw6055468682382518364:=Z
def tw17757567631410311686:=Z
def tw17056972428562291148:=Z
def tw18291135609914544423:=Z
def tw7543195242148144206:=Z
def tw4127817538467611758:=Z
def tw3419220106204365432:=Z
def tw201120071625954693:=Z
def tw5144045082609437604:=Z
def tw6687797528988166211:=Z
def tw17121868268947233903:=Z
def tw14555415137006179122:=Z
def tw9748183080845289721:=Z
def tw5370271913956325155:=Z
def tw8774727006188558872:=Z
def tw14734545454881761495:=Z
def tw7633462956835064331:=Z
def tw17370682072401772943:=Z
def tw10582204056159988112:=Z
def tw17746335557665362347:=Z
def tw6990650720699995525:=Z
def tw456261223179352915:=Z
def tw17635687400266094419:=Z
def tw16386533537078065442:=Z
def tw11118759248186749507:=Z
def tw8967707193268903345:=Z
def tw11736507464921041861:=Z
def tw3634662539976895341:=Z
def tw5307831004511152137:=Z
def tw4840620933109820863:=Z
def tw845160161622935365:=Z
def tw3174080406810518259:=Z
def tw13370521880584353106:=Z
def tw1976115252720863920:=Z
def tw10584192638635997536:=Z
def tw3298069068678045826:=Z
def tw14182348281895400228:=Z
def tw18429382020060541341:=Z
def tw2818008141825226767:=Z
def tw15730675512307940117:=Z
def tw9329928490292857093:=Z
def tw91908279257652597:=Z
def tw11079592624130757774:=Z
def tw4842633776495554996:=Z
def tw16743676102064775276:=Z
def tw16561228821566499263:=Z
def tw11959369491632545396:=Z
def tw16167603847661926341:=Z
def tw13955696271225473809:=Z
def tw6919760581747944158:=Z
def tw4888323842527034133:=Z
def tw18437111216246726606:=Z
def tw6266953108700019355:=Z
def tw11419085915719614916:=Z
def tw7462464253629715203:=Z
def tw2171180845078693782:=Z
def tw15195531906455630367:=Z
def tw13477399041482470787:=Z
def tw4590507365618803939:=Z
def tw11702976428438455999:=Z
def tw9004216332248883818:=Z
def tw10703452024951478307:=Z
def tw12163250308285826093:=Z
def tw10049705778205187587:=Z
def tw11909962874374362838:=Z
def tw13866987589745745796:=Z
def tw12952724571183934207:=Z
def tw4156965091209545854:=Z
def tw8005803332170234595:=Z
def tw18284278424465494138:=Z
def tw15176101281334282228:=Z
def tw240666396900721458:=Z
def tw870439783826501445:=Z
def tw12061670206238339199:=Z
def tw7221589161978107010:=Z
def tw4066618169307698106:=Z
def tw10634859122676651986:=Z
def tw16975593838043333106:=Z
def tw956988943676231828:=Z
def tw9067897535632270437:=Z
def tw12911669773284376935:=Z
def tw16299175938190348275:=Z
def tw6530409476303752624:=Z
def tw3073417586531324020:=Z
def tw18309922046211075142:=Z
def tw827413554574184883:=Z
def tw1153076849993709568:=Z
def tw2165132418249180720:=Z
def tw7118749616097722466:=Z
def tw8185865049601935594:=Z
def tw5243164494192430621:=Z
def tw9173091826387072866:=Z
def tw18420152012741157069:=Z
def tw6619428200915811940:=Z
def tw1932314405804381025:=Z
def tw14051246389444868414:=Z
def tw12426444468769213322:=Z
def tw6504167503256520719:=Z
def tw14375894742627735516:=Z
def tw14186662986178804194:=Z
def tw16663518936050663785:=Z
def tw5238725067073278783:=Z
def tw18387836552048322554:=Z
def tw9660535732646909928:=Z
def tw7439228565633372170:=Z
def tw17271178627368516404:=Z
def tw16990236281596082989:=Z
def tw11675835384916351396:=Z
def tw18114684487309948127:=Z
def tw13210639124154136682:=Z
def tw10202679948800001479:=Z
def tw9811590971772494470:=Z
def tw15131899905636989143:=Z
def tw1478164808270442468:=Z
def tw14075591843136281054:=Z
def tw6279476986142883073:=Z
def tw10329850547347982084:=Z
def tw2858939466285147266:=Z
def tw6348014796314469603:=Z
def tw16257975832519058171:=Z
def tw1319395381819036435:=Z
def tw12376404059005396451:=Z
def tw9910196740049752914:=Z
def tw2433470801489621920:=Z
def tw10354217506517499334:=Z
def tw11587370596232005341:=Z
def tw14008820716275496774:=Z
def tw11700057532339895650:=Z
def tw142147656983188341:=Z
def tw13508330624777215531:=Z
def tw4863807249647099282:=Z
def tw15428114404630170244:=Z
def tw8387230135943638053:=Z
def tw6482791679742524532:=Z
def tw8246507468701946880:=Z
def tw7887936103300865096:=Z
def tw6764563584420329441:=Z
def tw15357703284563255688:=Z
def tw18243816114314129512:=Z
def tw10280404335660783973:=Z
def tw10897811083366784481:=Z
def tw5538325684766575595:=Z
def tw7597390162727257974:=Z
def tw16275931083334651545:=Z
def tw3367989989911259008:=Z
def tw5660814585305085868:=Z
def tw12970684188234272331:=Z
def tw7902031840843907491:=Z
def tw2762486790513251215:=Z
def tw9663311072197147888:=Z
def tw5408791480012709919:=Z
def tw16643944791228539903:=Z
def tw2404134654198905335:=Z
def tw5803777653199874813:=Z
def tw16345224006011409546:=Z
def tw12981606173567413041:=Z
def tw10541151286597316231:=Z
def tw15467807720170819850:=Z
def tw8134764057781591927:=Z
def tw15982745463161020677:=Z
def tw11146705660039185852:=Z
def tw6152566654189732986:=Z
def tw7307646638359182375:=Z
def tw9341818113852341476:=Z
def tw3708195519188909666:=Z
def tw1771535884988633905:=Z
def tw6677808533978025866:=Z
def tw2111769481108855811:=Z
def tw5331550341135316160:=Z
def tw12799429560677811021:=Z
def tw2236322236564409465:=Z
def tw17633357704467263507:=Z
def tw6969111128488881469:=Z
def tw7223473762357815434:=Z
def tw12569271363824301611:=Z
def tw16473186836921788093:=Z
def tw14702426194432692467:=Z
def tw16218192224238011511:=Z
def tw17590163721778958573:=Z
def tw14340098880861941095:=Z
def tw13535326514420597350:=Z
def tw1250036535537779824:=Z
def tw7682439615525356010:=Z
def tw14483131168485997899:=Z
def tw2286118357543521376:=Z
def tw7076910282553526703:=Z
def tw5690781799400548411:=Z
def tw14156593587799141244:=Z
def tw6320769389908757367:=Z
def tw12848775135919181434:=Z
def tw14183583470477369845:=Z
def tw7469924045308156611:=Z
def tw8577234427182446055:=Z
def tw5104306704925854195:=Z
def tw17733220036988984992:=Z
def tw3138107825212079498:=Z
def tw18183383188122906528:=Z
def tw5950747400344847397:=Z
def tw3136761605486959215:=Z
def tw17681973245029588507:=Z
def tw7892168262886447456:=Z
def tw6205829254772530363:=Z
def tw10656174585748347676:=Z
def tw18255041466280786017:=Z
def tw17588398308554340659:=Z
def tw10786306644639954498:=Z
def tw2212327904480933584:=Z
def tw755346659641745923:=Z
def tw1982211723700653872:=Z
def tw17458293863578904755:=Z
def tw7858509899321260197:=Z
def tw14798096259840072016:=Z
def tw17923188969002011419:=Z
def tw3262033464452471265:=Z
def tw7867314529269465802:=Z
def tw6787235809772360240:=Z
def tw8561698158649526930:=Z
def tw17459086666317950117:=Z
def tw14524808075545497632:=Z
def tw7695067042321795084:=Z
def tw9310537527855123577:=Z
def tw4016795315642512596:=Z
def tw13376306232578689650:=Z
def tw6663198614222907247:=Z
def tw13628565539924894315:=Z
def tw17866052124755694137:=Z
def tw14457566114431039565:=Z
def tw15369693313121879680:=Z
def tw5688218344499751174:=Z
def tw13307503724877352800:=Z
def tw3547005749438891856:=Z
def tw7467472481425028297:=Z
def tw17067222736555270947:=Z
def tw1913335418410344586:=Z
def tw15301523766357446880:=Z
def tw7562609806004337595:=Z
def tw13092877238882732007:=Z
def tw14832831637647989107:=Z
def tw6746608058419454865:=Z
def tw6345521823075349926:=Z
def tw16221334291890536894:=Z
def tw17730070426981353849:=Z
def tw11388656784561295076:=Z
def tw5203923394362446087:=Z
def tw16287357944993018121:=Z
def tw1574673936248238630:=Z
def tw15995532337674226799:=Z
def tw3940084400203773120:=Z
def tw10610345715687032316:=Z
def tw1426009488353415491:=Z
def tw3237425366080674662:=Z
def tw11334524650410614202:=Z
def tw1646181728655795678:=Z
def tw8640244310397664770:=Z
def tw15829131472750328339:=Z
def tw7671397055701210435:=Z
def tw7875057282426283822:=Z
def tw17603523005040828416:=Z
def tw18232768732409672365:=Z
def tw2821305774251120781:=Z
def tw11417494732260281924:=Z
def tw2737283399351577022:=Z
def tw14750827102791051768:=Z
def tw12882916067844832087:=Z
def tw15200831815409770373:=Z
def tw11409324574972375287:=Z
def tw5923804783125428545:=Z
def tw10857219279242714667:=Z
def tw11017592752383081409:=Z
def tw301954183393731158:=Z
def tw7580306086705920201:=Z
def tw3470993504800837510:=Z
def tw3643650304454647217:=Z
def tw13930466603988551567:=Z
def tw9028408214232007895:=Z
def tw7888092345901751397:=Z
def tw9410359062742107741:=Z
def tw9160786228832763424:=Z
def tw5596641172176565745:=Z
def tw1644668317633220450:=Z
def tw14659278233629347459:=Z
def tw11999436695960062256:=Z
def tw16238433877953534397:=Z
def tw15073019610999159822:=Z
def tw7000076355955537733:=Z
def tw15955479454842984160:=Z
def tw7413123609464890505:=Z
def tw15341218214140233956:=Z
def tw13631644229177661011:=Z
def tw1553497153226197223:=Z
def tw8310602836287428218:=Z
def tw3846237191968796728:=Z
def tw3213729284199883901:=Z
def tw9798552640325902103:=Z
def tw4505748966609153387:=Z
def tw4321852963759112448:=Z
def tw14011679175580823093:=Z
def tw18201422007583644900:=Z
def tw5180741261639262434:=Z
def tw5941957526681580558:=Z
def tw8611317509608625223:=Z
def tw3127184491524982811:=Z
def tw10223265673658582515:=Z
def tw2397905309994617697:=Z
def tw15575613836314510201:=Z
def tw18109649576968653292:=Z
def tw5769472616106772760:=Z
def tw994674653924758913:=Z
def tw4842370471603142363:=Z
def tw18329656972685378920:=Z
def tw8899771284011095418:=Z
def tw8591652391498665375:=Z
def tw4061112195644898735:=Z
def tw16252225152046769743:=Z
def tw9475028084062343601:=Z
def tw5532550658861694481:=Z
def tw14501820437339127030:=Z
def tw8149855570032123278:=Z
def tw11589315393398119553:=Z
def tw10253253493372018826:=Z
def tw17472079566128178301:=Z
def tw5861185154931632518:=Z
def tw8264305488098951333:=Z
def tw4180206672574509724:=Z
def tw3521403138990281163:=Z
def tw15848194524101399222:=Z
def tw3278135967029557692:=Z
def tw8937773126484708587:=Z
def tw4004900248901388677:=Z
def tw6272443088828235795:=Z
def tw11776004063245736018:=Z
def tw12854868068827255563:=Z
def tw2518137941617585220:=Z
def tw6723820592690997479:=Z
def tw4603984208523250181:=Z
def tw16979525049004719172:=Z
def tw7290660505608378578:=Z
def tw9243204446465293587:=Z
def tw18440245354002414971:=Z
def tw9239760770523541617:=Z
def tw16101126004629521987:=Z
def tw230896004081591602:=Z
def tw3084297630826039331:=Z
def tw6766485765439817841:=Z
def tw6313486020290115174:=Z
def tw10509085148751559588:=Z
def tw2481174049425330631:=Z
def tw12507197939933043554:=Z
def tw3220929850486972089:=Z
def tw6668218692374639013:=Z
def tw9234580325941936339:=Z
def tw7169219837152242302:=Z
def tw18191328592024993671:=Z
def tw8514748955143231028:=Z
def tw13290730235535102979:=Z
def tw282420504626167765:=Z
def tw5316325853432217488:=Z
def tw2627941721332375575:=Z
def tw13325324833642916473:=Z
def tw7168737691183011721:=Z
def tw295572052429123805:=Z
def tw4384676434317667546:=Z
def tw5353873655138843874:=Z
def tw16503993416672402772:=Z
def tw11920568081366959308:=Z
def tw12078579544255202158:=Z
def tw4526648207543147899:=Z
def tw12913796374128952929:=Z
def tw9374769674745255120:=Z
def tw267388769673476351:=Z
def tw15882370259454486061:=Z
def tw2049038275340330549:=Z
def tw2118794258455514181:=Z
def tw6838502413828769393:=Z
def tw10827351336739619532:=Z
def tw12171278908324616258:=Z
def tw5582293990408613055:=Z
def tw15624718118194426290:=Z
def tw3251041213356408060:=Z
def tw9779233441853352497:=Z
def tw1057603240503946978:=Z
def tw3541982050541514852:=Z
def tw14489313088126494050:=Z
def tw11870433082665585072:=Z
def tw6573734257711747675:=Z
def tw6917615964205271297:=Z
def tw2454418096535672793:=Z
def tw2934453448024908424:=Z
def tw3530991110616268578:=Z
def tw15317082807478811462:=Z
def tw15423374561197769599:=Z
def tw17371649036070827884:=Z
def tw15361896868454120084:=Z
def tw18402478317177783790:=Z
def tw6175614313125015741:=Z
def tw17041980752116232912:=Z
def tw11739476153207313115:=Z
def tw14937089130152558919:=Z
def tw2852780933852272202:=Z
def tw7250084630673746943:=Z
def tw3656730818188440201:=Z
def tw12657998792447976522:=Z
def tw14761629517095013021:=Z
def tw17265298301248826626:=Z
def tw5563297114723761866:=Z
def tw7294350889547642985:=Z
def tw15988338470074018375:=Z
def tw12250643252933215235:=Z
def tw17776750238481174507:=Z
def tw7217438395220430228:=Z
def tw12439244604178770532:=Z
def tw11257169030687818770:=Z
def tw15687887697064404613:=Z
def tw12096821079458279024:=Z
def tw10745188891345031701:=Z
def tw17504740190936780914:=Z
def tw318140642145549569:=Z
def tw2758394152605085008:=Z
def tw3067094923641945214:=Z
def tw9167699115071491990:=Z
def tw15795747427857155344:=Z
def tw17860275096305999125:=Z
def tw7037645473905134941:=Z
def tw12218375694736266052:=Z
def tw6481880075880368849:=Z
def tw2460783909304759598:=Z
def tw9126304673680916199:=Z
def tw17812346502186964933:=Z
def tw3199530026938441767:=Z
def tw4738751087377341221:=Z
def tw15283744495297109657:=Z
def tw402560317163350561:=Z
def tw18160149020099128511:=Z
def tw6991851633893043092:=Z
def tw11980612665778375223:=Z
def tw12849684262025581574:=Z
def tw1486813812888595612:=Z
def tw7046661852540741338:=Z
def tw15477967091345863929:=Z
def tw17410286689556258589:=Z
def tw10034573483519964677:=Z
def tw2725607957420819938:=Z
def tw4201944178690743514:=Z
def tw16008472817967900397:=Z
def tw17118823617364468640:=Z
def tw7747307854801742970:=Z
def tw11944245502149750356:=Z
def tw16344014717791341265:=Z
def tw10270032787322843022:=Z
def tw17889661286075252670:=Z
def tw15659367485353592136:=Z
def tw1841863094371768592:=Z
def tw9144620985418311411:=Z
def tw15018987558829302822:=Z
def tw16103650641940806811:=Z
def tw15410144923362644691:=Z
def tw14071668884491921483:=Z
def tw16106679292210794254:=Z
def tw6085444203246778195:=Z
def tw11399050048123480098:=Z
def tw9877081574456534550:=Z
def tw4536929840263143652:=Z
def tw5120203587593505787:=Z
def tw17651062508399812716:=Z
def tw7703147365431582351:=Z
def tw16306083929089330841:=Z
def tw12827559632802716402:=Z
def tw17181246828261677517:=Z
def tw18331207608655824318:=Z
def tw14919073466473290666:=Z
def tw18246405091660842236:=Z
def tw11881535935198490504:=Z
def tw16974421477671566378:=Z
def tw6413978081608778864:=Z
def tw10770149728351431590:=Z
def tw2726366221916026044:=Z
def tw12415559309961969623:=Z
def tw18348944960055842189:=Z
def tw10267752057352561633:=Z
def tw10349364232419866206:=Z
def tw17765487122907189916:=Z
def tw9225606663514761964:=Z
def tw5071272551778273521:=Z
def tw11180170298202689247:=Z
def tw8825151987665069324:=Z
def tw12991103528973060537:=Z
def tw9225643370854015721:=Z
def tw8220905614585173118:=Z
def tw6083828895304946780:=Z
def tw6316687685532468610:=Z
def tw5754403173006403973:=Z
def tw5243133919540199083:=Z
def tw75236027052183106:=Z
def tw17627709576625718016:=Z
def tw6953975641953615525:=Z
def tw4267557755091232373:=Z
def tw15586601535080256090:=Z
def tw5121517076382198974:=Z
def tw16511749984742050565:=Z
def tw12101497185535825132:=Z
def tw14374376476489278795:=Z
def tw13409166923146680434:=Z
def tw3384641289295508271:=Z
def tw694383445915689908:=Z
def tw17312486318223288392:=Z
def tw5648547192806475417:=Z
def tw4215718132608176592:=Z
def tw10370384787121782046:=Z
def tw8937333134642911216:=Z
def tw16888858472386220623:=Z
def tw703748629699864493:=Z
def tw8264849528853747635:=Z
def tw16352314909904705807:=Z
def tw6660667795920709455:=Z
def tw12573089245697736379:=Z
def tw15326039818057574704:=Z
def tw12554943893097364671:=Z
def tw2741531732697522669:=Z
def tw15019446431762191701:=Z
def tw7915972608635346568:=Z
def tw12466469954772331520:=Z
def tw10166333940935469507:=Z
def tw11965647722080050620:=Z
def tw17989308772286996891:=Z
def tw17424886663841736857:=Z
def tw7558272410845539353:=Z
def tw7838882197831604801:=Z
def tw14922927451675979036:=Z
def tw15182708149941536217:=Z
def tw7942913987410934787:=Z
def tw18346182889868517568:=Z
def tw1139224516480350482:=Z
def tw15690637003166485011:=Z
def tw11615300477581722302:=Z
def tw1923559401582107401:=Z
def tw8584675723456421574:=Z
def tw3135314871380369502:=Z
def tw2131278074167734384:=Z
def tw15245727048918107183:=Z
def tw6131150831544395741:=Z
def tw3113071352088916548:=Z
def tw14799191302430535474:=Z
def tw5207994265149067308:=Z
def tw17019929182630985084:=Z
def tw1027259026960788997:=Z
def tw8331328997211022972:=Z
def tw7459141410342422681:=Z
def tw12052805543601436454:=Z
def tw10933432435855554178:=Z
def tw1858023767253913978:=Z
def tw5173931053868970330:=Z
def tw3612459150424383528:=Z
def tw14747781587887784182:=Z
def tw5024505834618689926:=Z
def tw2204515723770159747:=Z
def tw4021305765019120577:=Z
def tw2585448947000779506:=Z
def tw8064520759530502788:=Z
def tw13239567293740894110:=Z
def tw3215704331722186480:=Z
def tw4541140465395343403:=Z
def tw4240095510172195825:=Z
def tw768096387199745634:=Z
def tw17331208838851870111:=Z
def tw17998084748661440784:=Z
def tw5006493244393398082:=Z
def tw4353768634455113783:=Z
def tw10158257868759680584:=Z
def tw14100932951593459131:=Z
def tw8690914860220787678:=Z
def tw8962216836072914904:=Z
def tw2004427188536036455:=Z
def tw18297987451459273188:=Z
def tw8210858643587062572:=Z
def tw12374890295132687939:=Z
def tw15319859932139854558:=Z
def tw6646676851416541209:=Z
def tw9340467017653956138:=Z
def tw5620349088175268659:=Z
def tw1955888798998565977:=Z
def tw8192129283756527407:=Z
def tw6499616703036126554:=Z
def tw13550655386243252088:=Z
def tw10595466773258044323:=Z
def tw16057480285907428142:=Z
def tw10853114332709097290:=Z
def tw13089798616837034801:=Z
def tw426305932450271102:=Z
def tw3595569131728010126:=Z
def tw5148690410379488216:=Z
def tw7026007193863187898:=Z
def tw16512917206174239943:=Z
def tw7384024828245850895:=Z
def tw7658372811017632949:=Z
def tw5925134830810709158:=Z
def tw3686793122852932757:=Z
def tw3613133389826589846:=Z
def tw4952210467190477765:=Z
def tw4588843708805714902:=Z
def tw9333442554053770284:=Z
def tw13168620952131135764:=Z
def tw11850257461355512630:=Z
def tw13545043126237866478:=Z
def tw1882326941856073320:=Z
def tw17017918654584631927:=Z
def tw4618144342623427584:=Z
def tw16820089918328637491:=Z
def tw7268455735743921422:=Z
def tw15567705329680066677:=Z
def tw1383697612268209447:=Z
def tw10826362265840955537:=Z
def tw6669405428498800969:=Z
def tw850127083531625713:=Z
def tw12000085223835714816:=Z
def tw4886003635701686034:=Z
def tw3911875054595369716:=Z
def tw8137203725650854110:=Z
def tw768779801961451905:=Z
def tw6463371861457752272:=Z
def tw12918645988726645971:=Z
def tw13824243983867137397:=Z
def tw4694785714286317477:=Z
def tw6403212352895329297:=Z
def tw14759735657034692412:=Z
def tw12276029898338448218:=Z
def tw14229905798888596677:=Z
def tw6009885154965971216:=Z
def tw12774346096545954309:=Z
def tw7222902134579926091:=Z
def tw15211382243014949024:=Z
def tw7028706603733894055:=Z
def tw15344169468642869037:=Z
def tw13217175249984770559:=Z
def tw1371988669923193207:=Z
def tw17854949935545796701:=Z
def tw6030180818261060270:=Z
def tw12062447131089500971:=Z
def tw8473871724543924844:=Z
def tw13765430733044487796:=Z
def tw15689262359096390449:=Z
def tw11480467404340564624:=Z
def tw7590407525939179491:=Z
def tw11677491992554060301:=Z
def tw13440671509066158583:=Z
def tw10228529963579620921:=Z
def tw3110996896874881956:=Z
def tw1971778232803734764:=Z
def tw14403007105276360530:=Z
def tw9023039842400252483:=Z
def tw16126761242316515949:=Z
def tw3941634414238049413:=Z
def tw12955622062029151028:=Z
def tw546239004896117235:=Z
def tw17154288348256442307:=Z
def tw15227924627862372388:=Z
def tw16399272372447850632:=Z
def tw4254089318321485849:=Z
def tw12010911512641040389:=Z
def tw15403889356480665399:=Z
def tw11971933200595804399:=Z
def tw15969037282208370357:=Z
def tw17323171546150919495:=Z
def tw7455301303666469265:=Z
def tw17002949261551219575:=Z
def tw13960663430984606133:=Z
def tw17678541266441979741:=Z
def tw6480365703573822663:=Z
def tw10512985705416094896:=Z
def tw14770295851361380164:=Z
def tw5241051740602626461:=Z
def tw11398869731980214032:=Z
def tw11280202399091136370:=Z
def tw3080301799433312908:=Z
def tw11783233975847437255:=Z
def tw2093926797138267211:=Z
def tw7472517427013870507:=Z
def tw16230787903706078762:=Z
def tw13746905967438493641:=Z
def tw13989524072458503942:=Z
def tw14091942229214835579:=Z
def tw8189264330195000144:=Z
def tw3805772533404071622:=Z
def tw4330180550196486250:=Z
def tw12679981161522809391:=Z
def tw7690169499891274072:=Z
def tw10533652364280050055:=Z
def tw1231151441065676949:=Z
def tw8853127870910054259:=Z
def tw3508276772174654328:=Z
def tw15724464319666482893:=Z
def tw11548613489919059914:=Z
def tw16828502729289796173:=Z
def tw8570241958541604489:=Z
def tw11384386501607123134:=Z
def tw37034158239836834:=Z
def tw4670906971643348574:=Z
def tw9815368413740757135:=Z
def tw12054053244458322341:=Z
def tw6188702293743188732:=Z
end PySem.W.Fast
open PySem PySem.W PyProof.Rows
set_option maxRecDepth 100000 in
set_option maxHeartbeats 0 in
theorem PySem.Challenge.cw_lazycols_k26_cut_off_holds : PySem.Challenge.rw_lazycols_k26_cut_off.Holds := by
 w_on;o_law;k_head;(case hw=>w_witness2)
 k_fill
 refine My.walk (l:=PySem.Challenge.rw_lazycols_k26_cut_off) rfl rfl rfl (fun w h Y => PySem.W.km_in_of Y) ?R ?F
 case R=>first|exact rfl|decide+kernel
 case F=>
  intro w mg h Y KX G
  refine'⟨⟨PySem.W.mg_none_of KX G ?_,PySem.W.mg_none_of KX G ?_,PySem.W.mg_none_of KX G ?_,PySem.W.mg_none_of KX G ?_,PySem.W.mg_none_of KX G ?_,PySem.W.mg_none_of KX G ?_,PySem.W.mg_none_of KX G ?_,PySem.W.mg_none_of KX G ?_,PySem.W.mg_none_of KX G ?_,PySem.W.mg_none_of KX G ?_,PySem.W.mg_none_of KX G ?_,PySem.W.mg_none_of KX G ?_,PySem.W.mg_none_of KX G ?_,⟨_,PySem.W.mg_of KX G ?_⟩,⟨_,PySem.W.mg_of KX G ?_⟩,L2.a2d KX G ?_ ?_,⟨_,PySem.W.mg_of KX G ?_⟩,⟨_,PySem.W.mg_of KX G ?_⟩,⟨_,PySem.W.mg_of KX G ?_⟩,L2.a2d KX G ?_ ?_,⟨_,PySem.W.mg_of KX G ?_⟩,L2.eO KX G ?_ ?_ ?_ ?_,L2.eO KX G ?_ ?_ ?_ ?_,L2.eO KX G ?_ ?_ ?_ ?_,L2.eO KX G ?_ ?_ ?_ ?_,L2.eO KX G ?_ ?_ ?_ ?_,L2.eO KX G ?_ ?_ ?_ ?_,L2.eO KX G ?_ ?_ ?_ ?_,L2.eO KX G ?_ ?_ ?_ ?_,L2.eO KX G ?_ ?_ ?_ ?_,L2.eO KX G ?_ ?_ ?_ ?_,L2.eO KX G ?_ ?_ ?_ ?_,L2.eO KX G ?_ ?_ ?_ ?_,L2.eO KX G ?_ ?_ ?_ ?_,L2.eO KX G ?_ ?_ ?_ ?_,L2.eO KX G ?_ ?_ ?_ ?_,L2.eO KX G ?_ ?_ ?_ ?_,L2.eO KX G ?_ ?_ ?_ ?_,L2.eO KX G ?_ ?_ ?_ ?_,L2.eO KX G ?_ ?_ ?_ ?_,L2.eO KX G ?_ ?_ ?_ ?_,L2.eO KX G ?_ ?_ ?_ ?_,L2.eO KX G ?_ ?_ ?_ ?_,?_,⟨_,⟨PySem.W.mg_of KX G ?_,⟨?_,?_,?_,?_⟩,?_,?_,?_,(L2.na ?_),(L2.na ?_),(L2.na ?_),L2.bP ?_ ?_ ?_ ?_ ?_,L2.bP ?_ ?_ ?_ ?_ ?_,L2.bP ?_ ?_ ?_ ?_ ?_,L2.bP ?_ ?_ ?_ ?_ ?_,L2.bP ?_ ?_ ?_ ?_ ?_,L2.bP ?_ ?_ ?_ ?_ ?_,L2.bP ?_ ?_ ?_ ?_ ?_,L2.bP ?_ ?_ ?_ ?_ ?_,L2.bP ?_ ?_ ?_ ?_ ?_,L2.bP ?_ ?_ ?_ ?_ ?_⟩⟩,⟨_,⟨PySem.W.mg_of KX G ?_,⟨?_,?_,?_,?_⟩,?_,?_,?_,(L2.na ?_),(L2.na ?_),(L2.na ?_),(L2.na ?_),L2.bP ?_ ?_ ?_ ?_ ?_,L2.bP ?_ ?_ ?_ ?_ ?_,L2.bP ?_ ?_ ?_ ?_ ?_,L2.bP ?_ ?_ ?_ ?_ ?_,L2.bP ?_ ?_ ?_ ?_ ?_,L2.bP ?_ ?_ ?_ ?_ ?_⟩⟩,⟨_,⟨PySem.W.mg_of KX G ?_,⟨?_,?_,?_,?_⟩,?_,?_,?_,(L2.na ?_),(L2.na ?_),(L2.na ?_),L2.bP ?_ ?_ ?_ ?_ ?_,L2.bP ?_ ?_ ?_ ?_ ?_⟩⟩,⟨_,⟨PySem.W.mg_of KX G ?_,⟨?_,?_,?_,?_⟩,?_,?_,?_,(L2.na ?_),(L2.na ?_),(L2.na ?_),(L2.na ?_),L2.bP ?_ ?_ ?_ ?_ ?_,L2.bP ?_ ?_ ?_ ?_ ?_⟩⟩,⟨_,⟨PySem.W.mg_of KX G ?_,⟨?_,?_,?_,?_⟩,?_,?_,?_,(L2.na ?_),(L2.na ?_),(L2.na ?_),(L2.na ?_),(L2.na ?_),L2.bP ?_ ?_ ?_ ?_ ?_,L2.bP ?_ ?_ ?_ ?_ ?_⟩⟩,⟨_,⟨PySem.W.mg_of KX G ?_,⟨?_,?_,?_,?_⟩,?_,?_,?_,(L2.na ?_),(L2.na ?_),(L2.na ?_),L2.bP ?_ ?_ ?_ ?_ ?_,L2.bP ?_ ?_ ?_ ?_ ?_⟩⟩,⟨_,⟨PySem.W.mg_of KX G ?_,⟨?_,?_,?_,?_⟩,?_,?_,?_,(L2.na ?_),(L2.na ?_),(L2.na ?_),L2.bP ?_ ?_ ?_ ?_ ?_,L2.bP ?_ ?_ ?_ ?_ ?_,L2.bP ?_ ?_ ?_ ?_ ?_,L2.bP ?_ ?_ ?_ ?_ ?_,L2.bP ?_ ?_ ?_ ?_ ?_,L2.bP ?_ ?_ ?_ ?_ ?_⟩⟩,⟨_,⟨PySem.W.mg_of KX G ?_,⟨?_,?_,?_,?_⟩,?_,?_,?_,(L2.na ?_),(L2.na ?_),(L2.na ?_),L2.bP ?_ ?_ ?_ ?_ ?_,L2.bP ?_ ?_ ?_ ?_ ?_,L2.bP ?_ ?_ ?_ ?_ ?_,L2.bP ?_ ?_ ?_ ?_ ?_,L2.bP ?_ ?_ ?_ ?_ ?_,L2.bP ?_ ?_ ?_ ?_ ?_,L2.bP ?_ ?_ ?_ ?_ ?_,L2.bP ?_ ?_ ?_ ?_ ?_,L2.bP ?_ ?_ ?_ ?_ ?_,L2.bP ?_ ?_ ?_ ?_ ?_,L2.bP ?_ ?_ ?_ ?_ ?_,L2.bP ?_ ?_ ?_ ?_ ?_,L2.bP ?_ ?_ ?_ ?_ ?_,L2.bP ?_ ?_ ?_ ?_ ?_,L2.bP ?_ ?_ ?_ ?_ ?_,L2.bP ?_ ?_ ?_ ?_ ?_⟩⟩,⟨_,⟨PySem.W.mg_of KX G ?_,⟨?_,?_,?_,?_⟩,?_,?_,?_,(L2.na ?_),L2.bP ?_ ?_ ?_ ?_ ?_,⟨?_,_,_,?_,?_,?_⟩,L2.bP ?_ ?_ ?_ ?_ ?_⟩⟩,⟨_,⟨PySem.W.mg_of KX G ?_,⟨?_,?_,?_,?_⟩,?_,?_,?_,(L2.na ?_),(L2.na ?_),L2.bP ?_ ?_ ?_ ?_ ?_,L2.bP ?_ ?_ ?_ ?_ ?_,L2.bP ?_ ?_ ?_ ?_ ?_,L2.bP ?_ ?_ ?_ ?_ ?_,?_,⟨?_,?_,?_⟩⟩⟩⟩,trivial,⟨⟨_,_,L2.a7A KX G ?_ ?_ ?_ ?_ ?_ ?_,L2.a8S KX G ?_ ?_ ?_ ?_ ?_ ?_ ?_ ?_ ?_,?_,?_⟩⟩⟩
  all_goals try k_is
  all_goals try (first|exact PySem.W.km_tabs_of Y _ (by decide)|kit_is|k_exc|kts_exm|exact rfl|kernel_rfl|decide)
  all_goals exact Value.type "type"