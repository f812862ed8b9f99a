import PyProof.Rows.All
import Wide.All
import OpenK.AllK
import Wide.FinOn
import PyProof.EqAt
import PyProof.EqKinds
import PyProof.TupleCall
import Lean
import PySem.Challenge.RW_lazycols_k31_stretches_and_totals
set_option Elab.async false
set_option linter.all false
set_option maxRecDepth 100000
set_option maxHeartbeats 4000000
set_option genSizeOfSpec false
set_option compiler.extract_closed false
namespace L2
theorem aa{α:Type _}{a:α}{l:List α}:a∈a::l:=List.mem_cons_self ..
theorem ad{α:Sort _}{a b c:α}(h:a=b\/ a=c:=by first|exact Or.inl rfl|exact Or.inr rfl):a=b\/ a=c:=h
theorem nk{α:Sort _}{p:α->Prop}(h:∀y,p y:=by intro _ y;cases y):∀y,p y:=h
abbrev Fg:=PySem.W.Frag
end L2
open PySem L2
variable{us its:List Value}{F:FuncData}{ps N:List Str}{a b ch D l C dx f fd fa CB CT bd fi lk CS CF gr CC CG la zt vl du:Addr}{u doc pm ah ct oc:Value}{P prog:Program}{w:World}{h af h':Heap}{i j p:Nat}{x c m qual q:Str}{e tg body iter:Expr}{A:Around}{E Q:Value->Shared->Prop}{s' s:Shared}{ae:List (Addr×Obj)}{K:Fg}{es:List Expr}{pos' apos:Pos}{fp M no:List Addr}{mg:Str->Option Value}{ai:Scope}{params:Arguments}{an od ca:Option Addr}{d:PyData}{cp:List (Nat×Str)}{clos:List (Str×Addr)}{ds:List PyData}{wl:Nat->Option Int}
namespace L2
open PySem PySem.Spec PyProof.Rows
theorem fB{n:Nat}(h:us.length=n+ 1):∃a r,us=a::r/\r.length=n:=by
 cases us with
 |nil=>cases h
 |cons a r=>exact⟨a,r,rfl,Nat.succ.inj h⟩
theorem fL(h:∀a0,bindArgs F ⟨[a0],[]⟩=pure (ps.zip [a0])):∀us:List Value,us.length=1->bindArgs F ⟨us,[]⟩=pure (ps.zip us):=by
 intro us h0
 obtain⟨a0,us0,rfl,h1⟩:=fB h0
 obtain rfl:=List.length_eq_zero_iff.mp h1
 exact h a0
theorem eC(h:∀a0 a1,bindArgs F ⟨[a0,a1],[]⟩=pure (ps.zip [a0,a1])):∀us:List Value,us.length=2->bindArgs F ⟨us,[]⟩=pure (ps.zip us):=by
 intro us h0
 obtain⟨a0,us0,rfl,h1⟩:=fB h0
 obtain⟨a1,us1,rfl,h2⟩:=fB h1
 obtain rfl:=List.length_eq_zero_iff.mp h2
 exact h a0 a1
theorem iN(h:∀a0 a1 a2,bindArgs F ⟨[a0,a1,a2],[]⟩=pure (ps.zip [a0,a1,a2])):∀us:List Value,us.length=3->bindArgs F ⟨us,[]⟩=pure (ps.zip us):=by
 intro us h0
 obtain⟨a0,us0,rfl,h1⟩:=fB h0
 obtain⟨a1,us1,rfl,h2⟩:=fB h1
 obtain⟨a2,us2,rfl,h3⟩:=fB h2
 obtain rfl:=List.length_eq_zero_iff.mp h3
 exact h a0 a1 a2
theorem mS(h:∀a0 a1 a2 a3,bindArgs F ⟨[a0,a1,a2,a3],[]⟩=pure (ps.zip [a0,a1,a2,a3])):∀us:List Value,us.length=4->bindArgs F ⟨us,[]⟩=pure (ps.zip us):=by
 intro us h0
 obtain⟨a0,us0,rfl,h1⟩:=fB h0
 obtain⟨a1,us1,rfl,h2⟩:=fB h1
 obtain⟨a2,us2,rfl,h3⟩:=fB h2
 obtain⟨a3,us3,rfl,h4⟩:=fB h3
 obtain rfl:=List.length_eq_zero_iff.mp h4
 exact h a0 a1 a2 a3
theorem qV(h:∀a0 a1 a2 a3 a4,bindArgs F ⟨[a0,a1,a2,a3,a4],[]⟩=pure (ps.zip [a0,a1,a2,a3,a4])):∀us:List Value,us.length=5->bindArgs F ⟨us,[]⟩=pure (ps.zip us):=by
 intro us h0
 obtain⟨a0,us0,rfl,h1⟩:=fB h0
 obtain⟨a1,us1,rfl,h2⟩:=fB h1
 obtain⟨a2,us2,rfl,h3⟩:=fB h2
 obtain⟨a3,us3,rfl,h4⟩:=fB h3
 obtain⟨a4,us4,rfl,h5⟩:=fB h4
 obtain rfl:=List.length_eq_zero_iff.mp h5
 exact h a0 a1 a2 a3 a4
theorem bi6(h:∀a0 a1 a2 a3 a4 a5,bindArgs F ⟨[a0,a1,a2,a3,a4,a5],[]⟩=pure (ps.zip [a0,a1,a2,a3,a4,a5])):∀us:List Value,us.length=6->bindArgs F ⟨us,[]⟩=pure (ps.zip us):=by
 intro us h0
 obtain⟨a0,us0,rfl,h1⟩:=fB h0
 obtain⟨a1,us1,rfl,h2⟩:=fB h1
 obtain⟨a2,us2,rfl,h3⟩:=fB h2
 obtain⟨a3,us3,rfl,h4⟩:=fB h3
 obtain⟨a4,us4,rfl,h5⟩:=fB h4
 obtain⟨a5,us5,rfl,h6⟩:=fB h5
 obtain rfl:=List.length_eq_zero_iff.mp h6
 exact h a0 a1 a2 a3 a4 a5
abbrev aB:=Sum Int Str
def pV:aB->Value->Bool
 | .inl k,v=>Value.isInt k v
 | .inr x,v=>Value.isStrOf x v
def keyH(w:World):aB->Int
 | .inl k=>hashInt k
 | .inr x=>hashStr w x
theorem lC:∀{k:aB} {v:Value},pV k v=true->(∃i t,k=Sum.inl i/\v=Value.int i t)\/ (∃x t,k=Sum.inr x/\v=Value.str x t)
 | .inl i,v,h=>by
  obtain⟨t,e⟩:=Value.isInt_shape (k:=i) (v:=v) h
  exact .inl ⟨i,t,rfl,e⟩
 | .inr x,v,h=>by
  obtain⟨t,e⟩:=Value.isStrOf_shape (x:=x) (v:=v) h
  exact .inr ⟨x,t,rfl,e⟩
theorem a8x(i:Int)(t:Tok):pV (.inl i) (.int i t)=true:=by simp[pV,Value.isInt]
theorem a5V(x:Str)(t:Tok):pV (.inr x) (.str x t)=true:=by simp[pV,Value.isStrOf]
theorem a9a(a b:Int):decide ((Sum.inl a:aB)=Sum.inl b)=(a==b):=by
 by_cases e:a=b
 ·subst e;simp
 ·have h:¬(Sum.inl a:aB)=Sum.inl b:=fun q=>e (Sum.inl.inj q)
  rw[decide_eq_false h]
  exact(beq_eq_false_iff_ne.mpr e).symm
theorem a48(a b:Str):decide ((Sum.inr a:aB)=Sum.inr b)=decide (a=b):=by
 by_cases e:a=b
 ·subst e;simp
 ·have h:¬(Sum.inr a:aB)=Sum.inr b:=fun q=>e (Sum.inr.inj q)
  rw[decide_eq_false h,decide_eq_false e]
theorem a6s(a:Int)(b:Str):decide ((Sum.inl a:aB)=Sum.inr b)=false:=decide_eq_false (fun q=>nomatch q)
theorem a89(a:Str)(b:Int):decide ((Sum.inr a:aB)=Sum.inl b)=false:=decide_eq_false (fun q=>nomatch q)
def fM(prog:Program)(w:World):PySem.KeyKind prog w aB where
 is:=pV
 hash:=keyH w
 inj:=fun v a b ha hb=>by
  rcases lC ha with⟨i,t,rfl,rfl⟩|⟨x,t,rfl,rfl⟩
  ·rcases lC hb with⟨j,u,rfl,e⟩|⟨y,u,rfl,e⟩
   ·injection e with e1 _;rw[e1]
   ·exact nomatch e
  ·rcases lC hb with⟨j,u,rfl,e⟩|⟨y,u,rfl,e⟩
   ·exact nomatch e
   ·injection e with e1 _;rw[e1]
 byValue:=fun k v h=>by
  rcases lC h with⟨i,t,rfl,rfl⟩|⟨x,t,rfl,rfl⟩<;>rfl
 pyHash:=fun hv h=>by
  rcases lC hv with⟨i,t,rfl,rfl⟩|⟨x,t,rfl,rfl⟩
  ·exact wpAny_pyHash_int h
  ·exact wpAny_pyHash_str h
 eqBool:=fun hu hv h=>by
  rcases lC hu with⟨i,t,rfl,rfl⟩|⟨x,t,rfl,rfl⟩
  ·rcases lC hv with⟨j,u,rfl,rfl⟩|⟨y,u,rfl,rfl⟩
   ·rw[a9a]at h;exact wpAny_eqBool_int h
   ·rw[a6s]at h;exact SeqAt.EqAt.int_str i t y u _ _ _ _ h
  ·rcases lC hv with⟨j,u,rfl,rfl⟩|⟨y,u,rfl,rfl⟩
   ·rw[a89]at h;exact SeqAt.EqAt.str_int x t j u _ _ _ _ h
   ·rw[a48]at h;exact wpAny_eqBool_str h
 «strs» :=fun k x t v h=>by
  rcases lC h with⟨i,u,rfl,e⟩|⟨y,u,rfl,e⟩
  ·exact nomatch e
  ·injection e with e1 _
   subst e1
   cases v<;>rfl
theorem a47(prog:Program)(w:World)(i:Int)(t:Tok):(fM prog w).is (.inl i) (.int i t)=true:=a8x i t
theorem a5n(prog:Program)(w:World)(x:Str)(t:Tok):(fM prog w).is (.inr x) (.str x t)=true:=a5V x t
inductive V where
 |non|bl(b:Bool)|int(i:Int)|str(x:Str)|byt(b:Array UInt8)|flt(b:UInt64)|ref(a:Addr)|ty(n:String)
 deriving DecidableEq
variable{xs vs ys cs cs' csh:List V}{y:V}{ns ns':List (Option V×List Int)}{kvs mk:List (aB×V)}
def bA:V->Value->Prop
 | .non,u=>u=Value.none
 | .bl b,u=>u=Value.bool b
 | .int i,u=>∃t,u=Value.int i t
 | .str x,u=>∃t,u=Value.str x t
 | .byt b,u=>∃t,u=Value.bytes b t
 | .flt b,u=>∃t,u=Value.float b t
 | .ref a,u=>u=Value.ref a
 | .ty n,u=>u=Value.type n
abbrev aX:List V->List Value->Prop:=Paired bA
theorem aX.length(r:aX xs us):xs.length=us.length:=Paired.length r
theorem aX.get:∀{xs:List V} {us:List Value} {i:Nat} {x:V},aX xs us->xs[i]?=some x->∃u,us[i]?=some u/\bA x u
 |_,_,_,_,.nil,e=>by simp at e
 |_,_,0,_,.cons r _,e=>by simp at e;subst e;exact⟨_,rfl,r⟩
 |_,_,i+ 1,x,.cons _ t,e=>by
  obtain⟨u,h1,h2⟩:=aX.get (i:=i) (x:=x) t (by simpa using e)
  exact⟨u,by simpa using h1,h2⟩
theorem aX.set{x:V}{u:Value}(r:bA x u):∀{xs:List V} {us:List Value} (i:Nat),aX xs us->aX (xs.set i x) (us.set i u)
 |_,_,_,.nil=> .nil
 |_,_,0,.cons _ t=> .cons r t
 |_,_,i+ 1,.cons q t=> .cons q (aX.set r i t)
theorem aX.append:∀{xs ys:List V} {us ws:List Value},aX xs us->aX ys ws->aX (xs++ ys) (us++ ws)
 |_,_,_,_,.nil,s=>s
 |_,_,_,_,.cons r t,s=> .cons r (aX.append t s)
theorem aX.take:∀{xs:List V} {us:List Value} (n:Nat),aX xs us->aX (xs.take n) (us.take n)
 |_,_,0,_=> .nil
 |_,_,_+ 1,.nil=> .nil
 |_,_,n+ 1,.cons r t=> .cons r (aX.take n t)
theorem aX.drop:∀{xs:List V} {us:List Value} (n:Nat),aX xs us->aX (xs.drop n) (us.drop n)
 |_,_,0,r=>r
 |_,_,_+ 1,.nil=> .nil
 |_,_,n+ 1,.cons _ t=>aX.drop n t
def fT:Option V->Option Value->Prop
 |some v,some u=>bA v u
 |none,none=>True
 |_,_=>False
def KV{κ:Type}:List (κ×V)->List (κ×Value)->Prop:=Paired fun(p:κ×V) (q:κ×Value)=>p.1=q.1/\bA p.2 q.2
def kV:aB->V
 | .inl i=> .int i
 | .inr x=> .str x
inductive HO where
 |lst(xs:List V)
 |tup(xs:List V)
 |dK(kvs:List (aB×V))|dT(kvs:List (List aB×V))
 |set(S:Int->Bool)(n:Nat)
 |ins(C dx:Addr)(fs:List (Str×V))
 |own(x:Addr)
 |xd(fs:List (Str×V))
 |met(f x:Addr)
 |rng(lo hi:Int)
 |frz(o:Obj)(u:HO)
 |tbl(ps:Array Value)
 |ext(φ:Heap->Prop)
abbrev Hp:=Addr->Option HO
noncomputable def upd (H:Hp) (a:Addr) (o:HO):Hp:=fun b=>if b=a then some o else H b
variable{H H' H1 H2:Hp}{o:HO}{LL:Hp->Prop}
theorem aJ:upd H a o a=some o:=by unfold upd;rw[if_pos rfl]
theorem aI(h:b≠a):upd H a o b=H b:=by unfold upd;rw[if_neg h]
theorem jZ{u:HO}(h:H a=some o)(h':H b=some u)(d:o≠u):a≠b:=by
 intro e;subst e;rw[h]at h';exact d (Option.some.inj h')
theorem bE(h:H a=some o)(h':H b=none):a≠b:=by
 intro e;subst e;rw[h]at h';cases h'
section
variable(P:Program)(w:World)
def cX(H:Hp)(h:Heap)(a:Addr):HO->Prop
 | .lst xs=>xs.length<=sizeLine/\∃(its:List Value) (n:Nat),aX xs its/\h.get? a=some {cls:=.type "list",data:=.seq its.toArray n}
 | .tup xs=>xs.length<=sizeLine/\∃its:List Value,aX xs its/\IsTup h a its.toArray
 | .dK kvs=>kvs.length<=sizeLine/\(a==sysModules)=false/\∃vs,KV kvs vs/\h.DictOf (fM P w) a vs
 | .dT kvs=>kvs.length<=sizeLine/\(a==sysModules)=false/\∃xs:List (List aB×Addr×Value),
  Paired (fun(p:List aB×V) (q:List aB×Addr×Value)=>p.1=q.1/\H q.2.1=some (.tup (p.1.map kV))/\bA p.2 q.2.2) kvs xs/\
  ∃o es ep,h.get? a=some o/\o.ExactDict/\o.data= .dict es ep/\es.toList=xs.map (entryOfKey (tupleKind (fM P w)))/\(xs.map (·.1)).Nodup
 | .set S n=>h.SetOf (intKind P w) a S n
 | .ins C dx fs=>H dx=some (.own a)/\fs.length<=1000/\dx≠a/\h.get? a=some (W.instObj C dx)/\
  ∃mA,h.Ns1 dx mA/\(∀f,fT (fs.lookup f) (mA f))/\PySem.Within mA (fs.map (·.1))
 | .own _=>∃o,h.get? a=some o
 | .xd fs=>∃mA,h.Ns1 a mA/\∀f,fT (fs.lookup f) (mA f)
 | .rng lo hi=>∃t u v,h.get? a=some {cls:=.type "range",data:=.fields #[.int lo t,.int hi u,.int 1 v]}
 | .frz o u=>h.get? a=some o/\cX H h a u
 | .tbl ps=>h.get? a=some {cls:=.none,data:=.fields ps}
 | .met f x=>h.get? a=some (W.methodObj (.ref f) (.ref x))
 | .ext φ=>φ h/\(∃o,h.get? a=some o)/\∀h1 h2:Heap,φ h1->(∀o,h1.get? a=some o->h2.get? a=some o)->φ h2
def bZ(H:Hp)(h:Heap):Prop:=∀a o,H a=some o->cX P w H h a o
end
section
theorem cX.lt(x:cX P w H h a o):a<h.objs.size:=by
 cases o with
 |lst xs=>obtain⟨_,_,_,_,e⟩:=x;exact Heap.lt_size e
 |tup xs=>obtain⟨_,_,_,p⟩:=x;exact p.lt
 |dK kvs=>obtain⟨_,_,_,_,o,_,_,e,_⟩:=x;exact Heap.lt_size e
 |dT kvs=>obtain⟨_,_,_,_,o,_,_,e,_⟩:=x;exact Heap.lt_size e
 |set S n=>obtain⟨o,_,_,_,e,_⟩:=x;exact Heap.lt_size e
 |ins C dx fs=>obtain⟨_,_,_,e,_⟩:=x;exact Heap.lt_size e
 |own y=>obtain⟨_,e⟩:=x;exact Heap.lt_size e
 |xd fs=>obtain⟨_,⟨_,_,_,e,_⟩,_⟩:=x;exact Heap.lt_size e
 |rng lo hi=>obtain⟨_,_,_,e⟩:=x;exact Heap.lt_size e
 |frz ob u=>obtain⟨e,_⟩:=x;exact Heap.lt_size e
 |tbl ps=>exact Heap.lt_size (show h.get? a=some _ from x)
 |met f y=>exact Heap.lt_size (show h.get? a=some _ from x)
 |ext φ=>obtain⟨_,⟨_,e⟩,_⟩:=x;exact Heap.lt_size e
theorem Paired.mapP{α β:Type}{F G:α->β->Prop}:∀{l₁:List α} {l₂:List β},Paired F l₁ l₂->(∀a b,F a b->G a b)->Paired G l₁ l₂
 |_,_,.nil,_=> .nil
 |_,_,.cons r t,f=> .cons (f _ _ r) (Paired.mapP t f)
theorem cX.stay(x:cX P w H h a o)(k:∀b u,(b=a\/ H b=some (.own a))->h.get? b=some u->h'.get? b=some u)
 (ho:∀b,H b=some (.own a)->H' b=some (.own a))(ht:∀b xs,H b=some (.tup xs)->H' b=some (.tup xs)):cX P w H' h' a o:=by
 induction o with
 |lst xs=>obtain⟨z,its,n,r,e⟩:=x;exact⟨z,its,n,r,k _ _ (.inl rfl) e⟩
 |tup xs=>obtain⟨z,its,r,ob,e,c⟩:=x;exact⟨z,its,r,ob,k _ _ (.inl rfl) e,c⟩
 |dK kvs=>obtain⟨z,y,vs,r,ob,es,ep,e,c⟩:=x;exact⟨z,y,vs,r,ob,es,ep,k _ _ (.inl rfl) e,c⟩
 |dT kvs=>
  obtain⟨z,y,xs,r,ob,es,ep,e,c⟩:=x
  exact⟨z,y,xs,Paired.mapP r fun p q z=>⟨z.1,ht _ _ z.2.1,z.2.2⟩,ob,es,ep,k _ _ (.inl rfl) e,c⟩
 |set S n=>obtain⟨ob,es,ep,t,e,c⟩:=x;exact⟨ob,es,ep,t,k _ _ (.inl rfl) e,c⟩
 |ins C dx fs=>
  obtain⟨d,z,ne,e,mA,⟨od,es,ep,e2,c⟩,r⟩:=x
  exact⟨ho _ d,z,ne,k _ _ (.inl rfl) e,mA,⟨od,es,ep,k _ _ (.inr d) e2,c⟩,r⟩
 |own y=>obtain⟨ob,e⟩:=x;exact⟨ob,k _ _ (.inl rfl) e⟩
 |xd fs=>obtain⟨mA,⟨od,es,ep,e,c⟩,r⟩:=x;exact⟨mA,⟨od,es,ep,k _ _ (.inl rfl) e,c⟩,r⟩
 |rng lo hi=>obtain⟨t,u,v,e⟩:=x;exact⟨t,u,v,k _ _ (.inl rfl) e⟩
 |frz ob u ih=>obtain⟨e,q⟩:=x;exact⟨k _ _ (.inl rfl) e,ih q⟩
 |tbl ps=>
  have e:h.get? a=some {cls:=.none,data:=.fields ps}:=x
  show h'.get? a=some {cls:=.none,data:=.fields ps}
  exact k a _ (.inl rfl) e
 |met f y=>
  have e:h.get? a=some (W.methodObj (.ref f) (.ref y)):=x
  show h'.get? a=some (W.methodObj (.ref f) (.ref y))
  exact k a _ (.inl rfl) e
 |ext φ=>obtain⟨p,⟨o,e⟩,st⟩:=x;exact⟨st _ _ p fun o q=>k _ _ (.inl rfl) q,⟨o,k _ _ (.inl rfl) e⟩,st⟩
theorem bZ.lt(x:bZ P w H h)(e:H a=some o):a<h.objs.size:=(x a o e).lt
theorem bZ.fresh(x:bZ P w H h)(e:h.objs.size<=a):H a=none:=by
 cases q:H a with
 |none=>rfl
 |some u=>exact absurd (Nat.lt_of_lt_of_le (x.lt q) e) (Nat.lt_irrefl _)
theorem bZ.kept(x:bZ P w H h)(k:∀b u,h.get? b=some u->h'.get? b=some u):bZ P w H h':=fun a o e=>
 (x a o e).stay (fun b u _ q=>k b u q) (fun _ q=>q) fun _ _ q=>q
theorem bZ.laid(x:bZ P w H h)(k:∀b u,h.get? b=some u->h'.get? b=some u)(hp:h.objs.size<=a)(new:cX P w (upd H a o) h' a o):bZ P w (upd H a o) h':=fun b u e=>by
 have hn:=x.fresh hp
 by_cases hb:b=a
 ·subst hb;rw[aJ]at e;cases e;exact new
 ·rw[aI hb]at e
  exact(x b u e).stay (fun c v _ q=>k c v q) (fun c q=>by rw[aI (bE q hn)];exact q) fun c xs q=>by rw[aI (bE q hn)];exact q
end
def Rd(H:Hp)(a:Addr)(u:HO):Prop:=H a=some u\/ ∃o,H a=some (.frz o u)
theorem Rd.ok{u:HO}(r:Rd H a u)(x:bZ P w H h):cX P w H h a u:=by
 rcases r with r|⟨o,r⟩
 ·exact x a u r
 ·obtain⟨_,q⟩:=x a _ r
  exact q
def rQ:Option HO->Prop
 |some (.lst _)=>True
 |some (.dK _)=>True
 |some (.dT _)=>True
 |some (.set _ _)=>True
 |some (.ins _ _ _)=>True
 |some (.ext _)=>True
 |_=>False
section
variable{x e:Addr}{o':HO}
theorem bZ.write(ok:bZ P w H h)(mu:rQ (H x))(he:e=x\/ H e=some (.own x))(k:∀b u,b≠e->h.get? b=some u->h'.get? b=some u)(heo:∃u,h'.get? e=some u)
 (new:cX P w (upd H x o') h' x o'):bZ P w (upd H x o') h':=fun b u q=>by
 have nown:∀c y,H c=some (.own y)->c≠x:=fun c y r z=>by subst z;rw[r]at mu;exact mu
 have ntup:∀c xs,H c=some (.tup xs)->c≠x:=fun c xs r z=>by subst z;rw[r]at mu;exact mu
 by_cases hb:b=x
 ·subst hb;rw[aJ]at q;cases q;exact new
 ·rw[aI hb]at q
  by_cases hbe:b=e
  ·have q':H b=some (.own x):=by
    rcases he with z|z
    ·exact absurd (hbe.trans z) hb
    ·rw[hbe];exact z
   rw[q]at q';cases q'
   obtain⟨v,hv⟩:=heo
   exact⟨v,by rw[hbe];exact hv⟩
  ·refine(ok b u q).stay (fun c v hc r=>k c v ?_ r) (fun c r=>by rw[aI (nown c b r)];exact r) fun c xs r=>by rw[aI (ntup c xs r)];exact r
   rcases hc with rfl|hc
   ·exact hbe
   ·rintro rfl
    rcases he with z|z
    ·exact nown c b hc z
    ·rw[hc]at z;cases z;exact hb rfl
end
structure Un(fs ex:List Addr)(H H':Hp)(h h':Heap):Prop where
 keep:∀b o,h.get? b=some o->H b=none->b∉fs->b∉ex->h'.get? b=some o
 slot:∀b o,h.get? b=some o->H b=none->b∈fs->b∉ex->∃sl,h'.get? b=some {o with slots:=sl}
 free:∀b o,h.get? b=some o->H b=none->b∉ex->H' b=none
 there:∀b o,h.get? b=some o->b∉ex->∃o',h'.get? b=some o'
 tups:∀b xs,H b=some (.tup xs)->H' b=some (.tup xs)
 frzs:∀b o u,H b=some (.frz o u)->H' b=some (.frz o u)
 tbls:∀b ps,H b=some (.tbl ps)->∃more,H' b=some (.tbl (ps++ more))
section
variable{fs fs' ex ex':List Addr}{h1 h2:Heap}{x e:Addr}
theorem Un.any(u:Un fs ex H H1 h h1){ob:Obj}(q:h.get? b=some ob)(n:H b=none)(hx:b∉ex):∃sl,h1.get? b=some {ob with slots:=sl}:=by
 by_cases hb:b∈fs
 ·exact u.slot b ob q n hb hx
 ·exact⟨ob.slots,u.keep b ob q n hb hx⟩
theorem Un.kept(k:∀b u,h.get? b=some u->h'.get? b=some u):Un fs ex H H h h':=
 ⟨fun b ob q _ _ _=>k b ob q,fun b ob q _ _ _=>⟨ob.slots,k b ob q⟩,fun _ _ _ n _=>n,fun b ob q _=>⟨ob,k b ob q⟩,fun _ _ q=>q,fun _ _ _ q=>q,fun _ ps q=>⟨#[],by rw[q];simp⟩⟩
theorem Un.refl:Un fs ex H H h h:=Un.kept fun _ _ q=>q
theorem Un.laid(k:∀b u,h.get? b=some u->h'.get? b=some u)(hp:h.objs.size<=a)(hn:H a=none):Un fs ex H (upd H a o) h h' where
 keep:=fun b u q _ _ _=>k b u q
 slot:=fun b u q _ _ _=>⟨u.slots,k b u q⟩
 free:=fun b u q n _=>by rw[aI (Nat.ne_of_lt (Nat.lt_of_lt_of_le (Heap.lt_size q) hp))];exact n
 there:=fun b u q _=>⟨u,k b u q⟩
 tups:=fun b xs q=>by rw[aI (bE q hn)];exact q
 frzs:=fun b u xs q=>by rw[aI (bE q hn)];exact q
 tbls:=fun b ps q=>⟨#[],by rw[aI (bE q hn),q];simp⟩
theorem Un.write(mu:rQ (H x))(he:e=x\/ H e=some (.own x))(k:∀b u,b≠e->h.get? b=some u->h'.get? b=some u)(heo:∃u,h'.get? e=some u):Un fs ex H (upd H x o) h h':=by
 have hx:∀b,H b=none->b≠x:=fun b n z=>by subst z;rw[n]at mu;exact mu
 have hb:∀b,H b=none->b≠e:=fun b n z=>by
  subst z
  rcases he with r|r
  ·exact hx b n r
  ·rw[n]at r;cases r
 have hm:∀b u,H b=some u->¬rQ (some u)->b≠x:=fun b u q nm z=>by subst z;rw[q]at mu;exact nm mu
 refine⟨fun b u q n _ _=>k b u (hb b n) q,fun b u q n _ _=>⟨u.slots,k b u (hb b n) q⟩,fun b u q n _=>by rw[aI (hx b n)];exact n,fun b u q _=> ?_,
  fun b xs q=>by rw[aI (hm b _ q fun z=>z)];exact q,fun b u xs q=>by rw[aI (hm b _ q fun z=>z)];exact q,fun b ps q=>⟨#[],by rw[aI (hm b _ q fun z=>z),q];simp⟩⟩
 by_cases hbe:b=e
 ·subst hbe;exact heo
 ·exact⟨u,k b u hbe q⟩
end
noncomputable def tH (h:Heap) (H:Hp):List Addr:=(List.range h.objs.size).filter fun a=>(H a).isSome
noncomputable def kN (h:Heap) (H:Hp):Heap:=W.hideAll h (tH h H)
theorem a5h(h:Heap)(H:Hp):(kN h H).objs.size=h.objs.size:=W.hideAll_size _ _
theorem a8C{o:Obj}(e:h.get? b=some o)(n:H b=none):(kN h H).get? b=some o:=
 W.hideAll_get _ e fun hm=>by
  have q:(H b).isSome=true:=(List.mem_filter.mp hm).2
  rw[n]at q;simp at q
theorem a8d{o:Obj}(e:(kN h H).get? b=some o):h.get? b=some o/\H b=none:=by
 have e':h.get? b=some o:=W.of_hideAll (tH h H) e
 refine⟨e',?_⟩
 cases q:H b with
 |none=>rfl
 |some x=>
  have hm:b∈tH h H:=List.mem_filter.mpr ⟨List.mem_range.mpr (Heap.lt_size e'),by simp[q]⟩
  have z:(kN h H).get? b=none:=W.hideAll_none (tH h H) hm
  rw[z]at e;cases e
noncomputable def a5c (g h:Heap) (L:Addr):List (Addr×Obj):=(List.range h.objs.size).filterMap fun a=>if a=L\/ (g.get? a).isSome=true then none else(h.get? a).map fun o=>(a,o)
noncomputable def cT (g h:Heap) (L d:Addr):List (Addr×Obj):=(a5c g h L).filter fun p=>decide (p.1≠d)
structure Mod(K:Fg)(mg:Str->Option Value)(af:Heap):Prop where
 kin:K.In af
 glob:af.Ns mainGlobals mg
 blt:∃mb,af.Ns builtinsNs mb/\∀x:Str,x≠ "__name__" ->mb x=bootBuiltins x
 nolimit:af.NoLimit
structure Cx where
 prog:Program
 w:World
 K:Fg
 mg:Str->Option Value
 base:Heap
 A:Around
 N:List Str
 s₀:Shared
 H₀:Hp
 env:Env
 outer:List Env
 stack:List Env
 ex:List Addr
 fn:Str->Bool
 calm:Bool
 pn:List (Addr×Obj)
 xe:Value->Shared->Prop
variable{X:Cx}
def fS(l:List Env):List Addr:=l.filterMap (·.frame)
abbrev Cx.fs(X:Cx):List Addr:=fS X.outer
def sZ(sc:Scope)(x:Str):Prop:=sc.names.lookup x=some .local\/ sc.names.lookup x=some .cell\/ sc.names.lookup x=some .free
def vF(sc:Scope)(x:Str):Prop:=sc.names.lookup x=some .local\/ sc.names.lookup x=some .cell
def Look(env:Env)(h:Heap)(m:Str->Option Value)(x:Str)(u:Value):Prop:=
 (env.kindOf x=some .local/\m x=some u)\/ ((env.kindOf x=some .cell\/ env.kindOf x=some .free)/\∃c,env.cells.lookup x=some c/\h.IsCell c (some u))
structure Cx.Ok(X:Cx):Prop where
 mod:Mod X.K X.mg X.base
 kind:X.env.scope.kind= .function
 glob:X.env.globals=mainGlobals
 blt:X.env.builtins=builtinsNs
 above:X.s₀.heap.objs.size<=X.env.locals
 inj:∀x y c,X.env.cells.lookup x=some c->X.env.cells.lookup y=some c->x=y
 has:∀x,(X.env.kindOf x=some .cell\/ X.env.kindOf x=some .free)->∃c,X.env.cells.lookup x=some c
 cab:∀x c,X.fn x=true->X.env.cells.lookup x=some c->X.s₀.heap.objs.size<=c
 hd:X.calm=true->X.A.handled=none
 frames:X.A.frames=some X.stack
 stk:X.stack=X.outer\/ (X.stack=X.env::X.outer/\X.env.frame=some X.env.locals)
 exf:∀b∈X.ex,b≠X.env.locals/\∀x c,X.env.cells.lookup x=some c->c≠b
 bs:∀b o,X.base.get? b=some o->X.s₀.heap.get? b=some o/\X.H₀ b=none
 bsz:X.base.objs.size<=X.s₀.heap.objs.size
 noex:∀b o,X.base.get? b=some o->b∉X.ex
 exfs:∀b∈X.ex,b∉X.fs
 funs:X.s₀.heap.FunFrames X.base X.outer
 frf:∀b∈X.fs,X.H₀ b=none
structure aD(X:Cx)(ae:List (Addr×Obj))(σ:List (Option V))(H:Hp)(s:Shared):Prop where
 ok:X.Ok
 os:s.os=X.s₀.os
 bare:AllBare s.gens
 base:Un X.fs X.ex X.H₀ H X.s₀.heap s.heap
 loc:∃m,s.heap.Ns X.env.locals m/\∀(i:Nat) (x:Str) (v:V),X.N[i]?=some x->σ[i]?=some (some v)->sZ X.env.scope x->∃u,bA v u/\Look X.env s.heap m x u
 cell:∀x c,X.env.cells.lookup x=some c->∃v,s.heap.IsCell c v
 free:H X.env.locals=none
 freeC:∀x c,X.env.cells.lookup x=some c->H c=none
 pin:∀p∈X.pn++ ae,s.heap.get? p.1=some p.2/\H p.1=none/\p.1≠X.env.locals/\p.1∉X.fs/\∀v,p.2.data≠ .cell v
 hok:bZ X.prog X.w H s.heap
 len:σ.length=X.N.length
section
variable{σ:List (Option V)}
theorem Cx.Ok.nofr(ok:X.Ok){o:Obj}(e:X.base.get? b=some o):b∉X.fs:=fun hb=>by
 have:=(ok.funs.mem hb).1
 rw[e]at this;cases this
theorem aD.bs(I:aD X ae σ H s):∀b o,X.base.get? b=some o->s.heap.get? b=some o/\H b=none:=fun b o e=>
 ⟨I.base.keep b o (I.ok.bs b o e).1 (I.ok.bs b o e).2 (I.ok.nofr e) (I.ok.noex b o e),I.base.free b o (I.ok.bs b o e).1 (I.ok.bs b o e).2 (I.ok.noex b o e)⟩
theorem aD.bk(I:aD X ae σ H s):∀b o,X.base.get? b=some o->s.heap.get? b=some o:=fun b o e=>(I.bs b o e).1
theorem aD.mod(I:aD X ae σ H s):Mod X.K X.mg X.base:=I.ok.mod
theorem aD.kIn(I:aD X ae σ H s):X.K.In s.heap:=I.ok.mod.kin.keeps I.bk
theorem aD.lt(I:aD X ae σ H s):X.env.locals<s.heap.objs.size:=let ⟨_,hn,_⟩:=I.loc;hn.lt
theorem aD.sz(I:aD X ae σ H s):X.s₀.heap.objs.size<=s.heap.objs.size:=Nat.le_trans I.ok.above (Nat.le_of_lt I.lt)
theorem aD.nofs(I:aD X ae σ H s)(h:s.heap.objs.size<=a):a∉X.fs:=fun hb=>by
 obtain⟨_,o,ho,_⟩:=I.ok.funs.mem hb
 exact absurd (Nat.lt_of_lt_of_le (Heap.lt_size ho) (Nat.le_trans I.sz h)) (Nat.lt_irrefl _)
theorem aD.cne(I:aD X ae σ H s):∀x c,X.env.cells.lookup x=some c->c≠X.env.locals:=fun x c e z=>by
 obtain⟨v,o,ho,hd⟩:=I.cell x c e
 obtain⟨m,⟨o',es,ep,ho',hd',_⟩,_⟩:=I.loc
 rw[z,ho']at ho;cases ho;rw[hd']at hd;cases hd
theorem aD.funs(I:aD X ae σ H s):s.heap.FunFrames X.base X.outer:=by
 have all:∀(l:List Env),(∀b∈fS l,b∈X.fs)->X.s₀.heap.FunFrames X.base l->s.heap.FunFrames X.base l:=by
  intro l
  induction l with
  |nil=>intro _ _;trivial
  |cons env r ih=>
   intro hs hl
   obtain⟨hk,⟨L,o,hf,hn,ho,hd⟩,hr⟩:=hl
   have hL:L∈X.fs:=hs L (by unfold fS;rw[List.filterMap_cons,hf];exact List.mem_cons_self)
   obtain⟨sl,e⟩:=I.base.slot L o ho (I.ok.frf L hL) hL fun z=>I.ok.exfs L z hL
   exact⟨hk,⟨L,_,hf,hn,e,hd⟩,ih (fun b hb=>hs b (by unfold fS;rw[List.filterMap_cons,hf];exact List.mem_cons_of_mem _ hb)) hr⟩
 exact all X.outer (fun _ hb=>hb) I.ok.funs
theorem aD.stack(I:aD X ae σ H s):s.heap.FunFrames X.base X.stack:=by
 rcases I.ok.stk with e|⟨e,hf⟩
 ·rw[e];exact I.funs
 ·rw[e]
  obtain⟨m,hn,_⟩:=I.loc
  refine .cons (by rw[I.ok.kind];decide) hf hn ?_ I.funs
  exact Heap.get?_none_of_le (Nat.le_trans I.ok.bsz I.ok.above)
theorem aD.stkSub(I:aD X ae σ H s):∀b∈fS X.stack,b∈X.env.locals::X.fs:=fun b hb=>by
 rcases I.ok.stk with e|⟨e,hf⟩
 ·rw[e]at hb;exact List.mem_cons_of_mem _ hb
 ·rw[e]at hb
  unfold fS at hb
  rw[List.filterMap_cons,hf]at hb
  exact hb
theorem aD.stkFree(I:aD X ae σ H s):∀b∈fS X.stack,H b=none:=fun b hb=>by
 rcases List.mem_cons.mp (I.stkSub b hb)with e|hb
 ·rw[e];exact I.free
 ·obtain⟨_,o,ho,_⟩:=I.ok.funs.mem hb
  exact I.base.free b o ho (I.ok.frf b hb) fun z=>I.ok.exfs b z hb
theorem aD.step{g':Array GenState}{t':Nat}{d':Drawn}{ch:List Addr}(I:aD X ae σ H s)
 (hch:∀b∈ch,(b∈X.ex\/ X.s₀.heap.objs.size<=b)/\b≠X.env.locals/\(∀x c,X.env.cells.lookup x=some c->c≠b)/\∀p∈X.pn++ ae,p.1≠b)
 (keep:∀b o,b≠X.env.locals->b∉X.fs->b∉ch->s.heap.get? b=some o->H b=none->h'.get? b=some o)
 (slot:∀b o,b≠X.env.locals->b∈X.fs->b∉ch->s.heap.get? b=some o->H b=none->∃sl,h'.get? b=some {o with slots:=sl})(free:∀b o,b∉ch->s.heap.get? b=some o->H b=none->H' b=none)
 (there:∀b o,b∉ch->s.heap.get? b=some o->∃o',h'.get? b=some o')
 (tups:∀b xs,H b=some (.tup xs)->H' b=some (.tup xs))(frzs:∀b o u,H b=some (.frz o u)->H' b=some (.frz o u))(tbls:∀b ps,H b=some (.tbl ps)->∃more,H' b=some (.tbl (ps++ more)))
 (ns:∀m,s.heap.Ns X.env.locals m->h'.Ns X.env.locals m)(hok:bZ X.prog X.w H' h')(hg:AllBare g'):
 aD X ae σ H' {s with heap:=h',gens:=g',drawn:=d',toks:=t'}:=by
 have neL:∀b o,X.s₀.heap.get? b=some o->b≠X.env.locals:=fun b o e=>Nat.ne_of_lt (Nat.lt_of_lt_of_le (Heap.lt_size e) I.ok.above)
 have neC:∀b o,X.s₀.heap.get? b=some o->b∉X.ex->b∉ch:=fun b o e hx hb=>by
  rcases(hch b hb).1 with z|z
  ·exact hx z
  ·exact absurd (Nat.lt_of_lt_of_le (Heap.lt_size e) z) (Nat.lt_irrefl _)
 have bI:∀x c,X.env.cells.lookup x=some c->∀v,s.heap.IsCell c v->h'.IsCell c v:=fun x c e v ⟨o,ho,hd⟩=>by
  have nch:c∉ch:=fun z=>(hch c z).2.2.1 x c e rfl
  by_cases hc:c∈X.fs
  ·obtain⟨sl,q⟩:=slot c o (I.cne x c e) hc nch ho (I.freeC x c e)
   exact⟨_,q,hd⟩
  ·exact⟨o,keep c o (I.cne x c e) hc nch ho (I.freeC x c e),hd⟩
 refine⟨I.ok,I.os,hg,⟨fun b o e n hb hx=> ?_,fun b o e n hb hx=> ?_,fun b o e n hx=> ?_,fun b o e hx=> ?_,fun b xs e=>tups b xs (I.base.tups b xs e),fun b o xs e=>frzs b o xs (I.base.frzs b o xs e),fun b ps e=> ?_⟩,?_,fun x c e=> ?_,?_,fun x c e=> ?_,fun p hp=> ?_,hok,I.len⟩
 ·exact keep b o (neL b o e) hb (neC b o e hx) (I.base.keep b o e n hb hx) (I.base.free b o e n hx)
 ·obtain⟨sl,e1⟩:=I.base.slot b o e n hb hx
  obtain⟨sl',e2⟩:=slot b _ (neL b o e) hb (neC b o e hx) e1 (I.base.free b o e n hx)
  exact⟨sl',e2⟩
 ·obtain⟨o',e1⟩:=I.base.there b o e hx
  exact free b o' (neC b o e hx) e1 (I.base.free b o e n hx)
 ·obtain⟨o',e1⟩:=I.base.there b o e hx
  exact there b o' (neC b o e hx) e1
 ·obtain⟨m1,e1⟩:=I.base.tbls b ps e
  obtain⟨m2,e2⟩:=tbls b _ e1
  exact⟨m1++ m2,by rw[e2,Array.append_assoc]⟩
 ·obtain⟨m,hn,hl⟩:=I.loc
  refine⟨m,ns m hn,fun i x v e1 e2 e3=> ?_⟩
  obtain⟨u,r,l⟩:=hl i x v e1 e2 e3
  refine⟨u,r,?_⟩
  rcases l with l|⟨k,c,e,z⟩
  ·exact .inl l
  ·exact .inr ⟨k,c,e,bI x c e _ z⟩
 ·obtain⟨v,z⟩:=I.cell x c e
  exact⟨v,bI x c e v z⟩
 ·obtain⟨m,⟨o,_,_,ho,_⟩,_⟩:=I.loc
  exact free _ o (fun z=>(hch _ z).2.1 rfl) ho I.free
 ·obtain⟨v,o,ho,hd⟩:=I.cell x c e
  exact free c o (fun z=>(hch c z).2.2.1 x c e rfl) ho (I.freeC x c e)
 ·obtain⟨e,n,ne,nf,d⟩:=I.pin p hp
  have nch:p.1∉ch:=fun z=>(hch p.1 z).2.2.2 p hp rfl
  exact⟨keep p.1 p.2 ne nf nch e n,free p.1 p.2 nch e n,ne,nf,d⟩
theorem aD.un{t':Nat}(I:aD X ae σ H s)(u:Un X.fs [] H H' s.heap h')(hok:bZ X.prog X.w H' h'):aD X ae σ H' {s with heap:=h',toks:=t'}:=by
 obtain⟨m,⟨o,es,ep,ho,r⟩,_⟩:=id I.loc
 obtain⟨sl,hL⟩:=u.any ho I.free (by simp)
 exact I.step (g':=s.gens) (d':=s.drawn) (ch:=[]) (fun _ z=>nomatch z) (fun b o _ hb _ e n=>u.keep b o e n hb (by simp)) (fun b o _ hb _ e n=>u.slot b o e n hb (by simp)) (fun b o _ e n=>u.free b o e n (by simp)) (fun b o _ e=>u.there b o e (by simp)) u.tups u.frzs u.tbls (fun m' hm=>by
  obtain⟨o',es',ep',ho',r'⟩:=hm
  rw[ho]at ho';cases ho'
  exact⟨_,es',ep',hL,r'⟩) hok I.bare
theorem aD.call{g':Array GenState}{t':Nat}{d':Drawn}{ch:List Addr}(I:aD X ae σ H s)(u:Un (fS X.stack) ch H H' s.heap h')(hok:bZ X.prog X.w H' h')(hg:AllBare g')
 (hch:∀b∈ch,(b∈X.ex\/ X.s₀.heap.objs.size<=b)/\b≠X.env.locals/\(∀x c,X.env.cells.lookup x=some c->c≠b)/\∀p∈X.pn++ ae,p.1≠b):
 aD X ae σ H' {s with heap:=h',gens:=g',drawn:=d',toks:=t'}:=by
 obtain⟨m,⟨o,es,ep,ho,r⟩,_⟩:=id I.loc
 obtain⟨sl,hL⟩:=u.any ho I.free fun z=>(hch _ z).2.1 rfl
 exact I.step (ch:=ch) hch (fun b o hL hb hc e n=>u.keep b o e n (fun z=>(List.mem_cons.mp (I.stkSub b z)).elim hL hb) hc) (fun b o _ _ hc e n=>u.any e n hc) (fun b o hc e n=>u.free b o e n hc) (fun b o hc e=>u.there b o e hc) u.tups u.frzs u.tbls (fun m' hm=>by
  obtain⟨o',es',ep',ho',r'⟩:=hm
  rw[ho]at ho';cases ho'
  exact⟨_,es',ep',hL,r'⟩) hok hg
theorem aD.turned{t':Nat}{it:Addr}(I:aD X ae σ H s)(k:∀b o,b≠it->s.heap.get? b=some o->h'.get? b=some o)(hn:H it=none)(hL:it≠X.env.locals)
 (h1:it∈X.ex\/ X.s₀.heap.objs.size<=it)(h2:∀x c,X.env.cells.lookup x=some c->c≠it)(h3:∀p∈X.pn++ ae,p.1≠it):aD X ae σ H {s with heap:=h',toks:=t'}:=by
 have nit:∀b u,H b=some u->b≠it:=fun b u e z=>by rw[z,hn]at e;cases e
 refine I.step (g':=s.gens) (d':=s.drawn) (ch:=[it]) (fun b hb=> ?_) (fun b o _ _ hc e _=>k b o (fun z=>hc (by simp[z])) e) (fun b o _ _ hc e _=>⟨o.slots,k b o (fun z=>hc (by simp[z])) e⟩) (fun _ _ _ _ n=>n)
  (fun b o hc e=>⟨o,k b o (fun z=>hc (by simp[z])) e⟩) (fun _ _ e=>e) (fun _ _ _ e=>e) (fun b ps e=>⟨#[],by rw[e];simp⟩) (fun m hm=> ?_) (fun b u e=> ?_) I.bare
 ·have e:b=it:=by simpa using hb
  subst e
  exact⟨h1,hL,h2,h3⟩
 ·obtain⟨o,es,ep,ho,r⟩:=hm
  exact⟨o,es,ep,k _ o (Ne.symm hL) ho,r⟩
 ·refine(I.hok b u e).stay (fun c v hc q=>k c v ?_ q) (fun _ q=>q) fun _ _ q=>q
  rcases hc with z|z
  ·rw[z];exact nit b u e
  ·exact nit c _ z
theorem aD.tok(I:aD X ae σ H s)(t:Nat):aD X ae σ H {s with toks:=t}:=I.un (h':=s.heap) (t':=t) Un.refl I.hok
theorem aD.kept{t':Nat}(I:aD X ae σ H s)(k:∀b u,s.heap.get? b=some u->h'.get? b=some u):aD X ae σ H {s with heap:=h',toks:=t'}:=I.un (Un.kept k) (I.hok.kept k)
theorem aD.laid{t':Nat}(I:aD X ae σ H s)(k:∀b u,s.heap.get? b=some u->h'.get? b=some u)(hp:s.heap.objs.size<=a)(new:cX X.prog X.w (upd H a o) h' a o):
 aD X ae σ (upd H a o) {s with heap:=h',toks:=t'}:=I.un (Un.laid k hp (I.hok.fresh hp)) (I.hok.laid k hp new)
theorem aD.write{x e:Addr}{t':Nat}(I:aD X ae σ H s)(mu:rQ (H x))(he:e=x\/ H e=some (.own x))(k:∀b u,b≠e->s.heap.get? b=some u->h'.get? b=some u)(heo:∃u,h'.get? e=some u)
 (new:cX X.prog X.w (upd H x o) h' x o):aD X ae σ (upd H x o) {s with heap:=h',toks:=t'}:=I.un (Un.write mu he k heo) (I.hok.write mu he k heo new)
theorem aD.pins_of{pins':List (Addr×Obj)}(I:aD X ae σ H s)(h:∀p∈pins',s.heap.get? p.1=some p.2/\H p.1=none/\p.1≠X.env.locals/\p.1∉X.fs/\∀v,p.2.data≠ .cell v):aD X pins' σ H s:=
 ⟨I.ok,I.os,I.bare,I.base,I.loc,I.cell,I.free,I.freeC,fun p hp=>(List.mem_append.mp hp).elim (fun z=>I.pin p (List.mem_append_left _ z)) (h p),I.hok,I.len⟩
theorem a0M(hN:N.Nodup)(a:N[i]?=some x)(b:N[j]?=some x):i=j:=by
 obtain⟨h1,e1⟩:=List.getElem?_eq_some_iff.mp a
 obtain⟨h2,e2⟩:=List.getElem?_eq_some_iff.mp b
 exact(List.getElem_inj hN).mp (e1.trans e2.symm)
theorem a0Q{M:Model}{v:V}{Q:Unit->Shared->Prop}(I:aD X ae σ H s)(hN:X.N.Nodup)(hi:X.N[i]?=some x)(hx:vF X.env.scope x)(r:bA v u)
 (h:∀s',aD X ae (σ.set i (some v)) H s'->(∃a,Heap.SameBut a s.heap s'.heap/\(a=X.env.locals\/ X.env.cells.lookup x=some a))->Q () s')(hf:X.fn x=true\/ X.env.scope.names.lookup x=some .local:=by first|exact .inl rfl|exact .inr rfl|assumption):wpAny M A (storeName X.env x u) Q E s:=by
 obtain⟨m,hn,hl⟩:=id I.loc
 have hcls:(X.env.scope.kind== .class||(X.env.scope.kind== .module&&X.env.locals !=X.env.globals))=false:=by rw[I.ok.kind];rfl
 have hiσ:i<σ.length:=by rw[I.len];exact(List.getElem?_eq_some_iff.mp hi).1
 have cne:=I.cne
 have tracked:∀{a:Addr} {h':Heap},(∃o,s.heap.get? a=some o/\H a=none)->Heap.SameBut a s.heap h'->bZ X.prog X.w H h':=fun{a h'} ha hs b ob e=>by
  obtain⟨_,_,hfree⟩:=ha
  refine(I.hok b ob e).stay (fun c w' hc q=>(hs.2 c ?_).trans q) (fun _ q=>q) fun _ _ q=>q
  rintro rfl
  rcases hc with rfl|hc
  ·rw[hfree]at e;cases e
  ·rw[hfree]at hc;cases hc
 rcases hx with hk|hk
 ·refine wpAny_storeName_local hk hn (fun h' hn' hs=> ?_) hcls
  obtain⟨oL,_,_,hoL,_⟩:=id hn
  refine h _ ⟨I.ok,I.os,I.bare,⟨fun b o e n hb hx=> ?_,fun b o e n hb hx=> ?_,I.base.free,fun b o e hx=> ?_,I.base.tups,I.base.frzs,I.base.tbls⟩,⟨_,hn',fun j y v' e1 e2 e3=> ?_⟩,fun y c e=> ?_,I.free,I.freeC,fun p hp=> ?_,tracked ⟨oL,hoL,I.free⟩ hs,by simpa using I.len⟩ ⟨_,hs,.inl rfl⟩
  ·exact(hs.2 b (Nat.ne_of_lt (Nat.lt_of_lt_of_le (Heap.lt_size e) I.ok.above))).trans (I.base.keep b o e n hb hx)
  ·obtain⟨sl,e1⟩:=I.base.slot b o e n hb hx
   exact⟨sl,(hs.2 b (Nat.ne_of_lt (Nat.lt_of_lt_of_le (Heap.lt_size e) I.ok.above))).trans e1⟩
  ·obtain⟨o',e1⟩:=I.base.there b o e hx
   exact⟨o',(hs.2 b (Nat.ne_of_lt (Nat.lt_of_lt_of_le (Heap.lt_size e) I.ok.above))).trans e1⟩
  ·by_cases hj:j=i
   ·subst hj
    rw[hi]at e1;cases e1
    rw[List.getElem?_set_self hiσ]at e2
    cases e2
    exact⟨u,r,.inl ⟨hk,by simp⟩⟩
   ·rw[List.getElem?_set_ne (Ne.symm hj)]at e2
    obtain⟨u',r',q⟩:=hl j y v' e1 e2 e3
    refine⟨u',r',?_⟩
    rcases q with⟨k,e⟩|⟨k,c,e,z⟩
    ·refine .inl ⟨k,?_⟩
     have:y≠x:=fun e=>hj (a0M hN e1 (e▸hi))
     simp[this,e]
    ·exact .inr ⟨k,c,e,z.sameBut hs (cne y c e)⟩
  ·obtain⟨w',z⟩:=I.cell y c e
   exact⟨w',z.sameBut hs (cne y c e)⟩
  ·obtain⟨e,n,ne,nf,d⟩:=I.pin p hp
   exact⟨(hs.2 p.1 ne).trans e,n,ne,nf,d⟩
 ·have hfn:X.fn x=true:=by
   rcases hf with z|z
   ·exact z
   ·rw[z]at hk;cases hk
  obtain⟨c,hc⟩:=I.ok.has x (.inl hk)
  obtain⟨w',z⟩:=I.cell x c hc
  refine wpAny_storeName_cell I.ok.kind hk hc z (fun h' hc' hs=> ?_)
  obtain⟨oc,hoc,hocd⟩:=id z
  refine h {s with heap:=h'} ⟨I.ok,I.os,I.bare,⟨fun b o e n hb hx=> ?_,fun b o e n hb hx=> ?_,I.base.free,fun b o e hx=> ?_,I.base.tups,I.base.frzs,I.base.tbls⟩,⟨m,hn.sameBut hs (Ne.symm (cne x c hc)),fun j y v' e1 e2 e3=> ?_⟩,fun y c' e=> ?_,I.free,I.freeC,fun p hp=> ?_,tracked ⟨oc,hoc,I.freeC x c hc⟩ hs,by simpa using I.len⟩ ⟨c,hs,.inr hc⟩
  ·exact(hs.2 b (Nat.ne_of_lt (Nat.lt_of_lt_of_le (Heap.lt_size e) (I.ok.cab x c hfn hc)))).trans (I.base.keep b o e n hb hx)
  ·obtain⟨sl,e1⟩:=I.base.slot b o e n hb hx
   exact⟨sl,(hs.2 b (Nat.ne_of_lt (Nat.lt_of_lt_of_le (Heap.lt_size e) (I.ok.cab x c hfn hc)))).trans e1⟩
  ·obtain⟨o',e1⟩:=I.base.there b o e hx
   exact⟨o',(hs.2 b (Nat.ne_of_lt (Nat.lt_of_lt_of_le (Heap.lt_size e) (I.ok.cab x c hfn hc)))).trans e1⟩
  ·by_cases hj:j=i
   ·subst hj
    rw[hi]at e1;cases e1
    rw[List.getElem?_set_self hiσ]at e2
    cases e2
    exact⟨u,r,.inr ⟨.inl hk,c,hc,hc'⟩⟩
   ·rw[List.getElem?_set_ne (Ne.symm hj)]at e2
    obtain⟨u',r',q⟩:=hl j y v' e1 e2 e3
    refine⟨u',r',?_⟩
    rcases q with q|⟨k,c',e,z'⟩
    ·exact .inl q
    ·refine .inr ⟨k,c',e,z'.sameBut hs ?_⟩
     rintro rfl
     exact hj (a0M hN e1 (I.ok.inj _ _ _ e hc▸hi))
  ·by_cases hcc:c'=c
   ·subst hcc;exact⟨_,hc'⟩
   ·obtain⟨w2,z2⟩:=I.cell y c' e
    exact⟨w2,z2.sameBut hs hcc⟩
  ·obtain⟨e,n,ne,nf,d⟩:=I.pin p hp
   refine⟨(hs.2 p.1 ?_).trans e,n,ne,nf,d⟩
   intro q
   rw[q,hoc]at e
   have q':oc=p.2:=Option.some.inj e
   exact d w' (by rw[<- q'];exact hocd)
theorem a02{M:Model}{v:V}{Q:Unit->Shared->Prop}(I:aD X ae σ H s)(hN:X.N.Nodup)(hi:X.N[i]?=some x)(hx:vF X.env.scope x)(r:bA v u)
 (h:∀s',aD X ae (σ.set i (some v)) H s'->Q () s')(hf:X.fn x=true\/ X.env.scope.names.lookup x=some .local:=by first|exact .inl rfl|exact .inr rfl|assumption):wpAny M A (storeName X.env x u) Q E s:=
 a0Q I hN hi hx r (fun s' I' _=>h s' I') hf
theorem aD.call'{ch:List Addr}(I:aD X ae σ H s)(ho:s'.os=s.os)(u:Un (fS X.stack) ch H H' s.heap s'.heap)(hok:bZ X.prog X.w H' s'.heap)(hg:AllBare s'.gens)
 (hch:∀b∈ch,(b∈X.ex\/ X.s₀.heap.objs.size<=b)/\b≠X.env.locals/\(∀x c,X.env.cells.lookup x=some c->c≠b)/\∀p∈X.pn++ ae,p.1≠b):aD X ae σ H' s':=by
 obtain⟨h',g',d',t',o'⟩:=s'
 have e:o'=s.os:=ho
 subst e
 exact I.call (g':=g') (t':=t') (d':=d') u hok hg hch
end
abbrev XK:=Value->Option Addr->Hp->Prop
abbrev St:=List (Option V)
abbrev VK:=V->Hp->Prop
abbrev TE:=St->Hp->VK->Prop
abbrev TT:=St->Hp->(Bool->Hp->Prop)->Prop
abbrev TA:=St->Hp->(List V->Hp->Prop)->Prop
structure lD where
 nx:St->Hp->Prop
 rt:VK
 bk:St->Hp->Prop:=fun _ _=>False
 ct:St->Hp->Prop:=fun _ _=>False
abbrev TS:=lD->St->Hp->Prop
variable{ta tb tc te tl:TE}{σ:St}
def EP(X:Cx)(ae:List (Addr×Obj))(σ:St)(Q:VK)(u:Value)(s':Shared):Prop:=∃v H',aD X ae σ H' s'/\bA v u/\Q v H'
def TP(X:Cx)(ae:List (Addr×Obj))(σ:St)(Q:Bool->Hp->Prop)(b:Bool)(s':Shared):Prop:=∃H',aD X ae σ H' s'/\Q b H'
def AP(X:Cx)(ae:List (Addr×Obj))(σ:St)(Q:List V->Hp->Prop)(us:List Value)(s':Shared):Prop:=∃vs H',aD X ae σ H' s'/\aX vs us/\Q vs H'
def SP(X:Cx)(ae:List (Addr×Obj))(D:lD)(f:Flow)(s':Shared):Prop:=
 match f with
 | .next=>∃σ' H',aD X ae σ' H' s'/\D.nx σ' H'
 | .brk=>∃σ' H',aD X ae σ' H' s'/\D.bk σ' H'
 | .cont=>∃σ' H',aD X ae σ' H' s'/\D.ct σ' H'
 | .ret u=>∃v σ' H',aD X ae σ' H' s'/\bA v u/\D.rt v H'
def PE(X:Cx)(e:Expr)(t:TE):Prop:=
 ∀(ae:List (Addr×Obj)) (s:Shared) (σ:St) (H:Hp) (Q:VK),aD X ae σ H s->t σ H Q->wpAny (model X.prog X.w) X.A (eval e X.env) (EP X ae σ Q) X.xe s
def PT(X:Cx)(e:Expr)(t:TT):Prop:=
 ∀(ae:List (Addr×Obj)) (s:Shared) (σ:St) (H:Hp) (Q:Bool->Hp->Prop),aD X ae σ H s->t σ H Q->wpAny (model X.prog X.w) X.A (isTrue e X.env (eval e X.env)) (TP X ae σ Q) X.xe s
def PW(X:Cx)(e:Expr)(t:TT):Prop:=
 ∀(whole:Sem Value) (ae:List (Addr×Obj)) (s:Shared) (σ:St) (H:Hp) (Q:Bool->Hp->Prop),aD X ae σ H s->t σ H Q->wpAny (model X.prog X.w) X.A (isTrue e X.env whole) (TP X ae σ Q) X.xe s
theorem PW.pt{t:TT}(h:PW X e t):PT X e t:=h _
def PA(X:Cx)(es:List Expr)(t:TA):Prop:=
 ∀(pos:Pos) (ae:List (Addr×Obj)) (s:Shared) (σ:St) (H:Hp) (Q:List V->Hp->Prop),aD X ae σ H s->t σ H Q->wpAny (model X.prog X.w) X.A (spliced (backTo pos (starEach es X.env))) (AP X ae σ Q) X.xe s
def PS(X:Cx)(st:Stmt)(t:TS):Prop:=
 ∀(ae:List (Addr×Obj)) (s:Shared) (σ:St) (H:Hp) (D:lD),aD X ae σ H s->t D σ H->wpAny (model X.prog X.w) X.A (exec st X.env) (SP X ae D) X.xe s
def eS(X:Cx)(st:List Stmt)(t:TS):Prop:=
 ∀(ae:List (Addr×Obj)) (s:Shared) (σ:St) (H:Hp) (D:lD),aD X ae σ H s->t D σ H->wpAny (model X.prog X.w) X.A (execs st X.env) (SP X ae D) X.xe s
theorem aT{α:Type}{t:Sem α}{Q Q':α->Shared->Prop}{M:Model}(h:wpAny M A t Q E s)(hQ:∀a s,Q a s->Q' a s):wpAny M A t Q' E s:=wpAny_mono h hQ fun _ _ x=>x
section
theorem bin{a b:Expr}(ha:PE X a ta)(hb:PE X b tb){R:V->V->Hp->Prop}(I:aD X ae σ H s)(h:ta σ H fun x H1=>tb σ H1 fun y H2=>R x y H2)
 {α:Type}{Q:α->Shared->Prop}{f:Value->Value->Sem α}
 (hf:∀v u s2 x y H2,aD X ae σ H2 s2->bA x v->bA y u->R x y H2->wpAny (model X.prog X.w) X.A (f v u) Q X.xe s2):
 wpAny (model X.prog X.w) X.A (eval a X.env) (fun v s₁=>wpAny (model X.prog X.w) X.A (eval b X.env) (fun u s₂=>wpAny (model X.prog X.w) X.A (f v u) Q X.xe s₂) X.xe s₁) X.xe s:=by
 refine aT (ha ae s σ H _ I h) ?_
 rintro v s1 ⟨x,H1,I1,r1,q1⟩
 refine aT (hb ae s1 σ H1 _ I1 q1) ?_
 rintro u s2 ⟨y,H2,I2,r2,q2⟩
 exact hf v u s2 x y H2 I2 r1 r2 q2
def jC(i:Nat):TE:=fun σ H Q=>∃v,σ[i]?=some (some v)/\Q v H
def tC(v:V):TE:=fun _ H Q=>Q v H
theorem a0H{pos:Pos}(hN:X.N[i]?=some x)(hv:sZ X.env.scope x)(hd:(x==("__debug__":Str))=false:=by decide)(hcd:(x==("__classdict__":Str))=false:=by decide):PE X (.Name x pos) (jC i):=by
 intro ae s σ H Q I h
 obtain⟨v,e,h⟩:=h
 obtain⟨m,hn,hl⟩:=I.loc
 obtain⟨u,r,l⟩:=hl i x v hN e hv
 have fin:EP X ae σ Q u s:=⟨v,H,I,r,h⟩
 rcases l with⟨hk,hm⟩|⟨hk,c,hc,hcell⟩
 ·exact wpAny_Name (wpAny_loadName_local I.ok.kind hk hn hm fin) hd
 ·rcases hk with hk|hk
  ·exact wpAny_Name (wpAny_loadName_cell I.ok.kind hk hc hcell fin) hd
  ·exact wpAny_Name (wpAny_loadName_free I.ok.kind hk hc hcell fin hcd) hd
theorem aY{i j pos}:PE X (.Constant (.int i) j pos) (tC (.int i)):=fun _ _ _ H _ I h=>wpAny_Constant_int ⟨.int i,H,I.tok _,⟨_,rfl⟩,h⟩
theorem qQ{b j pos}:PE X (.Constant (.bool b) j pos) (tC (.bl b)):=fun _ _ _ H _ I h=>Constant_bool ⟨.bl b,H,I,rfl,h⟩
theorem gE{j pos}:PE X (.Constant .none j pos) (tC .non):=fun _ _ _ H _ I h=>Constant_none ⟨.non,H,I,rfl,h⟩
theorem dY{x j pos}:PE X (.Constant (.str x) j pos) (tC (.str x)):=fun _ _ _ H _ I h=>Calls.Constant_str ⟨.str x,H,I.tok _,⟨_,rfl⟩,h⟩
def Gl(X:Cx)(x:Str):Prop:=X.env.kindOf x=some .globalImplicit
theorem sI{pos:Pos}(I:aD X ae σ H s)(hg:Gl X x)(hm:X.mg x=some u)(h:Q u s)
 (hd:(x==("__debug__":Str))=false:=by decide):wpAny (model X.prog X.w) X.A (eval (.Name x pos) X.env) Q E s:=
 Calls.Name_function_global I.ok.kind hg (Calls.loadGlobal_global (by rw[I.ok.glob];exact I.mod.glob.keeps I.bk) hm h) hd
theorem nE{pos:Pos}(I:aD X ae σ H s)(hg:Gl X x)(hm:X.mg x=none)(hv:bootBuiltins x=some u)(h:Q u s)
 (hn:x≠ "__name__":=by decide)(hd:(x==("__debug__":Str))=false:=by decide):wpAny (model X.prog X.w) X.A (eval (.Name x pos) X.env) Q E s:=by
 obtain⟨mb,h1,h2⟩:=I.mod.blt
 exact Calls.Name_function_global I.ok.kind hg (Calls.loadGlobal_builtin (by rw[I.ok.glob];exact I.mod.glob.keeps I.bk) hm (by rw[I.ok.blt];exact h1.keeps I.bk) ((h2 x hn).trans hv) h) hd
theorem a0y{v:V}{pos:Pos}(hg:Gl X x)(hm:X.mg x=some u)(r:bA v u)(hd:(x==("__debug__":Str))=false:=by decide):PE X (.Name x pos) (tC v):=
 fun _ _ _ H _ I h=>sI I hg hm ⟨v,H,I,r,h⟩ hd
theorem a8b{v:V}{pos:Pos}(hg:Gl X x)(hm:X.mg x=none)(hv:bootBuiltins x=some u)(r:bA v u)(hn:x≠ "__name__":=by decide)(hd:(x==("__debug__":Str))=false:=by decide):PE X (.Name x pos) (tC v):=
 fun _ _ _ H _ I h=>nE I hg hm hv ⟨v,H,I,r,h⟩ hn hd
variable{a b:Expr}{pos:Pos}
def PC(X:Cx)(op:CmpOp)(a b:Expr)(t:TE):Prop:=
 ∀(ae:List (Addr×Obj)) (s:Shared) (σ:St) (H:Hp) (Q:VK),aD X ae σ H s->t σ H Q->
  wpAny (model X.prog X.w) X.A (eval a X.env) (fun v s₁=>wpAny (model X.prog X.w) X.A (eval b X.env) (fun u s₂=>wpAny (model X.prog X.w) X.A (compareOp op v u) (EP X ae σ Q) X.xe s₂) X.xe s₁) X.xe s
theorem a2v(b:Expr){op:CmpOp}(h:op≠ .In)(h2:op≠ .NotIn):behindInMarks op b=false:=by
 have e1:(op==CmpOp.In)=false:=by cases op<;>first|rfl|exact absurd rfl h
 have e2:(op==CmpOp.NotIn)=false:=by cases op<;>first|rfl|exact absurd rfl h2
 cases b<;>simp[behindInMarks,e1,e2]
def tB(t:TE):TT:=fun σ H Q=>t σ H fun x H1=>∃c,x= .bl c/\Q c H1
theorem a0q{op:CmpOp}{t:TE}(h:PC X op a b t)(h1:behindInMarks op b=false:=by first|exact a2v _ (by decide) (by decide)|rfl):PE X (.Compare a [op] [b] pos) t:=fun ae s σ H Q I hw=>wpAny_Compare1 (h ae s σ H Q I hw) h1
theorem iR{op:CmpOp}{t:TE}(h:PC X op a b t)(h1:behindInMarks op b=false:=by first|exact a2v _ (by decide) (by decide)|rfl):PT X (.Compare a [op] [b] pos) (tB t):=by
 intro ae s σ H Q I hw
 refine wpAny_isTrue_Compare1 (aT (h ae s σ H _ I hw) fun v s1 h1=>aT h1 fun u s2 h2=>aT h2 fun c s3 ⟨x,H1,I1,r1,q1⟩=> ?_) h1
 obtain⟨d,rfl,q⟩:=q1
 cases r1
 exact wpAny_truthy_bool ⟨H1,I1,q⟩
theorem dI{t:TE}(h:PE X e t)(he:∀whole,isTrue e X.env whole=(do let v<- whole;standAt e.pos;holding [v] (truthy v)):=by intro _;rfl):PT X e (tB t):=by
 intro ae s σ H Q I hw
 refine isTrue_plain (aT (h ae s σ H _ I hw) ?_) (he _)
 rintro v s1 ⟨x,H1,I1,r1,q1⟩
 obtain⟨d,rfl,q⟩:=q1
 cases r1
 exact wpAny_truthy_bool ⟨H1,I1,q⟩
variable{tA tB':TT}{cT:List Expr}
def tAnd(t u:TT):TT:=fun σ H Q=>t σ H fun c H1=>if c=true then u σ H1 Q else Q false H1
def tOr(t u:TT):TT:=fun σ H Q=>t σ H fun c H1=>if c=true then Q true H1 else u σ H1 Q
def tNot(t:TT):TT:=fun σ H Q=>t σ H fun c H1=>Q (!c) H1
theorem lU(ha:PT X a tA):PW X (.BoolOp .And [a] pos) tA:=by
 intro wh ae s σ H Q I h
 refine isTrue_and (aT (ha ae s σ H Q I h) fun c s1 e=> ?_)
 cases c with
 |true=>exact isTrue_and_nil e
 |false=>exact e
theorem jK(ha:PT X a tA):PW X (.BoolOp .Or [a] pos) tA:=by
 intro wh ae s σ H Q I h
 refine isTrue_or (aT (ha ae s σ H Q I h) fun c s1 e=> ?_)
 cases c with
 |false=>exact isTrue_or_nil e
 |true=>exact e
theorem kU(ha:PT X a tA)(hb:PW X (.BoolOp .And (b::cT) pos) tB'):PW X (.BoolOp .And (a::b::cT) pos) (tAnd tA tB'):=by
 intro wh ae s σ H Q I h
 refine isTrue_and (aT (ha ae s σ H _ I h) ?_)
 rintro c s1 ⟨H1,I1,q1⟩
 cases c with
 |true=>exact hb wh ae s1 σ H1 Q I1 q1
 |false=>exact⟨H1,I1,q1⟩
theorem gZ(ha:PT X a tA)(hb:PW X (.BoolOp .Or (b::cT) pos) tB'):PW X (.BoolOp .Or (a::b::cT) pos) (tOr tA tB'):=by
 intro wh ae s σ H Q I h
 refine isTrue_or (aT (ha ae s σ H _ I h) ?_)
 rintro c s1 ⟨H1,I1,q1⟩
 cases c with
 |true=>exact⟨H1,I1,q1⟩
 |false=>exact hb wh ae s1 σ H1 Q I1 q1
theorem eI(ha:PT X a tA):PT X (.UnaryOp .Not a pos) (tNot tA):=by
 intro ae s σ H Q I h
 exact isTrue_not (ha ae s σ H (fun c H1=>Q (!c) H1) I h)
def a8h(ta tb:TE):TE:=fun σ H Q=>ta σ H fun x H1=>∃c,x= .bl c/\if c=true then tb σ H1 Q else Q (.bl false) H1
def tOrV(ta tb:TE):TE:=fun σ H Q=>ta σ H fun x H1=>∃c,x= .bl c/\if c=true then Q (.bl true) H1 else tb σ H1 Q
def a8A(ta:TE):TE:=fun σ H Q=>ta σ H fun x H1=>∃c,x= .bl c/\Q (.bl (!c)) H1
theorem mR{op}{t:TE}(h:PE X a t):PE X (.BoolOp op [a] pos) t:=fun ae s σ H Q I hw=>BoolOp_one (h ae s σ H Q I hw)
theorem lZ(ha:PE X a ta)(hb:PE X (.BoolOp .And (b::cT) pos) tb):PE X (.BoolOp .And (a::b::cT) pos) (a8h ta tb):=by
 intro ae s σ H Q I h
 refine BoolOp_and (aT (ha ae s σ H _ I h) ?_)
 rintro v s1 ⟨x,H1,I1,r1,q1⟩
 obtain⟨c,rfl,q1⟩:=q1
 cases r1
 refine wpAny_truthy_bool ?_
 cases c with
 |true=>exact hb ae s1 σ H1 Q I1 q1
 |false=>exact⟨.bl false,H1,I1,rfl,q1⟩
theorem a6e(ha:PE X a ta)(hb:PE X (.BoolOp .Or (b::cT) pos) tb):PE X (.BoolOp .Or (a::b::cT) pos) (tOrV ta tb):=by
 intro ae s σ H Q I h
 refine BoolOp_or (aT (ha ae s σ H _ I h) ?_)
 rintro v s1 ⟨x,H1,I1,r1,q1⟩
 obtain⟨c,rfl,q1⟩:=q1
 cases r1
 refine wpAny_truthy_bool ?_
 cases c with
 |false=>exact hb ae s1 σ H1 Q I1 q1
 |true=>exact⟨.bl true,H1,I1,rfl,q1⟩
theorem a2p(ha:PE X a ta):PE X (.UnaryOp .Not a pos) (a8A ta):=by
 intro ae s σ H Q I h
 refine UnaryOp_ (aT (ha ae s σ H _ I h) ?_)
 rintro v s1 ⟨x,H1,I1,r1,q1⟩
 obtain⟨c,rfl,q1⟩:=q1
 cases r1
 exact not_of (wpAny_truthy_bool ⟨.bl (!c),H1,I1,rfl,q1⟩)
end
def aM(K:Fg)(H:Hp)(a:Addr)(xs:List V):Prop:=
 Rd H a (.lst xs)\/
  ∃(o:Obj) (its:Array Value) (n:Nat),K.lookup a=some o/\o.cls= .type "list" /\o.dict=none/\o.data= .seq its n/\its.size<=sizeLine/\aX xs its.toList
def cF(K:Fg)(H:Hp)(a:Addr)(xs:List V):Prop:=
 Rd H a (.tup xs)\/
  ∃(o:Obj) (its:Array Value) (n:Nat),K.lookup a=some o/\o.cls= .type "tuple" /\o.data= .seq its n/\its.size<=sizeLine/\aX xs its.toList
noncomputable def absV:Value->Option V
 | .none=>some .non
 | .bool b=>some (.bl b)
 | .int i _=>some (.int i)
 | .str x _=>some (.str x)
 | .bytes b _=>some (.byt b)
 | .float b _=>some (.flt b)
 | .ref a=>some (.ref a)
 | .type n=>some (.ty n)
 |_=>none
theorem bA.abs{x:V}(r:bA x u):absV u=some x:=by
 cases x with
 |non=>cases r;rfl
 |bl _=>cases r;rfl
 |int _=>obtain⟨t,rfl⟩:=r;rfl
 |str _=>obtain⟨t,rfl⟩:=r;rfl
 |byt _=>obtain⟨t,rfl⟩:=r;rfl
 |flt _=>obtain⟨t,rfl⟩:=r;rfl
 |ref _=>cases r;rfl
 |ty _=>cases r;rfl
theorem bA.inj{x:V}(r:bA x u)(q:bA y u):x=y:=Option.some.inj (r.abs.symm.trans q.abs)
theorem aX.inj:∀{xs ys:List V} {us:List Value},aX xs us->aX ys us->xs=ys
 |_,_,_,.nil,.nil=>rfl
 |_,_,_,.cons r t,.cons r' t'=>by rw[r.inj r',aX.inj t t']
section
theorem aM.of(h:H a=some (.lst xs)):aM K H a xs:=.inl (.inl h)
theorem cF.of(h:H a=some (.tup xs)):cF K H a xs:=.inl (.inl h)
theorem aD.list(I:aD X ae σ H s)(h:aM X.K H a xs):∃its:List Value,aX xs its/\PlainL s.heap a its.toArray/\xs.length<=sizeLine:=by
 rcases h with h|⟨o,its,n,hk,hc,hd,hs,hz,r⟩
 ·obtain⟨z,its,n,r,e⟩:=h.ok I.hok
  exact⟨its,r,⟨_,n,e,rfl,rfl,rfl⟩,z⟩
 ·refine⟨its.toList,r,⟨o,n,I.kIn a o hk,hc,hd,by simpa using hs⟩,?_⟩
  have e:=r.length
  simp only[Array.length_toList]at e
  omega
theorem aD.tuple(I:aD X ae σ H s)(h:cF X.K H a xs):∃its:List Value,aX xs its/\IsTup s.heap a its.toArray/\xs.length<=sizeLine:=by
 rcases h with h|⟨o,its,n,hk,hc,hs,hz,r⟩
 ·obtain⟨z,its,r,p⟩:=h.ok I.hok
  exact⟨its,r,p,z⟩
 ·refine⟨its.toList,r,⟨o,I.kIn a o hk,hc,n,by simpa using hs⟩,?_⟩
  have e:=r.length
  simp only[Array.length_toList]at e
  omega
theorem aD.list_inj(I:aD X ae σ H s)(h:aM X.K H a xs)(h':aM X.K H a ys):xs=ys:=by
 obtain⟨its,r,⟨o,n,e,_,_,d⟩,_⟩:=I.list h
 obtain⟨its',r',⟨o',n',e',_,_,d'⟩,_⟩:=I.list h'
 rw[e]at e';cases e'
 rw[d]at d'
 injection d' with d1 _
 have:its=its':=by simpa using congrArg Array.toList d1
 subst this
 exact r.inj r'
end
abbrev Cx.wish(X:Cx)(E:Value->Shared->Prop):Cx:={X with xe:=E}
abbrev Cx.nox(X:Cx):Cx:=X.wish fun _ _=>False
theorem Cx.Ok.wish(ok:X.Ok)(E:Value->Shared->Prop):(X.wish E).Ok:=
 ⟨ok.mod,ok.kind,ok.glob,ok.blt,ok.above,ok.inj,ok.has,ok.cab,ok.hd,ok.frames,ok.stk,ok.exf,ok.bs,ok.bsz,ok.noex,ok.exfs,ok.funs,ok.frf⟩
theorem Cx.Ok.unwish(ok:(X.wish E).Ok):X.Ok:=
 ⟨ok.mod,ok.kind,ok.glob,ok.blt,ok.above,ok.inj,ok.has,ok.cab,ok.hd,ok.frames,ok.stk,ok.exf,ok.bs,ok.bsz,ok.noex,ok.exfs,ok.funs,ok.frf⟩
section
theorem aD.wish(I:aD X ae σ H s)(E:Value->Shared->Prop):aD (X.wish E) ae σ H s:=⟨I.ok.wish E,I.os,I.bare,I.base,I.loc,I.cell,I.free,I.freeC,I.pin,I.hok,I.len⟩
theorem aD.unwish(I:aD (X.wish E) ae σ H s):aD X ae σ H s:=⟨I.ok.unwish,I.os,I.bare,I.base,I.loc,I.cell,I.free,I.freeC,I.pin,I.hok,I.len⟩
theorem SP.unwish{D:lD}{f:Flow}(h:SP (X.wish E) ae D f s'):SP X ae D f s':=by
 cases f with
 |next=>obtain⟨σ',H',I,q⟩:=h;exact⟨σ',H',I.unwish,q⟩
 |brk=>obtain⟨σ',H',I,q⟩:=h;exact⟨σ',H',I.unwish,q⟩
 |cont=>obtain⟨σ',H',I,q⟩:=h;exact⟨σ',H',I.unwish,q⟩
 |ret u=>obtain⟨v,σ',H',I,r,q⟩:=h;exact⟨v,σ',H',I.unwish,r,q⟩
theorem eS.nox{st:List Stmt}{t:TS}(h:eS X.nox st t):eS X st t:=fun ae s σ H D I hw=>
 wpAny_mono (h ae s σ H D (I.wish _) hw) (fun _ _ q=>q.unwish) fun _ _ z=>False.elim z
end
section
variable{st:Stmt}{cT:List Stmt}{t u:TS}{pos:Pos}
def a71:TS:=fun D σ H=>D.nx σ H
def tSeq(t u:TS):TS:=fun D σ H=>t {D with nx:=u D} σ H
theorem bO:eS X [] a71:=fun _ _ σ H _ I h=>wpAny_execs_nil ⟨σ,H,I,h⟩
theorem aK(h1:PS X st t)(h2:eS X cT u):eS X (st::cT) (tSeq t u):=by
 intro ae s σ H D I h
 refine wpAny_execs_cons (aT (h1 ae s σ H {D with nx:=u D} I h) fun f s1 q=> ?_)
 cases f with
 |next=>
  obtain⟨σ',H',I',q⟩:=q
  exact h2 ae s1 σ' H' D I' q
 |ret v=>exact q
 |brk=>exact q
 |cont=>exact q
theorem aL(h1:PS X st t):eS X [st] t:=by
 intro ae s σ H D I h
 refine wpAny_execs_cons (aT (h1 ae s σ H D I h) fun f s1 q=> ?_)
 cases f with
 |next=>exact wpAny_execs_nil q
 |ret v=>exact q
 |brk=>exact q
 |cont=>exact q
theorem aD.quiet(I:aD X ae σ H s):interactive X.env=false:=by simp[interactive,I.ok.kind]
def a9b(te:TE):TS:=fun D σ H=>te σ H fun _ H1=>D.nx σ H1
theorem cG(he:PE X e te)(hs:swapsWith e none pos.line X.env=pure false:=by rfl):PS X (.Expr e pos) (a9b te):=by
 intro ae s σ H D I h
 exact wpAny_Expr_any (aT (he ae s σ H _ I h) fun v s1 ⟨x,H1,I1,r1,q1⟩=>⟨σ,H1,I1,q1⟩) I.quiet hs
def tRet(te:TE):TS:=fun D σ H=>te σ H D.rt
theorem bL(he:PE X e te):PS X (.Return (some e) pos) (tRet te):=by
 intro ae s σ H D I h
 exact wpAny_Return_some (aT (he ae s σ H _ I h) fun v s1 ⟨x,H1,I1,r1,q1⟩=>⟨x,σ,H1,I1,r1,q1⟩)
def tIfS(c:TT)(t u:TS):TS:=fun D σ H=>c σ H fun b H1=>if b=true then t D σ H1 else u D σ H1
theorem bK{c:Expr}{a b:List Stmt}{tc:TT}(hc:PT X c tc)(ha:eS X a t)(hb:eS X b u):PS X (.If c a b pos) (tIfS tc t u):=by
 intro ae s σ H D I h
 refine wpAny_If (aT (hc ae s σ H _ I h) ?_)
 rintro d s1 ⟨H1,I1,q1⟩
 cases d with
 |true=>exact ha ae s1 σ H1 D I1 q1
 |false=>exact hb ae s1 σ H1 D I1 q1
end
abbrev TG:=V->St->Hp->(St->Hp->Prop)->Prop
abbrev oE:=List V->St->Hp->(St->Hp->Prop)->Prop
variable{g:TG}
def PG(X:Cx)(target:Expr)(t:TG):Prop:=
 ∀(ae:List (Addr×Obj)) (s:Shared) (σ:St) (H:Hp) (v:V) (u:Value) (Q:St->Hp->Prop),aD X ae σ H s->bA v u->t v σ H Q->
  wpAny (model X.prog X.w) X.A (assign target X.env u) (fun _ s'=>∃σ' H',aD X ae σ' H' s'/\Q σ' H') X.xe s
def uY(X:Cx)(ts:List Expr)(t:oE):Prop:=
 ∀(ae:List (Addr×Obj)) (s:Shared) (σ:St) (H:Hp) (vs:List V) (us:List Value) (Q:St->Hp->Prop),aD X ae σ H s->aX vs us->t vs σ H Q->
  wpAny (model X.prog X.w) X.A (assignInOrder ((assignEach ts X.env).map (·.2)) us) (fun _ s'=>∃σ' H',aD X ae σ' H' s'/\Q σ' H') X.xe s
abbrev wW:=V->V->V->Hp->(Hp->Prop)->Prop
def PSet(X:Cx)(t:wW):Prop:=
 ∀(ae:List (Addr×Obj)) (s:Shared) (σ:St) (H:Hp) (o i v:V) (ov iv u:Value) (Q:Hp->Prop),aD X ae σ H s->bA o ov->bA i iv->bA v u->t o i v H Q->
  wpAny (model X.prog X.w) X.A (setItem ov iv u) (fun _ s'=>∃H',aD X ae σ H' s'/\Q H') X.xe s
section
variable{pos:Pos}
noncomputable def tO(i:Nat):TG:=fun v σ H Q=>Q (σ.set i (some v)) H
theorem gQ(hN:X.N.Nodup)(hi:X.N[i]?=some x)(hx:vF X.env.scope x)(hf:X.fn x=true\/ X.env.scope.names.lookup x=some .local:=by first|exact .inl rfl|exact .inr rfl|assumption):PG X (.Name x pos) (tO i):=by
 intro ae s σ H v u Q I r h
 exact wpAny_assign_Name (a02 I hN hi hx r (fun s' I'=>⟨_,H,I',h⟩) hf)
noncomputable def gNil:oE:=fun vs σ H Q=>vs= [] /\Q σ H
noncomputable def a4e (t:TG) (u:oE):oE:=fun vs σ H Q=>∃v r,vs=v::r/\t v σ H fun σ' H'=>u r σ' H' Q
theorem a3L:uY X [] gNil:=by
 intro ae s σ H vs us Q I r h
 obtain⟨e,h⟩:=h
 subst e
 cases r
 exact assignInOrder_nil ⟨σ,H,I,h⟩
theorem rB{t:TG}{u:oE}(h1:PG X e t)(h2:uY X es u)
 (hs:(assignEach (e::es) X.env).map (·.2)=assign e X.env::(assignEach es X.env).map (·.2):=by rfl):uY X (e::es) (a4e t u):=by
 intro ae s σ H vs us Q I r h
 obtain⟨v,vr,e1,h⟩:=h
 subst e1
 cases r with
 |cons r rr=>
  rw[hs]
  refine assignInOrder_cons (aT (h1 ae s σ H _ _ _ I r h) ?_)
  rintro _ s1 ⟨σ1,H1,I1,q1⟩
  exact h2 ae s1 σ1 H1 _ _ Q I1 rr q1
noncomputable def gTup (K:Fg) (n:Nat) (t:oE):TG:=fun v σ H Q=>∃a xs,v= .ref a/\cF K H a xs/\xs.length=n/\t xs σ H Q
theorem a1S{k:Nat}{t:oE}{n:Nat}(hc:X.calm=true)(h:uY X es t)
 (hn:(assignEach es X.env).length=n:=by rfl)(hst:(assignEach es X.env).findIdx? (·.1)=none:=by rfl):PG X (.Tuple es k pos) (gTup X.K n t):=by
 intro ae s σ H v u Q I r hw
 obtain⟨a,xs,e1,hq,hl,hw⟩:=hw
 subst e1
 cases r
 obtain⟨its,rv,ht,hz⟩:=I.tuple hq
 refine assign_Tuple_tuple (I.ok.hd hc) ht (by simp[hn,<- hl,rv.length]) hst fun h' hx=> ?_
 have I1:aD X ae σ H {s with heap:=h'}:=I.kept (t':=s.toks) fun b o e=>hx b o (Nat.ne_of_lt (Heap.lt_size e)) e
 exact h ae _ σ H xs _ Q I1 (by simpa using rv) hw
noncomputable def gSub (to ti:TE) (t:wW):TG:=fun v σ H Q=>to σ H fun o H1=>ti σ H1 fun i H2=>t o i v H2 fun H3=>Q σ H3
theorem a0m{o i:Expr}{to ti:TE}{t:wW}(ho:PE X o to)(hi:PE X i ti)(hs:PSet X t)
 (ha:∀v,assign (.Subscript o i pos) X.env v=(do
  let ov<- holding [v] (eval o X.env)
  let iv<- holding [v,ov] (eval i X.env)
  standAt pos
  holding [v,ov,iv] (setItem ov iv v)
  release [v,ov,iv] []):=by intro _;rfl):PG X (.Subscript o i pos) (gSub to ti t):=by
 intro ae s σ H v u Q I r h
 rw[ha]
 refine wpAny_bind (wpAny_holding (aT (ho ae s σ H _ I h) ?_))
 rintro ov s1 ⟨x,H1,I1,r1,q1⟩
 refine wpAny_bind (wpAny_holding (aT (hi ae s1 σ H1 _ I1 q1) ?_))
 rintro iv s2 ⟨y,H2,I2,r2,q2⟩
 refine wpAny_bind (wpAny_standAt (wpAny_bind (wpAny_holding (aT (hs ae s2 σ H2 x y v ov iv u _ I2 r1 r2 r q2) ?_))))
 rintro _ s3 ⟨H3,I3,q3⟩
 exact wpAny_release ⟨σ,H3,I3,q3⟩
def xG(te:TE)(g:TG):TS:=fun D σ H=>te σ H fun x H1=>g x σ H1 D.nx
theorem a0l(he:PE X e te)(hg:PG X tg g)(hs:swapsWithSole [tg] e pos.line X.env=pure false:=by rfl)(hw:swappedStores [tg] e X.env=pure none:=by rfl)
 (h1:(assignEach [tg] X.env).map (·.2)= [assign tg X.env]:=by rfl):PS X (.Assign [tg] e pos) (xG te g):=by
 intro ae s σ H D I h
 refine wpAny_Assign_stores (aT (he ae s σ H _ I h) ?_) hs hw
 rintro v s1 ⟨x,H1,I1,r1,q1⟩
 rw[h1]
 exact aT (hg ae s1 σ H1 x v _ I1 r1 q1) fun _ s2 q=>q
theorem bU(hN:X.N.Nodup)(hi:X.N[i]?=some x)(hx:vF X.env.scope x)(he:PE X e te)(hs:swapsWith e (some (.Name x pos')) pos.line X.env=pure false:=by rfl)(hf:X.fn x=true\/ X.env.scope.names.lookup x=some .local:=by first|exact .inl rfl|exact .inr rfl|assumption):
 PS X (.Assign [.Name x pos'] e pos) (xG te (tO i)):=by
 intro ae s σ H D I h
 refine wpAny_Assign_Name (aT (he ae s σ H _ I h) ?_) hs
 rintro v s1 ⟨y,H1,I1,r1,q1⟩
 exact a02 I1 hN hi hx r1 (fun s2 I2=>⟨_,H1,I2,q1⟩) hf
def a5U(c:TT)(tb:TS):TS:=fun D σ H=>∃W:Nat->St->Hp->Prop,(∃m,W m σ H)/\∀m σ H,W m σ H->
 c σ H fun b H1=>if b=true then∃N:St->Hp->Prop,(∀σ' H',N σ' H'->∃m',m'<m/\W m' σ' H')/\tb {D with nx:=N,ct:=N,bk:=D.nx} σ H1 else D.nx σ H1
theorem xY{c:Expr}{body:List Stmt}{tc:TT}{tb:TS}(hp:PassesOwn (model X.prog X.w) X.A X.env X.xe)(hc:PT X c tc)(hb:eS X body tb):PS X (.While c body [] pos) (a5U tc tb):=by
 intro ae s σ H D I h
 obtain⟨W,⟨m0,w0⟩,turn⟩:=h
 refine wpAny_While (codeAny_whileLoop (fun n s'=>∃σ' H',aD X ae σ' H' s'/\W n σ' H') ?_ m0 ⟨σ,H,I,w0⟩)
 rintro n s1 ⟨σ1,H1,I1,w1⟩
 refine wpAny_passesOwn hp (aT (hc ae s1 σ1 H1 _ I1 (turn n σ1 H1 w1)) ?_)
 rintro b s2 ⟨H2,I2,q2⟩
 cases b with
 |true=>
  obtain⟨N,hN,q2⟩:=q2
  rw[if_pos rfl]
  refine wpAny_passesOwn hp (aT (hb ae s2 σ1 H2 _ I2 q2) fun f s3 q3=> ?_)
  cases f with
  |next=>
   obtain⟨σ3,H3,I3,n3⟩:=q3
   obtain⟨m',hm,w3⟩:=hN σ3 H3 n3
   exact⟨m',hm,σ3,H3,I3,w3⟩
  |cont=>
   obtain⟨σ3,H3,I3,n3⟩:=q3
   obtain⟨m',hm,w3⟩:=hN σ3 H3 n3
   exact⟨m',hm,σ3,H3,I3,w3⟩
  |brk=>exact q3
  |ret v=>exact q3
 |false=>
  rw[if_neg Bool.false_ne_true]
  exact wpAny_execs_nil ⟨σ1,H2,I2,q2⟩
end
structure It where
 go:Nat->Hp->Prop
 yld:Nat->Hp->V->Hp->Prop
 stop:Nat->Hp->Prop
def jT(X:Cx)(ae:List (Addr×Obj))(H:Hp)(b:Addr):Prop:=
 H b=none/\b≠X.env.locals/\b∉X.fs/\(b∈X.ex\/ X.s₀.heap.objs.size<=b)/\(∀x c,X.env.cells.lookup x=some c->c≠b)/\∀p∈X.pn++ ae,p.1≠b
theorem aD.fpOk(I:aD X ae σ H s)(hb:s.heap.objs.size<=b)(hn:H' b=none):jT X ae H' b:=by
 refine⟨hn,Nat.ne_of_gt (Nat.lt_of_lt_of_le I.lt hb),I.nofs hb,.inr (Nat.le_trans I.sz hb),fun x c e z=> ?_,fun p hp z=> ?_⟩
 ·obtain⟨v,q⟩:=I.cell x c e
  exact absurd (Nat.lt_of_lt_of_le q.lt (by rw[z];exact hb)) (Nat.lt_irrefl _)
 ·exact absurd (Nat.lt_of_lt_of_le (Heap.lt_size (I.pin p hp).1) (by rw[z];exact hb)) (Nat.lt_irrefl _)
structure oK(P:Program)(w:World)(K:Fg)(tg:Expr)(J:It)(fp:List Addr)(it:Addr)(tn:Nat->Heap->Prop):Prop where
 mem:it∈fp
 obj:∀i h,tn i h->∀b∈fp,∃o,h.get? b=some o/\∀v,o.data≠ .cell v
 keep:∀i h h',tn i h->(∀b∈fp,∀o,h.get? b=some o->h'.get? b=some o)->tn i h'
 item:∀(X:Cx),X.prog=P->X.w=w->X.K=K->X.calm=true->∀(i:Nat) (ae:List (Addr×Obj)) (s:Shared) (σ:St) (H:Hp) (E:Value->Shared->Prop),aD X ae σ H s->(∀b∈fp,jT X ae H b)->tn i s.heap->J.go i H->
  wpAny (model P w) X.A (pyNext (.ref it)) (fun r s1=>∃u,r=some u/\
   wpAny (model P w) X.A (letOwnedTupleGo tg (.ref it) u) (fun _ s2=>∃x H',aD X ae σ H' s2/\bA x u/\J.yld i H x H'/\tn (i+ 1) s2.heap/\∀b∈fp,H' b=none) E s1) E s
 done:∀(X:Cx),X.prog=P->X.w=w->X.K=K->X.calm=true->∀(i:Nat) (ae:List (Addr×Obj)) (s:Shared) (σ:St) (H:Hp) (E:Value->Shared->Prop),aD X ae σ H s->(∀b∈fp,jT X ae H b)->tn i s.heap->J.stop i H->
  wpAny (model P w) X.A (pyNext (.ref it)) (fun r s1=>r=none/\aD X ae σ H s1) E s
 self:∀(A:Around) (i:Nat) (s:Shared) (Q:Value->Shared->Prop) (E:Value->Shared->Prop),tn i s.heap->Q (.ref it) s->wpAny (model P w) A (pyIter (.ref it)) Q E s
abbrev TI:=St->Hp->(It->Hp->Prop)->Prop
def zT(X:Cx)(ae:List (Addr×Obj))(σ:St)(tg:Expr)(R:It->Hp->Prop)(itv:Value)(s2:Shared):Prop:=
 ∃(it:Addr) (fp:List Addr) (tn:Nat->Heap->Prop) (J:It) (H':Hp),itv= .ref it/\aD X ae σ H' s2/\oK X.prog X.w X.K tg J fp it tn/\tn 0 s2.heap/\(∀b∈fp,jT X ae H' b)/\R J H'
def PI(X:Cx)(tg iter:Expr)(wi:TI):Prop:=
 ∀(ae:List (Addr×Obj)) (s:Shared) (σ:St) (H:Hp) (R:It->Hp->Prop),aD X ae σ H s->wi σ H R->
  wpAny (model X.prog X.w) X.A (eval iter X.env) (fun v s1=>wpAny (model X.prog X.w) X.A (pyIter v) (zT X ae σ tg R) X.xe s1) X.xe s
theorem uK{M:Model}{it:Addr}{o:Obj}{n:String}{vs:Array Value}{Q:Unit->Shared->Prop}(ho:s.heap.get? it=some o)(hc:o.cls= .type n)(hd:o.data= .fields vs)
 (hn:["enumerate","zip","dict_itemiterator","dict_reverseitemiterator","odict_iterator","itertools.zip_longest","itertools.pairwise"].contains n=false)(hQ:Q () s):wpAny M A (letOwnedTupleGo tg (.ref it) u) Q E s:=by
 unfold letOwnedTupleGo
 cases tg<;>first
  |exact wpAny_pure hQ
  |(cases u<;>first
   |exact wpAny_pure hQ
   | (refine wpAny_bind (wpAny_load ho ?_)
      rw[hc,hd]
      show wpAny M A (if(["enumerate","zip","dict_itemiterator","dict_reverseitemiterator","odict_iterator","itertools.zip_longest","itertools.pairwise"].contains n&&vs[0]?==some (rawInt _))=true then _ else _) Q E s
      rw[if_neg (by intro h;rw[hn,Bool.false_and]at h;cases h)]
      exact wpAny_pure hQ))
noncomputable def oS (K:Fg) (a:Addr):It:=
 ⟨fun i H=>∃xs x,aM K H a xs/\xs[i]?=some x,fun i H x H'=>H'=H/\∀xs,aM K H a xs->xs[i]?=some x,fun i H=>∃xs,aM K H a xs/\xs.length<=i⟩
noncomputable def mW (lo:Int) (n:Nat):It:=⟨fun i _=>i<n,fun i H x H'=>H'=H/\x= .int (lo+ i),fun i _=>n<=i⟩
theorem a6J(a it:Addr):oK P w K tg (oS K a) [it] it (fun i h=>h.IsListIter it a i) where
 mem:=by simp
 obj:=fun i h st b hb=>by
  have e:b=it:=by simpa using hb
  subst e
  obtain⟨o,e,c,d⟩:=st
  exact⟨o,e,fun v z=>by rw[d]at z;cases z⟩
 keep:=fun i h h' st k=>st.at fun o e=>k it (by simp) o e
 item:=by
  intro X hP hw hK hc i ae s σ H E I hf st hg
  subst hP hw hK
  obtain⟨xs,x,hq,hx⟩:=hg
  obtain⟨its,rv,p,hz⟩:=I.list hq
  obtain⟨u,hu,ru⟩:=rv.get hx
  obtain⟨f0,f1,f2,f3,f4,f5⟩:=hf it (by simp)
  refine wpAny_pyNext_list_item st p.isList (x:=u) (by simpa using hu) fun h' st' sb=> ?_
  have I1:aD X ae σ H {s with heap:=h'}:=I.turned (t':=s.toks) (fun b o hb e=>(sb.2 b hb).trans e) f0 f1 f3 f4 f5
  obtain⟨o,e,c,d⟩:=id st'
  exact⟨u,rfl,uK (s:={s with heap:=h'}) e c d (by decide) ⟨x,H,I1,ru,⟨rfl,fun ys hy=>by rw[I.list_inj hy hq];exact hx⟩,st',fun b hb=>(hf b hb).1⟩⟩
 done:=by
  intro X hP hw hK hc i ae s σ H E I hf st hg
  subst hP hw hK
  obtain⟨xs,hq,hx⟩:=hg
  obtain⟨its,rv,p,hz⟩:=I.list hq
  obtain⟨f0,f1,f2,f3,f4,f5⟩:=hf it (by simp)
  have hl:=rv.length
  exact wpAny_pyNext_list_end (I.ok.hd hc) st p.isList (by simp;omega) fun h' eb=>⟨rfl,I.turned (t':=s.toks) (fun b o hb e=>eb b o hb e) f0 f1 f3 f4 f5⟩
 self:=fun _ _ _ _ _ st h=>wpAny_pyIter_listiter st h
theorem a4s(it:Addr)(lo:Int)(n:Nat):oK P w K tg (mW lo n) [it] it (fun i h=>IsRangeIter h it (lo+ (i:Nat)* 1) ((n:Int)- (i:Nat)) 1) where
 mem:=by simp
 obj:=fun i h st b hb=>by
  have e:b=it:=by simpa using hb
  subst e
  exact⟨_,st,fun v z=>by
   have z':Data.fields _=Data.cell v:=z
   cases z'⟩
 keep:=fun i h h' st k=>k it (by simp) _ st
 item:=by
  intro X hP hw hK hc i ae s σ H E I hf st hg
  subst hP hw hK
  obtain⟨f0,f1,f2,f3,f4,f5⟩:=hf it (by simp)
  have W:=Walks.range (prog:=X.prog) (w:=X.w) (I.ok.hd hc) it lo 1 n
  refine W.item i s _ _ hg st fun v h' tk hv st' kk=> ?_
  obtain⟨t,rfl⟩:=hv
  have I1:aD X ae σ H {s with heap:=h',toks:=tk}:=I.turned (fun b o hb e=>kk b o (by simpa using hb) e) f0 f1 f3 f4 f5
  refine⟨_,rfl,uK (s:={s with heap:=h',toks:=tk}) (n:= "range_iterator") st' rfl rfl (by decide) ⟨.int (lo+ i),H,I1,⟨t,?_⟩,⟨rfl,rfl⟩,st',fun b hb=>(hf b hb).1⟩⟩
  rw[Int.mul_one]
 done:=by
  intro X hP hw hK hc i ae s σ H E I hf st hg
  subst hP hw hK
  obtain⟨f0,f1,f2,f3,f4,f5⟩:=hf it (by simp)
  exact wpAny_pyNext_range_end (I.ok.hd hc) st (by have:n<=i:=hg;omega) fun h' eb=>⟨rfl,I.turned (t':=s.toks) (fun b o hb e=>eb b o hb e) f0 f1 f3 f4 f5⟩
 self:=fun _ _ _ _ _ st h=>wpAny_pyIter_rangeiter st h
section
def a6Y(K:Fg)(tl:TE):TI:=fun σ H R=>tl σ H fun x H1=>∃a,x= .ref a/\(∃xs,aM K H1 a xs)/\R (oS K a) H1
theorem kR{l:Expr}(hl:PE X l tl):PI X tg l (a6Y X.K tl):=by
 intro ae s σ H R I h
 refine aT (hl ae s σ H _ I h) ?_
 rintro v s1 ⟨x,H1,I1,r1,q1⟩
 obtain⟨a,e,⟨xs,hq⟩,q⟩:=q1
 subst e
 cases r1
 obtain⟨its,rv,p,hz⟩:=I1.list hq
 refine wpAny_pyIter_list p.isList ?_
 refine⟨s1.heap.objs.size,[s1.heap.objs.size],_,_,H1,rfl,I1.kept (t':=s1.toks) fun b o e=>Heap.get?_push_of_some _ e,a6J a _,⟨_,Heap.get?_push_size _ rfl,rfl,rfl⟩,fun b hb=> ?_,q⟩
 have e:b=s1.heap.objs.size:=by simpa using hb
 subst e
 exact I1.fpOk (Nat.le_refl _) (I1.hok.fresh (Nat.le_refl _))
theorem a1Z{R:It->Hp->Prop}{lo hi:Int}{t u v:Tok}{tk:Nat}(I:aD X ae σ H s)(h1: -(2^ 62)<=lo)(h2:lo<2^ 62)(h3: -(2^ 62)<=hi)(h4:hi<2^ 62)
 (q:R (mW lo (hi- lo).toNat) H):wpAny (model X.prog X.w) X.A (pyIter (.ref s.heap.objs.size)) (zT X ae σ tg R) E {s with heap:=s.heap.push {cls:=.type "range",data:=.fields #[.int lo t,.int hi u,.int 1 v]},toks:=tk}:=by
 refine wpAny_pyIter_range (IsRange.new ..) (small_one h1 h2 h3 h4) ?_
 have I1:aD X ae σ H {s with heap:=s.heap.push {cls:=.type "range",data:=.fields #[.int lo t,.int hi u,.int 1 v]},toks:=tk}:=I.kept fun b o e=>Heap.get?_push_of_some _ e
 refine⟨(s.heap.push {cls:=.type "range",data:=.fields #[.int lo t,.int hi u,.int 1 v]}).objs.size,[(s.heap.push {cls:=.type "range",data:=.fields #[.int lo t,.int hi u,.int 1 v]}).objs.size],_,_,H,rfl,
  I1.kept (t':=tk) fun b o e=>Heap.get?_push_of_some _ e,a4s _ lo (hi- lo).toNat,?_,fun b hb=> ?_,q⟩
 ·have e1:lo+ ((0:Nat):Int)* 1=lo:=by simp
  have e2:(((hi- lo).toNat:Nat):Int)- ((0:Nat):Int)=Builtin.Range.rangeSize lo hi 1:=by rw[rangeSize_one];split<;>omega
  show IsRangeIter _ _ (lo+ ((0:Nat):Int)* 1) ((((hi- lo).toNat:Nat):Int)- ((0:Nat):Int)) 1
  rw[e1,e2]
  exact Heap.get?_push_size _ rfl
 ·have e:b=(s.heap.push {cls:=.type "range",data:=.fields #[.int lo t,.int hi u,.int 1 v]}).objs.size:=by simpa using hb
  subst e
  exact I1.fpOk (Nat.le_refl _) (I1.hok.fresh (Nat.le_refl _))
def a73(ta:TA):TI:=fun σ H R=>ta σ H fun vs H1=>∃j:Int,vs= [.int j] /\ -(2^ 62)<=j/\j<2^ 62/\R (mW 0 j.toNat) H1
def a7B(ta:TA):TI:=fun σ H R=>ta σ H fun vs H1=>∃i j:Int,vs= [.int i,.int j] /\(-(2^ 62)<=i/\i<2^ 62/\ -(2^ 62)<=j/\j<2^ 62)/\R (mW i (j- i).toNat) H1
theorem uG{a:Expr}{ta:TA}{p pos:Pos}(hg:Gl X "range")(hm:X.mg "range"=none)(ha:PA X [a] ta)(hs:starEach [a] X.env= [(false,eval a X.env)]:=by rfl):PI X tg (.Call (.Name "range" p) [a] [] pos) (a73 ta):=by
 intro ae s σ H R I h
 refine Call_ (nE I hg hm boot_range (PyProof.Rows.callWith_type1 (aT (ha pos ae s σ H _ I h) ?_) hs rfl))
 rintro us s1 ⟨vs,H1,I1,r1,q1⟩
 obtain⟨j,e,q1,q2,q⟩:=q1
 subst e
 cases r1 with
 |cons r rr=>
  cases rr
  obtain⟨t,rfl⟩:=r
  exact call_range_1 (a1Z I1 (by omega) (by omega) q1 q2 (by simpa using q))
theorem a2k{a b:Expr}{ta:TA}{p pos:Pos}(hg:Gl X "range")(hm:X.mg "range"=none)(ha:PA X [a,b] ta)(hs:starEach [a,b] X.env= [(false,eval a X.env),(false,eval b X.env)]:=by rfl)(hs2:starEach [b] X.env= [(false,eval b X.env)]:=by rfl):
 PI X tg (.Call (.Name "range" p) [a,b] [] pos) (a7B ta):=by
 intro ae s σ H R I h
 refine Call_ (nE I hg hm boot_range (PyProof.Rows.callWith_type1 (aT (ha pos ae s σ H _ I h) fun us s1 ⟨vs,H1,I1,r1,q1⟩=> ?_) (by rw[hs,hs2]) (by rw[hs2];rfl)))
 obtain⟨i,j,e,⟨q1,q2,q3,q4⟩,q⟩:=q1
 subst e
 cases r1 with
 |cons r rr=>
  cases rr with
  |cons r' rr=>
   cases rr
   obtain⟨t,rfl⟩:=r
   obtain⟨t',rfl⟩:=r'
   exact call_range_2 (a1Z I1 q1 q2 q3 q4 q)
def tFor(wi:TI)(g:TG)(tb:TS):TS:=fun D σ H=>wi σ H fun J H1=>∃W:Nat->Nat->St->Hp->Prop,(∃m,W 0 m σ H1)/\∀i m σ H,W i m σ H->
 (J.stop i H/\D.nx σ H)\/ (J.go i H/\∃N:St->Hp->Prop,(∀σ' H',N σ' H'->∃m',m'<m/\W (i+ 1) m' σ' H')/\∀x H',J.yld i H x H'->g x σ H' fun σ2 H2=>tb {D with nx:=N,ct:=N,bk:=D.nx} σ2 H2)
noncomputable def rY (fp:List Addr) (h:Heap):List (Addr×Obj):=fp.filterMap fun b=>(h.get? b).map fun o=>(b,o)
theorem sQ{o:Obj}(hb:b∈fp)(e:h.get? b=some o):(b,o)∈rY fp h:=List.mem_filterMap.mpr ⟨b,hb,by rw[e];rfl⟩
theorem a7X{p:Addr×Obj}(hp:p∈rY fp h):p.1∈fp/\h.get? p.1=some p.2:=by
 obtain⟨b,hb,e⟩:=List.mem_filterMap.mp hp
 cases q:h.get? b with
 |none=>rw[q]at e;cases e
 |some o=>
  rw[q]at e
  have e':(b,o)=p:=Option.some.inj e
  subst e'
  exact⟨hb,q⟩
theorem aD.pinned(I:aD X ae σ H s)(hf:∀b∈fp,jT X ae H b)(ho:∀b∈fp,∃o,s.heap.get? b=some o/\∀v,o.data≠ .cell v):aD X (ae++ rY fp s.heap) σ H s:=
 I.pins_of fun p hp=>(List.mem_append.mp hp).elim (fun z=>I.pin p (List.mem_append_right _ z)) fun z=>by
  obtain⟨hb,e⟩:=a7X z
  obtain⟨f0,f1,f2,_⟩:=hf p.1 hb
  obtain⟨o,e',d⟩:=ho p.1 hb
  rw[e]at e';cases e'
  exact⟨e,f0,f1,f2,d⟩
theorem aD.unpinned{pl:List (Addr×Obj)}(I:aD X (ae++ pl) σ H s):aD X ae σ H s:=I.pins_of fun p hp=>I.pin p (List.mem_append_right _ (List.mem_append_left _ hp))
theorem kO{body:List Stmt}{wi:TI}{tb:TS}{pos:Pos}(hp:PassesOwn (model X.prog X.w) X.A X.env X.xe)(hc:X.calm=true)(hi:PI X tg iter wi)(hg:PG X tg g)(hb:eS X body tb)
 (hs:∀x,foldedSetIterable iter X.env x=pure x:=by intro _;rfl):PS X (.For tg iter body [] pos) (tFor wi g tb):=by
 intro ae s σ H D I h
 refine wpAny_For (aT (hi ae s σ H _ I h) fun v s1 h1=>aT h1 fun itv s2 h2=> ?_) hs
 obtain⟨it,fp,tn,J,H2,e,I2,T,st2,f2,W,⟨m0,w0⟩,turn⟩:=h2
 subst e
 have stat:∀{H':Hp},(∀b∈fp,H' b=none)->∀b∈fp,jT X ae H' b:=fun hn b hb=>⟨hn b hb,(f2 b hb).2⟩
 refine codeAny_forLoop_any (fun n s'=>∃i σ' H',aD X ae σ' H' s'/\tn i s'.heap/\(∀b∈fp,H' b=none)/\W i n σ' H') ?_ m0 ⟨0,σ,H2,I2,st2,fun b hb=>(f2 b hb).1,w0⟩
 rintro n s3 ⟨i,σ3,H3,I3,st3,fr3,w3⟩
 rcases turn i n σ3 H3 w3 with⟨stop,qn⟩|⟨go,N,hN,step⟩
 ·refine wpAny_passesOwn hp (aT (T.done X rfl rfl rfl hc i ae s3 σ3 H3 X.xe I3 (stat fr3) st3 stop) fun r s4 ⟨hr,I4⟩=> ?_)
  subst hr
  exact wpAny_execs_nil ⟨σ3,H3,I4,qn⟩
 ·refine wpAny_passesOwn hp (aT (T.item X rfl rfl rfl hc i ae s3 σ3 H3 X.xe I3 (stat fr3) st3 go) fun r s4 ⟨u,hr,h4⟩=> ?_)
  subst hr
  refine wpAny_passesOwn hp (aT h4 ?_)
  rintro _ s5 ⟨x,H5,I5,r5,y5,st5,fr5⟩
  have I5':=I5.pinned (stat fr5) (T.obj _ _ st5)
  refine wpAny_passesOwn hp (aT (hg _ s5 σ3 H5 x u _ I5' r5 (step x H5 y5)) ?_)
  rintro _ s6 ⟨σ6,H6,I6,q6⟩
  refine wpAny_passesOwn hp (aT (hb _ s6 σ6 H6 _ I6 q6) fun f s7 q7=> ?_)
  have again:∀{σ7:St} {H7:Hp},aD X (ae++ rY fp s5.heap) σ7 H7 s7->N σ7 H7->∃m,m<n/\∃i σ' H',aD X ae σ' H' s7/\tn i s7.heap/\(∀b∈fp,H' b=none)/\W i m σ' H':=fun{σ7 H7} I7 n7=>by
   obtain⟨m',hm,w7⟩:=hN σ7 H7 n7
   refine⟨m',hm,i+ 1,σ7,H7,I7.unpinned,T.keep _ _ _ st5 fun b hb o e=>(I7.pin (b,o) (List.mem_append_right _ (List.mem_append_right _ (sQ hb e)))).1,fun b hb=> ?_,w7⟩
   obtain⟨o,e,d⟩:=T.obj _ _ st5 b hb
   exact(I7.pin (b,o) (List.mem_append_right _ (List.mem_append_right _ (sQ hb e)))).2.1
  cases f with
  |next=>obtain⟨σ7,H7,I7,n7⟩:=q7;exact again I7 n7
  |cont=>obtain⟨σ7,H7,I7,n7⟩:=q7;exact again I7 n7
  |brk=>obtain⟨σ7,H7,I7,q7⟩:=q7;exact⟨σ7,H7,I7.unpinned,q7⟩
  |ret v=>obtain⟨x7,σ7,H7,I7,r7,q7⟩:=q7;exact⟨x7,σ7,H7,I7.unpinned,r7,q7⟩
end
theorem pC{tb:TS}{D:lD}(Pv:Nat->St->Hp->Prop)(h0:Pv 0 σ H)(hl:∀i σ H,i<=xs.length->Pv i σ H->aM K H a xs)
 (hs:∀i x σ H,xs[i]?=some x->Pv i σ H->g x σ H fun σ2 H2=>tb {D with nx:=Pv (i+ 1),ct:=Pv (i+ 1),bk:=D.nx} σ2 H2)(hd:∀σ H,Pv xs.length σ H->D.nx σ H):
 ∃W:Nat->Nat->St->Hp->Prop,(∃m,W 0 m σ H)/\∀i m σ H,W i m σ H->
  ((oS K a).stop i H/\D.nx σ H)\/ ((oS K a).go i H/\∃N:St->Hp->Prop,(∀σ' H',N σ' H'->∃m',m'<m/\W (i+ 1) m' σ' H')/\∀x H',(oS K a).yld i H x H'->g x σ H' fun σ2 H2=>tb {D with nx:=N,ct:=N,bk:=D.nx} σ2 H2):=by
 refine⟨fun i m σ H=>m=xs.length- i/\i<=xs.length/\Pv i σ H,⟨xs.length,by simp,Nat.zero_le _,h0⟩,?_⟩
 rintro i m σ H ⟨rfl,hi,p⟩
 have q:=hl i σ H hi p
 by_cases hlt:i<xs.length
 ·refine .inr ⟨⟨xs,xs[i],q,by simp[hlt]⟩,Pv (i+ 1),fun σ' H' p'=>⟨xs.length- (i+ 1),by omega,rfl,hlt,p'⟩,fun x H' y=> ?_⟩
  obtain⟨e,y⟩:=y
  subst e
  exact hs i x σ _ (y xs q) p
 ·have e:i=xs.length:=by omega
  subst e
  exact .inl ⟨⟨xs,q,Nat.le_refl _⟩,hd σ H p⟩
theorem a0D{lo:Int}{n:Nat}{tb:TS}{D:lD}(Pv:Nat->St->Hp->Prop)(h0:Pv 0 σ H)
 (hs:∀i σ H,i<n->Pv i σ H->g (.int (lo+ i)) σ H fun σ2 H2=>tb {D with nx:=Pv (i+ 1),ct:=Pv (i+ 1),bk:=D.nx} σ2 H2)(hd:∀σ H,Pv n σ H->D.nx σ H):
 ∃W:Nat->Nat->St->Hp->Prop,(∃m,W 0 m σ H)/\∀i m σ H,W i m σ H->
  ((mW lo n).stop i H/\D.nx σ H)\/ ((mW lo n).go i H/\∃N:St->Hp->Prop,(∀σ' H',N σ' H'->∃m',m'<m/\W (i+ 1) m' σ' H')/\∀x H',(mW lo n).yld i H x H'->g x σ H' fun σ2 H2=>tb {D with nx:=N,ct:=N,bk:=D.nx} σ2 H2):=by
 refine⟨fun i m σ H=>m=n- i/\i<=n/\Pv i σ H,⟨n,by simp,Nat.zero_le _,h0⟩,?_⟩
 rintro i m σ H ⟨rfl,hi,p⟩
 by_cases hlt:i<n
 ·refine .inr ⟨hlt,Pv (i+ 1),fun σ' H' p'=>⟨n- (i+ 1),by omega,rfl,hlt,p'⟩,fun x H' y=> ?_⟩
  obtain⟨e,y⟩:=y
  subst e y
  exact hs i σ _ hlt p
 ·have e:i=n:=by omega
  subst e
  exact .inl ⟨Nat.le_refl _,hd σ H p⟩
abbrev R2:=V->V->Hp->VK->Prop
variable{r:R2}
def dE(X:Cx)(f:Value->Value->Sem Value)(r:R2):Prop:=
 ∀(ae:List (Addr×Obj)) (s:Shared) (σ:St) (H:Hp) (x y:V) (v u:Value) (Q:VK),aD X ae σ H s->bA x v->bA y u->r x y H Q->
  wpAny (model X.prog X.w) X.A (f v u) (EP X ae σ Q) X.xe s
def yX(X:Cx)(f:Value->Sem Value)(r:V->Hp->VK->Prop):Prop:=
 ∀(ae:List (Addr×Obj)) (s:Shared) (σ:St) (H:Hp) (x:V) (v:Value) (Q:VK),aD X ae σ H s->bA x v->r x H Q->
  wpAny (model X.prog X.w) X.A (f v) (EP X ae σ Q) X.xe s
def jA(X:Cx)(f:Value)(r:List V->Hp->VK->Prop):Prop:=
 ∀(ae:List (Addr×Obj)) (s:Shared) (σ:St) (H:Hp) (xs:List V) (us:List Value) (Q:VK),aD X ae σ H s->aX xs us->r xs H Q->
  wpAny (model X.prog X.w) X.A (call f us) (EP X ae σ Q) X.xe s
def TruR(X:Cx)(r:V->Hp->(Bool->Hp->Prop)->Prop):Prop:=
 ∀(ae:List (Addr×Obj)) (s:Shared) (σ:St) (H:Hp) (x:V) (v:Value) (Q:Bool->Hp->Prop),aD X ae σ H s->bA x v->r x H Q->
  wpAny (model X.prog X.w) X.A (truthy v) (TP X ae σ Q) X.xe s
def qW(r:R2)(ta tb:TE):TE:=fun σ H Q=>ta σ H fun x H1=>tb σ H1 fun y H2=>r x y H2 Q
def tUn(r:V->Hp->VK->Prop)(ta:TE):TE:=fun σ H Q=>ta σ H fun x H1=>r x H1 Q
noncomputable def rI (C:Int->Int->Prop) (g:Int->Int->V):R2:=fun x y H Q=>∃i j,x= .int i/\y= .int j/\C i j/\Q (g i j) H
noncomputable def mD (g:Int->Int->V):R2:=fun x y H Q=>∃i j,x= .int i/\y= .int j/\Q (g i j) H
def rU(g:Int->V):V->Hp->VK->Prop:=fun x H Q=>∃i,x= .int i/\Q (g i) H
section
variable{a b c:Expr}{pos:Pos}
theorem xI(ha:PE X a ta)(hb:PE X b tb){R:V->V->Hp->Prop}(I:aD X ae σ H s)
 (h:ta σ H fun x H1=>tb σ H1 fun y H2=>R x y H2){f:Value->Value->Sem Value}
 (hf:∀v u s2 x y H2,aD X ae σ H2 s2->bA x v->bA y u->R x y H2->wpAny (model X.prog X.w) X.A (f v u) Q X.xe s2):
 wpAny (model X.prog X.w) X.A (eval a X.env) (fun v s₁=>wpAny (model X.prog X.w) X.A (eval b X.env) (fun u s₂=>wpAny (model X.prog X.w) X.A (f v u) Q X.xe s₂) X.xe s₁) X.xe s:=by
 refine aT (ha ae s σ H _ I h) ?_
 rintro v s1 ⟨x,H1,I1,r1,q1⟩
 refine aT (hb ae s1 σ H1 _ I1 q1) ?_
 rintro u s2 ⟨y,H2,I2,r2,q2⟩
 exact hf v u s2 x y H2 I2 r1 r2 q2
theorem bR{op:Operator}(ho:dE X (binaryOp op) r)(ha:PE X a ta)(hb:PE X b tb):PE X (.BinOp a op b pos) (qW r ta tb):=by
 intro ae s σ H Q I h
 exact wpAny_BinOp (xI ha hb I h fun v u s2 x y H2 I2 rx ry q=>ho ae s2 σ H2 x y v u Q I2 rx ry q)
theorem yJ{op:UnaryOp}{r:V->Hp->VK->Prop}(ho:yX X (unaryOp op) r)(ha:PE X a ta):PE X (.UnaryOp op a pos) (tUn r ta):=by
 intro ae s σ H Q I h
 exact UnaryOp_ (aT (ha ae s σ H _ I h) fun v s1 ⟨x,H1,I1,r1,q1⟩=>ho ae s1 σ H1 x v Q I1 r1 q1)
theorem vP{f:Value->Value->Sem Value}{C:Int->Int->Prop}{g:Int->Int->Int}
 (rule:∀(i j:Int) (t u:Tok) (s:Shared) (Q:Value->Shared->Prop) (E:Value->Shared->Prop),C i j->Q (.int (g i j) s.toks) {s with toks:=s.toks+ 1} ->wpAny (model X.prog X.w) X.A (f (.int i t) (.int j u)) Q E s):
 dE X f (rI C fun i j=> .int (g i j)):=by
 intro ae s σ H x y v u Q I rx ry h
 obtain⟨i,j,rfl,rfl,hc,q⟩:=h
 obtain⟨t,rfl⟩:=rx
 obtain⟨t',rfl⟩:=ry
 exact rule i j t t' s _ _ hc ⟨.int (g i j),H,I.tok _,⟨_,rfl⟩,q⟩
theorem opI0{f:Value->Value->Sem Value}{g:Int->Int->Int}
 (rule:∀(i j:Int) (t u:Tok) (s:Shared) (Q:Value->Shared->Prop) (E:Value->Shared->Prop),Q (.int (g i j) s.toks) {s with toks:=s.toks+ 1} ->wpAny (model X.prog X.w) X.A (f (.int i t) (.int j u)) Q E s):
 dE X f (mD fun i j=> .int (g i j)):=by
 intro ae s σ H x y v u Q I rx ry h
 obtain⟨i,j,rfl,rfl,q⟩:=h
 obtain⟨t,rfl⟩:=rx
 obtain⟨t',rfl⟩:=ry
 exact rule i j t t' s _ _ ⟨.int (g i j),H,I.tok _,⟨_,rfl⟩,q⟩
theorem vN{f:Value->Value->Sem Value}{g:Int->Int->Bool}
 (rule:∀(i j:Int) (t u:Tok) (s:Shared) (Q:Value->Shared->Prop) (E:Value->Shared->Prop),Q (.bool (g i j)) s->wpAny (model X.prog X.w) X.A (f (.int i t) (.int j u)) Q E s):
 dE X f (mD fun i j=> .bl (g i j)):=by
 intro ae s σ H x y v u Q I rx ry h
 obtain⟨i,j,rfl,rfl,q⟩:=h
 obtain⟨t,rfl⟩:=rx
 obtain⟨t',rfl⟩:=ry
 exact rule i j t t' s _ _ ⟨.bl (g i j),H,I,rfl,q⟩
def CDiv(i j:Int):Prop:=0<j/\j<1073741824
def CPow(i j:Int):Prop:=0<=j/\j<=1000000/\i.natAbs<2^ 64
def wK(i j:Int):Prop:=(-(2^ 64)<i/\i<2^ 64)\/ (-(2^ 64)<j/\j<2^ 64)
theorem wK.ok{i j:Int}(h:wK i j):IntMulOk i j:=by
 rcases h with⟨h1,h2⟩|⟨h1,h2⟩
 ·exact .of_left (intBits_le_64 h1 h2)
 ·exact .of_right (intBits_le_64 h1 h2)
theorem fZ:dE X (binaryOp .Add) (mD fun i j=> .int (i+ j)):=opI0 fun _ _ _ _ _ _ _ q=>add_int q
theorem sV:dE X (binaryOp .Sub) (mD fun i j=> .int (i- j)):=opI0 fun _ _ _ _ _ _ _ q=>sub_int q
theorem nY:dE X (binaryOp .Mult) (rI wK fun i j=> .int (i* j)):=vP fun _ _ _ _ _ _ _ hc q=>mul_int q hc.ok
theorem zU:dE X (binaryOp .FloorDiv) (rI CDiv fun i j=> .int (i/ j)):=vP fun i j _ _ _ _ _ hc q=>by
 have h1:(0:Int)<j:=hc.1
 have h2:j<1073741824:=hc.2
 exact floordiv_int (by omega) (by rw[Int.fdiv_eq_ediv_of_nonneg i (by omega)];exact q) (.inl (PyProof.noPylong_small (by omega)))
theorem gA:dE X (binaryOp .Mod) (rI (fun _ j=>0<j) fun i j=> .int (i% j)):=vP fun i j _ _ _ _ _ hc q=>by
 have h1:(0:Int)<j:=hc
 exact mod_int' (by omega) (by rw[Int.fmod_eq_emod_of_nonneg i (by omega)];exact q)
theorem xC:dE X (binaryOp .Pow) (rI CPow fun i j=> .int (i^ j.toNat)):=vP fun _ _ _ _ _ _ _ hc q=>pow_int_small hc.1 hc.2.1 hc.2.2 q
theorem unI{f:Value->Sem Value}{g:Int->Int}
 (rule:∀(i:Int) (t:Tok) (s:Shared) (Q:Value->Shared->Prop) (E:Value->Shared->Prop),Q (.int (g i) s.toks) {s with toks:=s.toks+ 1} ->wpAny (model X.prog X.w) X.A (f (.int i t)) Q E s):
 yX X f (rU fun i=> .int (g i)):=by
 intro ae s σ H x v Q I rx h
 obtain⟨i,rfl,q⟩:=h
 obtain⟨t,rfl⟩:=rx
 exact rule i t s _ _ ⟨.int (g i),H,I.tok _,⟨_,rfl⟩,q⟩
theorem yL:yX X (unaryOp .USub) (rU fun i=> .int (-i)):=unI fun _ _ _ _ _ q=>neg_int q
end
noncomputable def scal:V->V->Bool
 | .non,.non=>true| .non,.int _=>true| .int _,.non=>true| .non,.bl _=>true| .bl _,.non=>true| .non,.str _=>true| .str _,.non=>true
 | .int _,.int _=>true| .bl _,.bl _=>true| .str _,.str _=>true| .byt _,.byt _=>true
 | .int _,.str _=>true| .str _,.int _=>true| .bl _,.str _=>true| .str _,.bl _=>true
 |_,_=>false
noncomputable def rEq:R2:=fun x y H Q=>scal x y=true/\Q (.bl (decide (x=y))) H
noncomputable def rNe:R2:=fun x y H Q=>scal x y=true/\Q (.bl (!decide (x=y))) H
theorem a0K{i j:Int}:decide (V.int i=V.int j)=(i==j):=by
 rw[Bool.eq_iff_iff]
 simp
theorem a15{i j:Bool}:decide (V.bl i=V.bl j)=(i==j):=by
 rw[Bool.eq_iff_iff]
 simp
theorem a0Z{i j:Str}:decide (V.str i=V.str j)=(i==j):=by
 rw[Bool.eq_iff_iff]
 simp
theorem a3w{i j:Array UInt8}:decide (V.byt i=V.byt j)=(i.toList==j.toList):=by
 rw[Bool.eq_iff_iff]
 cases i
 cases j
 simp
section
variable{a b c:Expr}{pos:Pos}
theorem dC{Q:VK}{k k':Bool}(I:aD X ae σ H s)(q:Q (.bl k) H)(e:k=k'):EP X ae σ Q (.bool k') s:=by
 subst e
 exact⟨.bl k,H,I,rfl,q⟩
theorem mK:dE X (compareOp .Eq) rEq:=by
 intro ae s σ H x y v u Q I rx ry h
 obtain⟨hs,q⟩:=h
 cases x with
 |non=>
  cases rx
  cases y with
  |non=>cases ry;exact PySem.EqNone.eq_none_none (dC I q (by simp))
  |bl j=>cases ry;exact PySem.EqNone.eq_none_bool (dC I q (by simp))
  |int j=>obtain⟨t',rfl⟩:=ry;exact PySem.EqNone.eq_none_int (dC I q (by simp))
  |str j=>obtain⟨t',rfl⟩:=ry;exact PySem.EqNone.eq_none_str (dC I q (by simp))
  |_=>exact absurd (show false=true from hs) Bool.false_ne_true
 |bl i=>
  cases rx
  cases y with
  |non=>cases ry;exact PySem.EqNone.eq_bool_none (dC I q (by simp))
  |bl j=>cases ry;exact eq_bool (dC I q a15)
  |str j=>obtain⟨t',rfl⟩:=ry;exact PySem.EqMixed.eq_bool_str (dC I q (by simp))
  |_=>exact absurd (show false=true from hs) Bool.false_ne_true
 |int i=>
  obtain⟨t,rfl⟩:=rx
  cases y with
  |non=>cases ry;exact PySem.EqNone.eq_int_none (dC I q (by simp))
  |int j=>obtain⟨t',rfl⟩:=ry;exact eq_int (dC I q a0K)
  |str j=>obtain⟨t',rfl⟩:=ry;exact PySem.EqMixed.eq_int_str (dC I q (by simp))
  |_=>exact absurd (show false=true from hs) Bool.false_ne_true
 |str i=>
  obtain⟨t,rfl⟩:=rx
  cases y with
  |non=>cases ry;exact PySem.EqNone.eq_str_none (dC I q (by simp))
  |bl j=>cases ry;exact PySem.EqMixed.eq_str_bool (dC I q (by simp))
  |int j=>obtain⟨t',rfl⟩:=ry;exact PySem.EqMixed.eq_str_int (dC I q (by simp))
  |str j=>obtain⟨t',rfl⟩:=ry;exact eq_str (dC I q a0Z)
  |_=>exact absurd (show false=true from hs) Bool.false_ne_true
 |byt i=>
  obtain⟨t,rfl⟩:=rx
  cases y with
  |byt j=>obtain⟨t',rfl⟩:=ry;exact W.eq_bytes (dC I q a3w)
  |_=>exact absurd (show false=true from hs) Bool.false_ne_true
 |_=>cases y<;>exact absurd (show false=true from hs) Bool.false_ne_true
theorem a2j:dE X (compareOp .NotEq) rNe:=by
 intro ae s σ H x y v u Q I rx ry h
 obtain⟨hs,q⟩:=h
 cases x with
 |non=>
  cases rx
  cases y with
  |non=>cases ry;exact PySem.EqNone.ne_none_none (dC I q (by simp))
  |bl j=>cases ry;exact PySem.EqNone.ne_none_bool (dC I q (by simp))
  |int j=>obtain⟨t',rfl⟩:=ry;exact PySem.EqNone.ne_none_int (dC I q (by simp))
  |str j=>obtain⟨t',rfl⟩:=ry;exact PySem.EqNone.ne_none_str (dC I q (by simp))
  |_=>exact absurd (show false=true from hs) Bool.false_ne_true
 |bl i=>
  cases rx
  cases y with
  |non=>cases ry;exact PySem.EqNone.ne_bool_none (dC I q (by simp))
  |bl j=>cases ry;exact ne_bool (dC I q (congrArg not a15))
  |str j=>obtain⟨t',rfl⟩:=ry;exact PySem.EqMixed.ne_bool_str (dC I q (by simp))
  |_=>exact absurd (show false=true from hs) Bool.false_ne_true
 |int i=>
  obtain⟨t,rfl⟩:=rx
  cases y with
  |non=>cases ry;exact PySem.EqNone.ne_int_none (dC I q (by simp))
  |int j=>obtain⟨t',rfl⟩:=ry;exact ne_int (dC I q (congrArg not a0K))
  |str j=>obtain⟨t',rfl⟩:=ry;exact PySem.EqMixed.ne_int_str (dC I q (by simp))
  |_=>exact absurd (show false=true from hs) Bool.false_ne_true
 |str i=>
  obtain⟨t,rfl⟩:=rx
  cases y with
  |non=>cases ry;exact PySem.EqNone.ne_str_none (dC I q (by simp))
  |bl j=>cases ry;exact PySem.EqMixed.ne_str_bool (dC I q (by simp))
  |int j=>obtain⟨t',rfl⟩:=ry;exact PySem.EqMixed.ne_str_int (dC I q (by simp))
  |str j=>obtain⟨t',rfl⟩:=ry;exact ne_str (dC I q (congrArg not a0Z))
  |_=>exact absurd (show false=true from hs) Bool.false_ne_true
 |byt i=>
  obtain⟨t,rfl⟩:=rx
  cases y with
  |byt j=>obtain⟨t',rfl⟩:=ry;exact W.ne_bytes (dC I q (congrArg not a3w))
  |_=>exact absurd (show false=true from hs) Bool.false_ne_true
 |_=>cases y<;>exact absurd (show false=true from hs) Bool.false_ne_true
theorem a2l:dE X (compareOp .Lt) (mD fun i j=> .bl (decide (i<j))):=vN fun _ _ _ _ _ _ _ q=>lt_int q
theorem mB:dE X (compareOp .LtE) (mD fun i j=> .bl (decide (i<=j))):=vN fun _ _ _ _ _ _ _ q=>le_int q
theorem vZ:dE X (compareOp .Gt) (mD fun i j=> .bl (decide (j<i))):=vN fun _ _ _ _ _ _ _ q=>gt_int q
theorem a0s:dE X (compareOp .GtE) (mD fun i j=> .bl (decide (j<=i))):=vN fun _ _ _ _ _ _ _ q=>ge_int q
theorem a4c:dE X (compareOp .In) (fun x y H Q=>∃i j,x= .str i/\y= .str j/\Q (.bl (!(Builtin.Str.occurrences j i 0 j.length 1).isEmpty)) H):=by
 intro ae s σ H x y v u Q I rx ry h
 obtain⟨i,j,rfl,rfl,q⟩:=h
 obtain⟨t,rfl⟩:=rx
 obtain⟨t',rfl⟩:=ry
 exact in_str (dC I q rfl)
theorem pP:dE X (compareOp .Is) (fun x y H Q=>y= .non/\Q (.bl (decide (x= .non))) H):=by
 intro ae s σ H x y v u Q I rx ry h
 obtain⟨rfl,q⟩:=h
 cases ry
 refine is_none_gen (dC I q ?_)
 cases x<;>first
  |(cases rx;rfl)
  |(obtain⟨t,rfl⟩:=rx;rfl)
theorem a5N:dE X (compareOp .IsNot) (fun x y H Q=>y= .non/\Q (.bl (!decide (x= .non))) H):=by
 intro ae s σ H x y v u Q I rx ry h
 obtain⟨rfl,q⟩:=h
 cases ry
 refine isnot_none_gen (dC I q ?_)
 cases x<;>first
  |(cases rx;rfl)
  |(obtain⟨t,rfl⟩:=rx;rfl)
theorem cO(b:Expr){op:CmpOp}(h:op≠ .In:=by decide)(h2:op≠ .NotIn:=by decide):behindInMarks op b=false:=by
 have e1:(op==CmpOp.In)=false:=by cases op<;>first|rfl|exact absurd rfl h
 have e2:(op==CmpOp.NotIn)=false:=by cases op<;>first|rfl|exact absurd rfl h2
 cases b<;>simp[behindInMarks,e1,e2]
theorem lQ{op:CmpOp}(ho:dE X (compareOp op) r)(ha:PE X a ta)(hb:PE X b tb)(hm:behindInMarks op b=false):PE X (.Compare a [op] [b] pos) (qW r ta tb):=by
 intro ae s σ H Q I h
 exact wpAny_Compare1 (xI ha hb I h fun v u s2 x y H2 I2 rx ry q=>ho ae s2 σ H2 x y v u Q I2 rx ry q) hm
def a0e(t:TE):TT:=fun σ H Q=>t σ H fun x H'=>∃k,x= .bl k/\Q k H'
theorem cU{op:CmpOp}(ho:dE X (compareOp op) r)(ha:PE X a ta)(hb:PE X b tb)(hm:behindInMarks op b=false):PT X (.Compare a [op] [b] pos) (a0e (qW r ta tb)):=by
 intro ae s σ H Q I h
 refine wpAny_isTrue_Compare1 (aT (ha ae s σ H _ I h) fun v s1 ⟨x,H1,I1,r1,q1⟩=>aT (hb ae s1 σ H1 _ I1 q1) fun u s2 ⟨y,H2,I2,r2,q2⟩=>
  aT (ho ae s2 σ H2 x y v u _ I2 r1 r2 q2) fun c s3 ⟨z,H3,I3,r3,k,e,q3⟩=> ?_) hm
 subst e
 cases r3
 exact wpAny_truthy_bool ⟨H3,I3,q3⟩
def a7p(r r':R2)(ta tb tc:TE):TE:=fun σ H Q=>ta σ H fun x H1=>tb σ H1 fun y H2=>r x y H2 fun z H3=>∃k,z= .bl k/\
 (if k=true then tc σ H3 fun w' H4=>r' y w' H4 Q else Q (.bl false) H3)
theorem a0w{op op':CmpOp}{r':R2}(ho:dE X (compareOp op) r)(ho':dE X (compareOp op') r')(ha:PE X a ta)(hb:PE X b tb)(hc:PE X c tc)
 (hm:lastMarks [op,op'] [b,c]=false:=by with_unfolding_all rfl):PT X (.Compare a [op,op'] [b,c] pos) (a0e (a7p r r' ta tb tc)):=by
 intro ae s σ H Q I h
 refine isTrue_chain (aT (ha ae s σ H _ I h) fun v s1 ⟨x,H1,I1,r1,q1⟩=>test_link (aT (hb ae s1 σ H1 _ I1 q1) fun u s2 ⟨y,H2,I2,r2,q2⟩=>
  aT (ho ae s2 σ H2 x y v u _ I2 r1 r2 q2) fun d s3 ⟨z,H3,I3,r3,k,e,q3⟩=> ?_)) hm
 subst e
 cases r3
 refine wpAny_truthy_bool ?_
 cases k with
 |false=>
  obtain⟨k',e',q'⟩:=q3
  cases e'
  exact ite_ff ⟨H3,I3,q'⟩
 |true=>
  refine ite_tt (test_last (aT (hc ae s3 σ H3 _ I3 q3) fun w' s4 ⟨z',H4,I4,r4,q4⟩=>aT (ho' ae s4 σ H4 y z' u w' _ I4 r2 r4 q4) fun d' s5 ⟨z2,H5,I5,r5,k2,e2,q5⟩=> ?_))
  subst e2
  cases r5
  exact wpAny_truthy_bool ⟨H5,I5,q5⟩
def TruV(K:Fg)(x:V)(H:Hp)(k:Bool):Prop:=
 match x with
 | .non=>k=false
 | .bl b=>k=b
 | .int i=>k=(i !=0)
 | .str y=>y.length<=sizeLine/\k=((y.length:Int) !=0)
 | .byt y=>y.size<=sizeLine/\k=((y.size:Int) !=0)
 | .ref p=>(∃xs,aM K H p xs/\k= !xs.isEmpty)\/ (∃xs,cF K H p xs/\k= !xs.isEmpty)\/ ∃kvs,H p=some (.dK kvs)/\k= !kvs.isEmpty
 |_=>False
theorem a88{κ:Type}{kvs:List (κ×V)}{vs:List (κ×Value)}(r:KV kvs vs):(!vs.isEmpty)= !kvs.isEmpty:=by
 cases r<;>rfl
theorem a14(r:aX xs its):(!its.toArray.isEmpty)= !xs.isEmpty:=by
 cases r<;>simp
theorem pM:(sizeLine:Nat)<2^ 63:=by rw[sizeLine_eq];decide
theorem a8S:TruR X (fun x H Q=>∃k,TruV X.K x H k/\Q k H):=by
 intro ae s σ H x v Q I rx h
 obtain⟨k,e,q⟩:=h
 have hl:=pM
 have hs:sizeLine=16777216:=sizeLine_eq
 cases x with
 |non=>
  cases rx
  have e':k=false:=e
  subst e'
  exact truthy_none ⟨H,I,q⟩
 |bl b=>
  cases rx
  have e':k=b:=e
  subst e'
  exact wpAny_truthy_bool ⟨H,I,q⟩
 |int i=>
  obtain⟨t,rfl⟩:=rx
  have e':k=(i !=0):=e
  subst e'
  exact PySem.P.truthy_int ⟨H,I,q⟩
 |str y=>
  obtain⟨t,rfl⟩:=rx
  obtain⟨hy,e'⟩:y.length<=sizeLine/\k=((y.length:Int) !=0):=e
  subst e'
  exact PySem.P.truthy_str (by omega) ⟨H,I.tok _,q⟩
 |byt y=>
  obtain⟨t,rfl⟩:=rx
  obtain⟨hy,e'⟩:y.size<=sizeLine/\k=((y.size:Int) !=0):=e
  subst e'
  exact W.truthy_bytes (by omega) ⟨H,I.tok _,q⟩
 |ref p=>
  cases rx
  have e':(∃xs,aM X.K H p xs/\k= !xs.isEmpty)\/ (∃xs,cF X.K H p xs/\k= !xs.isEmpty)\/ ∃kvs,H p=some (.dK kvs)/\k= !kvs.isEmpty:=e
  rcases e' with⟨xs,hx,e'⟩|⟨xs,hx,e'⟩|⟨kvs,hx,e'⟩
  ·subst e'
   obtain⟨its,r,pl,hz⟩:=I.list hx
   have hlen:=r.length
   exact wpAny_truthy_list pl.isList (by simp only[List.size_toArray];omega) ⟨H,I.tok _,by rw[a14 r];exact q⟩
  ·subst e'
   obtain⟨its,r,pl,hz⟩:=I.tuple hx
   have hlen:=r.length
   exact truthy_tuple pl (by simp only[List.size_toArray];omega) ⟨H,I.tok _,by rw[a14 r];exact q⟩
  ·subst e'
   obtain⟨hz,hS,vs,r,m⟩:kvs.length<=sizeLine/\(p==sysModules)=false/\∃vs,KV kvs vs/\s.heap.DictOf (fM X.prog X.w) p vs:=I.hok p _ hx
   have hlen:kvs.length=vs.length:=Paired.length r
   exact wpAny_truthy_dict hS m (by omega) ⟨H,I.tok _,by rw[a88 r];exact q⟩
 |_=>exact(show False from e).elim
theorem a25(ha:PE X a ta)(he:∀whole,isTrue a X.env whole=(do let v<- whole;standAt a.pos;holding [v] (truthy v))):
 PT X a (fun σ H Q=>ta σ H fun x H'=>∃k,TruV X.K x H' k/\Q k H'):=by
 intro ae s σ H Q I h
 exact isTrue_plain (aT (ha ae s σ H _ I h) fun v s1 ⟨x,H1,I1,r1,q1⟩=>a8S ae s1 σ H1 x v Q I1 r1 q1) (he _)
theorem pX{x:V}(r:aX [x] us):∃u,us= [u] /\bA x u:=by
 cases r with
 |cons r1 r2=>cases r2;exact⟨_,rfl,r1⟩
theorem a4Y:jA X (.builtin "abs") (fun xs H Q=>∃i,xs= [.int i] /\Q (.int (if i<0 then-i else i)) H):=by
 intro ae s σ H xs us Q I r h
 obtain⟨i,rfl,q⟩:=h
 obtain⟨u,rfl,t,rfl⟩:=pX r
 exact call_abs_int fun u tk=>⟨.int (if i<0 then-i else i),H,I.tok _,⟨_,rfl⟩,q⟩
def LenV(K:Fg)(x:V)(H:Hp)(n:Nat):Prop:=
 match x with
 | .str y=>y.length<=sizeLine/\n=y.length
 | .byt y=>y.size<=sizeLine/\n=y.size
 | .ref p=>(∃xs,aM K H p xs/\n=xs.length)\/ ∃xs,cF K H p xs/\n=xs.length
 |_=>False
theorem gX:jA X (.builtin "len") (fun xs H Q=>∃x n,xs= [x] /\LenV X.K x H n/\Q (.int n) H):=by
 intro ae s σ H xs us Q I r h
 obtain⟨x,n,rfl,e,q⟩:=h
 obtain⟨u,rfl,rx⟩:=pX r
 have hl:=pM
 have hs:sizeLine=16777216:=sizeLine_eq
 cases x with
 |str y=>
  obtain⟨t,rfl⟩:=rx
  obtain⟨hy,e'⟩:y.length<=sizeLine/\n=y.length:=e
  subst e'
  exact len_str (by omega) ⟨.int _,H,I.tok _,⟨_,rfl⟩,q⟩
 |byt y=>
  obtain⟨t,rfl⟩:=rx
  obtain⟨hy,e'⟩:y.size<=sizeLine/\n=y.size:=e
  subst e'
  exact W.len_bytes (by omega) ⟨.int _,H,I.tok _,⟨_,rfl⟩,q⟩
 |ref p=>
  cases rx
  have e':(∃xs,aM X.K H p xs/\n=xs.length)\/ ∃xs,cF X.K H p xs/\n=xs.length:=e
  rcases e' with⟨xs,hx,e'⟩|⟨xs,hx,e'⟩
  ·subst e'
   obtain⟨its,r',pl,hz⟩:=I.list hx
   have hlen:=r'.length
   exact Calls.call_len_list pl.isList (by simp only[List.size_toArray];omega) ⟨.int xs.length,H,I.tok _,⟨_,by simp only[List.size_toArray];rw[hlen]⟩,q⟩
  ·subst e'
   obtain⟨its,r',pl,hz⟩:=I.tuple hx
   have hlen:=r'.length
   exact len_tuple pl (by simp only[List.size_toArray];omega) ⟨.int xs.length,H,I.tok _,⟨_,by simp only[List.size_toArray];rw[hlen]⟩,q⟩
 |_=>exact(show False from e).elim
end
structure nG(h:Heap)(x dx C:Addr)(mA:Str->Option Value):Prop where
 obj:h.get? x=some (W.instObj C dx)
 ns:h.Ns1 dx mA
 ne:dx≠x
theorem a5Z{mA:Str->Option Value}(n:h.Ns1 dx mA):∃od,h.get? dx=some od/\∀name,W.lookIn name od=some (mA name):=by
 obtain⟨o,es,ep,ho,hd,hk,_,hm⟩:=n
 refine⟨o,ho,fun name=> ?_⟩
 have e:=hm name
 unfold nsFind findBy at e
 rw[<- Array.find?_toList]at e
 unfold W.lookIn
 rw[hd]
 dsimp only
 split
 ·rename_i y q
  rw[q]at e
  exact congrArg some e
 ·rename_i q
  rw[q]at e
  have a:es.toList.any (·.refKey)=false:=by
   rw[List.any_eq_false]
   intro y hy
   obtain⟨z,t,hkey⟩:=hk y (Array.mem_toList_iff.mp hy)
   simp[DictEntry.refKey,hkey]
  have a':¬es.toList.any (·.refKey)=true:=by rw[a];exact Bool.false_ne_true
  rw[if_neg a']
  exact congrArg some e
theorem nG.look{x:Addr}{mA:Str->Option Value}(I:nG h x dx C mA):∃od,W.InstAt h x (W.instObj C dx) C (some od)/\∀name,W.lookIn name od=some (mA name):=
 let ⟨od,ho,hl⟩:=a5Z I.ns
 ⟨od,⟨I.obj,rfl,rfl,ho⟩,hl⟩
section
variable{x:Addr}{mA:Str->Option Value}{name:Str}{v:Value}
theorem a7G{expr:Bool}(X:K.In s.heap)(I:nG s.heap x dx C mA)(hg:W.plainGet K C name=true)(hh:W.hasDictIn K C=true)
 (ha:W.findIn K (.ref C) name=some none)(hv:mA name=some v)(hv':W.handedIn v=true)(h:Q v {s with toks:=s.toks+ 1}):
 wpAny (model prog w) A (getAttr (.ref x) name expr) Q E s:=by
 obtain⟨od,J,hl⟩:=I.look
 exact W.get_value X J (W.plainGet_of hg).1 (W.findObj_own hh ha rfl (by rw[hl,hv])) hv' h
theorem a8l{pl:Sem Bool}{Q:Value×List Value->Shared->Prop}(X:K.In s.heap)(I:nG s.heap x dx C mA)(hg:W.plainGet K C name=true)
 (hf:W.findIn K (.ref C) name=some (some (.ref f)))(ht:W.isFn K (.ref f)=true)(hv:mA name=none)(h:Q (.ref f,[.ref x]) s):
 wpAny (model prog w) A (getMethod (.ref x) name pl) Q E s:=by
 obtain⟨od,J,hl⟩:=I.look
 exact W.method_fn X J (W.plainGet_of hg).1 (W.plainGet_of hg).2 hf (beq_iff_eq.mp ht) (by show(W.lookIn name od).map (·.isSome)=some false;rw[hl,hv];rfl) h
theorem a8W{ns:List Str}{Q:Unit->Shared->Prop}(X:K.In s.heap)(I:nG s.heap x dx C mA)
 (hs:W.findIn K (.ref C) "__setattr__"=some (some (.builtin "object.__setattr__")))(hp:W.plainOver K C=true)(ht:W.takerIn K C name=some none)(hh:W.hasDictIn K C=true)
 (hw:PySem.Within mA ns)(hsz:ns.length<=sizeLine)
 (h:∀h',nG h' x dx C (fun y=>if y=name then some v else mA y)->Heap.SameBut dx s.heap h'->Q () {s with heap:=h',toks:=s.toks+ 2}):
 wpAny (model prog w) A (setAttr (.ref x) name v) Q E s:=by
 obtain⟨od,J,hl⟩:=I.look
 refine W.set_plain X J hs (W.osa_open (s:={s with toks:=s.toks+ 1}) (r:=none) X J hp ht fun b=> ?_)
 obtain⟨cd,hc,hd'⟩:=W.any_some hh
 have hx:s.heap.get? x=some ⟨.ref C,some dx,.plain,#[]⟩:=I.obj
 refine wpAny_bind (wpAny_pure (wpAny_bind (wpAny_bind (wpAny_loadPart hx (wpAny_bind (W.Looks.here (s:={s with toks:=s.toks+ 1}) (W.looks_clsIn X hc) ?_))))))
 rw[hd']
 refine wpAny_pure (a:=some dx) (wpAny_bind (wpAny_pure (wpAny_bind ?_)))
 refine wpAny_nsSet1 (s:={s with toks:=s.toks+ 1}) I.ns fun h' hn2 hs2=> ?_
 obtain⟨oD,esD,epD,hoD,hdD,hcD⟩:=hn2.count (PySem.Within.cons name v hw)
 refine wpAny_bind (wpAny_lookBehind hoD (by rw[hdD];exact pastItsLine_dict (Nat.le_trans hcD (by rw[List.length_cons];omega))) ?_)
 exact wpAny_pure (h _ ⟨(hs2.2 _ (Ne.symm I.ne)).trans I.obj,hn2,I.ne⟩ hs2)
theorem a6u{R:Result->Shared->Prop}{vs:List Value}{kw:List (Str×Value)}(X:K.In s.heap)(hm:W.makesIn K C=true)
 (hi:W.findIn K (.ref C) "__init__"=some (some (.ref f)))(hf:W.typeIn K (.ref f)=some (.type "function"))
 (h:codeAny (model prog w) (A.under (.builtin "type.__call__" ⟨.ref C::vs,kw⟩)) (.call (.ref f) ⟨.ref (s.heap.objs.size+ 1)::vs,kw⟩) (W.InitBack (s.heap.objs.size+ 1) R)
  {s with heap:=(s.heap.push W.emptyDict).push (W.instObj C s.heap.objs.size)}):
 codeAny (model prog w) A (.call (.ref C) ⟨vs,kw⟩) R s:=by
 obtain⟨hh,g,d,t,os⟩:=s
 exact W.make_core (W.makes_of X hm) (W.looks_findIn X hi) (fun self=>W.bind_fn X self hf) (.inl rfl) h
end
noncomputable def aN (f:Str) (v:V):List (Str×V)->List (Str×V)
 | []=> [(f,v)]
 |(g,x)::r=>if g=f then(g,v)::r else(g,x)::aN f v r
theorem a3T(f g:Str)(v:V):∀fs:List (Str×V),(aN f v fs).lookup g=if g=f then some v else fs.lookup g
 | []=>by
  show List.lookup g [(f,v)]=_
  by_cases h:g=f
  ·have hb:(g==f)=true:=beq_iff_eq.mpr h
   simp only[List.lookup,hb,if_pos h]
  ·have hb:(g==f)=false:=beq_eq_false_iff_ne.mpr h
   simp only[List.lookup,hb,if_neg h]
 |(k,x)::r=>by
  have ih:=a3T f g v r
  rw[show aN f v ((k,x)::r)=(if k=f then(k,v)::r else(k,x)::aN f v r) from rfl]
  by_cases hk:k=f
  ·rw[if_pos hk]
   by_cases h:g=k
   ·have hb:(g==k)=true:=beq_iff_eq.mpr h
    simp only[List.lookup,hb,if_pos (h.trans hk)]
   ·have hb:(g==k)=false:=beq_eq_false_iff_ne.mpr h
    simp only[List.lookup,hb,if_neg (fun e:g=f=>h (e.trans hk.symm))]
  ·rw[if_neg hk]
   by_cases h:g=k
   ·have hb:(g==k)=true:=beq_iff_eq.mpr h
    simp only[List.lookup,hb,if_neg (fun e:g=f=>hk (h.symm.trans e))]
   ·have hb:(g==k)=false:=beq_eq_false_iff_ne.mpr h
    simp only[List.lookup,hb]
    exact ih
theorem zV(f:Str)(v:V):∀fs:List (Str×V),f∈(aN f v fs).map (·.1)/\∀g,g∈fs.map (·.1)->g∈(aN f v fs).map (·.1)
 | []=>⟨by simp[aN],fun g h=>by simp at h⟩
 |(k,x)::r=>by
  obtain⟨i1,i2⟩:=zV f v r
  rw[show aN f v ((k,x)::r)=(if k=f then(k,v)::r else(k,x)::aN f v r) from rfl]
  by_cases hk:k=f
  ·rw[if_pos hk]
   subst hk
   exact⟨by simp,fun g h=>by simpa using h⟩
  ·rw[if_neg hk]
   refine⟨?_,fun g h=> ?_⟩
   ·rw[List.map_cons]
    exact List.mem_cons_of_mem _ i1
   ·rw[List.map_cons]at h|-
    rcases List.mem_cons.mp h with e|e
    ·exact List.mem_cons.mpr (.inl e)
    ·exact List.mem_cons_of_mem _ (i2 g e)
theorem a2x(f:Str)(v:V):∀fs:List (Str×V),(aN f v fs).length<=fs.length+ 1
 | []=>by simp[aN]
 |(k,x)::r=>by
  have ih:=a2x f v r
  rw[show aN f v ((k,x)::r)=(if k=f then(k,v)::r else(k,x)::aN f v r) from rfl]
  by_cases hk:k=f
  ·rw[if_pos hk,List.length_cons,List.length_cons];omega
  ·rw[if_neg hk,List.length_cons,List.length_cons];omega
theorem fT.some_of{v:V}{o:Option Value}(r:fT (some v) o):∃u,o=some u/\bA v u:=by
 cases o with
 |none=>exact(show False from r).elim
 |some u=>exact⟨u,rfl,r⟩
theorem fT.none_of{o:Option Value}(r:fT none o):o=none:=by
 cases o with
 |none=>rfl
 |some u=>exact(show False from r).elim
theorem a6q{v:V}(r:bA v u):W.handedIn u=true:=by
 cases v with
 |non=>cases (show u=Value.none from r);rfl
 |bl b=>cases (show u=Value.bool b from r);rfl
 |int i=>obtain⟨t,e⟩:=(show∃t,u=Value.int i t from r);cases e;rfl
 |str x=>obtain⟨t,e⟩:=(show∃t,u=Value.str x t from r);cases e;rfl
 |byt b=>obtain⟨t,e⟩:=(show∃t,u=Value.bytes b t from r);cases e;rfl
 |flt b=>obtain⟨t,e⟩:=(show∃t,u=Value.float b t from r);cases e;rfl
 |ref a=>cases (show u=Value.ref a from r);rfl
 |ty n=>cases (show u=Value.type n from r);rfl
section
variable{fs fs':List (Str×V)}
theorem sE(hok:bZ P w H h)(e:H a=some (.ins C dx fs)):∃mA,nG h a dx C mA/\(∀f,fT (fs.lookup f) (mA f))/\PySem.Within mA (fs.map (·.1))/\fs.length<=1000/\H dx=some (.own a):=by
 obtain⟨d,z,ne,ob,mA,n,r,q⟩:=(show cX P w H h a (.ins C dx fs) from hok a _ e)
 exact⟨mA,⟨ob,n,ne⟩,r,q,z,d⟩
end
structure cI(K:Fg)(C:Addr):Prop where
 pg:W.plainGet K C Str.empty=true
 hd:W.hasDictIn K C=true
 po:W.plainOver K C=true
 sa:W.findIn K (.ref C) "__setattr__"=some (some (.builtin "object.__setattr__"))
theorem cI.get(c:cI K C)(f:Str):W.plainGet K C f=true:=c.pg
def cH(K:Fg)(C:Addr)(f:Str):Prop:=W.findIn K (.ref C) f=some none
theorem cH.taker{f:Str}(n:cH K C f):W.takerIn K C f=some none:=by
 unfold W.takerIn
 rw[show W.findIn K (.ref C) f=some none from n]
 rfl
structure Con(K:Fg)(C:Addr)(f:Str)(v:V)(u:Value):Prop where
 at_:W.findIn K (.ref C) f=some (some u)
 rel:bA v u
 get:W.specialIn K u "__get__"=some none
 cp:W.copiedNames.contains f=false
structure rZ(K:Fg)(C:Addr)(m:Str)(f:Addr):Prop where
 at_:W.findIn K (.ref C) m=some (some (.ref f))
 fn:W.isFn K (.ref f)=true
 kp:W.keepIn K (.ref f)=true
section
variable{fs:List (Str×V)}{f:Str}{v:V}
theorem a1U{b:Bool}(I:aD X ae σ H s)(e:H a=some (.ins C dx fs))(c:cI X.K C)(n:cH X.K C f)(l:fs.lookup f=some v)
 (h:∀u s',aD X ae σ H s'->bA v u->Q u s'):wpAny (model X.prog X.w) A (getAttr (.ref a) f b) Q E s:=by
 obtain⟨mA,O,r,_,_,_⟩:=sE I.hok e
 obtain⟨u,hu,ru⟩:=fT.some_of (v:=v) (o:=mA f) (by rw[<- l];exact r f)
 exact a7G I.kIn O (c.get f) c.hd n hu (a6q ru) (h u _ (I.tok _) ru)
theorem oU{g:Addr}{pl:Sem Bool}{Q:Value×List Value->Shared->Prop}(I:aD X ae σ H s)(e:H a=some (.ins C dx fs))(c:cI X.K C)(k:rZ X.K C m g)(l:fs.lookup m=none)
 (h:Q (.ref g,[.ref a]) s):wpAny (model X.prog X.w) A (getMethod (.ref a) m pl) Q E s:=by
 obtain⟨mA,O,r,_,_,_⟩:=sE I.hok e
 have hn:mA m=none:=fT.none_of (by rw[<- l];exact r m)
 exact a8l I.kIn O (c.get m) k.at_ k.fn hn h
theorem a83{Q:Unit->Shared->Prop}(I:aD X ae σ H s)(e:H a=some (.ins C dx fs))(c:cI X.K C)(n:cH X.K C f)(hl:fs.length<1000)(ry:bA y u)
 (h:∀s',aD X ae σ (upd H a (.ins C dx (aN f y fs))) s'->Q () s'):wpAny (model X.prog X.w) A (setAttr (.ref a) f u) Q E s:=by
 obtain⟨mA,O,r,wi,_,ho⟩:=sE I.hok e
 have hz:(fs.map (·.1)).length<=sizeLine:=by rw[List.length_map,sizeLine_eq];omega
 refine a8W I.kIn O c.sa c.po n.taker c.hd wi hz fun h' O' sb=>h _ ?_
 have hd:∃o,h'.get? dx=some o:=let ⟨o,_,_,e',_⟩:=O'.ns;⟨o,e'⟩
 refine I.write (x:=a) (e:=dx) (by rw[e];exact True.intro) (.inr ho) (fun b q hb z=>(sb.2 b hb).trans z) hd ?_
 refine⟨by rw[aI O.ne];exact ho,?_,O.ne,O'.obj,_,O'.ns,fun g=> ?_,fun g hg=> ?_⟩
 ·have:=a2x f y fs;omega
 ·show fT ((aN f y fs).lookup g) (if g=f then some u else mA g)
  rw[a3T]
  by_cases q:g=f
  ·rw[if_pos q,if_pos q];exact ry
  ·rw[if_neg q,if_neg q];exact r g
 ·by_cases q:g=f
  ·rw[q];exact(zV f y fs).1
  ·refine(zV f y fs).2 g (wi g fun z=>hg ?_)
   show(if g=f then some u else mA g)=none
   rw[if_neg q];exact z
theorem aD.made(I:aD X ae σ H s):aD X ae σ (upd (upd H s.heap.objs.size (.own (s.heap.objs.size+ 1))) (s.heap.objs.size+ 1) (.ins C s.heap.objs.size []))
 {s with heap:=(s.heap.push W.emptyDict).push (W.instObj C s.heap.objs.size)}:=by
 have e1:(s.heap.push W.emptyDict).get? s.heap.objs.size=some W.emptyDict:=Heap.get?_push_size s.heap rfl
 have e2:((s.heap.push W.emptyDict).push (W.instObj C s.heap.objs.size)).get? (s.heap.objs.size+ 1)=some (W.instObj C s.heap.objs.size):=by
  have:=Heap.get?_push_size (s.heap.push W.emptyDict) (o:=W.instObj C s.heap.objs.size) rfl
  rwa [Heap.size_push]at this
 have e3:(s.heap.push W.emptyDict).Ns s.heap.objs.size (fun _=>none):=⟨W.emptyDict,#[],_,e1,rfl,(fun e he=>absurd he (by simp)),fun _=>rfl⟩
 have I1:=I.laid (a:=s.heap.objs.size) (o:=.own (s.heap.objs.size+ 1)) (h':=s.heap.push W.emptyDict) (t':=s.toks) (fun b u q=>Heap.get?_push_of_some _ q) (Nat.le_refl _) ⟨_,e1⟩
 refine I1.laid (a:=s.heap.objs.size+ 1) (o:=.ins C s.heap.objs.size []) (t':=s.toks) (fun b u q=>Heap.get?_push_of_some _ q) (Nat.le_of_eq (Heap.size_push _ _)) ?_
 have ne:s.heap.objs.size≠s.heap.objs.size+ 1:=Nat.ne_of_lt (Nat.lt_succ_self _)
 refine⟨by rw[aI ne,aJ],Nat.zero_le _,ne,e2,fun _=>none,(Heap.Ns1.of_empty e3).at fun o q=>Heap.get?_push_of_some _ q,fun _=>True.intro,fun y hy=>absurd rfl hy⟩
theorem a4W{env:Env}{f:Str}{pos:Pos}(hb:attributeBase e f env (eval e env)=eval e env)
 (h:wpAny (model prog w) A (eval e env) (fun o s₁=>wpAny (model prog w) A (getAttr o f true) Q E s₁) E s):wpAny (model prog w) A (eval (.Attribute e f pos) env) Q E s:=
 Attribute_any_ h (by rw[arm_eval_Attribute,hb])
end
def tFld(K:Fg)(ta:TE)(f:Str):TE:=fun σ H Q=>ta σ H fun x H1=>∃a C dx fs v,x= .ref a/\H1 a=some (.ins C dx fs)/\cI K C/\cH K C f/\fs.lookup f=some v/\Q v H1
def sFld(K:Fg)(ta tv:TE)(f:Str):TS:=fun D σ H=>tv σ H fun y H1=>ta σ H1 fun x H2=>∃a C dx fs,x= .ref a/\H2 a=some (.ins C dx fs)/\cI K C/\cH K C f/\fs.length<1000/\
 D.nx σ (upd H2 a (.ins C dx (aN f y fs)))
section
variable{o value:Expr}{f:Str}{pos tpos:Pos}{tv:TE}
theorem aW(he:PE X e ta)(hb:attributeBase e f X.env (eval e X.env)=eval e X.env):PE X (.Attribute e f pos) (tFld X.K ta f):=by
 intro ae s σ H Q I h
 refine a4W hb (aT (he ae s σ H _ I h) ?_)
 rintro u s1 ⟨x,H1,I1,rx,a,C,dx,fs,v,ex,ea,c,n,l,q⟩
 subst ex
 obtain rfl:u=Value.ref a:=rx
 exact a1U I1 ea c n l fun u' s2 I2 ru=>⟨v,H1,I2,ru,q⟩
theorem cY(ha:PE X o ta)(hv:PE X value tv)(hs:swapsWith value (some (.Attribute o f pos')) pos.line X.env=pure false):PS X (.Assign [.Attribute o f pos'] value pos) (sFld X.K ta tv f):=by
 intro ae s σ H D I h
 refine plainObj_wpAny_Assign_Attribute (aT (hv ae s σ H _ I h) fun u s1 ⟨y,H1,I1,ry,q⟩=>aT (ha ae s1 σ H1 _ I1 q) fun ov s2 ⟨x,H2,I2,rx,a,C,dx,fs,ex,ea,c,n,l,q2⟩=> ?_) hs
 subst ex
 obtain rfl:ov=Value.ref a:=rx
 exact a83 I2 ea c n l ry fun s3 I3=>⟨σ,_,I3,q2⟩
theorem methcall_of{pl:Sem Bool}{args:List Expr}(he:PE X e te)(I:aD X ae σ H s)
 (h:te σ H fun x H1=>∃a C dx fs g,x= .ref a/\H1 a=some (.ins C dx fs)/\cI X.K C/\rZ X.K C m g/\fs.lookup m=none/\
  ∀s1,aD X ae σ H1 s1->wpAny (model X.prog X.w) X.A (callWith pos (.ref g) [.ref a] (backTo pos (starEach args X.env)) (backToKw pos (keywordEach [] X.env))) Q X.xe s1)
 (ht:eval (.Call (.Attribute e m apos) args [] pos) X.env=(do
  let ov<- eval e X.env
  standAt apos.atName
  let (f,first)<- holding [ov] (getMethod ov m pl)
  callWith pos f first (backTo pos (starEach args X.env)) (backToKw pos (keywordEach [] X.env)))):
 wpAny (model X.prog X.w) X.A (eval (.Call (.Attribute e m apos) args [] pos) X.env) Q X.xe s:=by
 refine W.methodCall_KW (pl:=pl) (aT (he ae s σ H _ I h) ?_) ht
 rintro u s1 ⟨x,H1,I1,rx,a,C,dx,fs,g,ex,ea,c,k,l,q⟩
 subst ex
 obtain rfl:u=Value.ref a:=rx
 exact oU I1 ea c k l (q s1 I1)
end
section
variable{c:Value}{b:Bool}
inductive gC(K:Fg)(H:Hp):V->Value->Prop where
 |non:gC K H .non (.type "NoneType")
 |bl (x:Bool):gC K H (.bl x) (.type "bool")
 |int (i:Int):gC K H (.int i) (.type "int")
 |str (x:Str):gC K H (.str x) (.type "str")
 |flt (x:UInt64):gC K H (.flt x) (.type "float")
 |lst {a:Addr} {xs:List V} (e:H a=some (.lst xs)):gC K H (.ref a) (.type "list")
 |frz {a:Addr} {o:Obj} {xs:List V} (e:H a=some (.frz o (.lst xs))):gC K H (.ref a) (.type "list")
 |tup {a:Addr} {xs:List V} (e:H a=some (.tup xs)):gC K H (.ref a) (.type "tuple")
 |dK {a:Addr} {kvs:List (aB×V)} (e:H a=some (.dK kvs)):gC K H (.ref a) (.type "dict")
 |dT {a:Addr} {kvs:List (List aB×V)} (e:H a=some (.dT kvs)):gC K H (.ref a) (.type "dict")
 |ins {a C dx:Addr} {fs:List (Str×V)} (e:H a=some (.ins C dx fs)) (cl:cI K C) (ha:W.findIn K (.ref C) "__class__"=some (some (.builtin "object.__class__")))
  (hn:W.specialIn K (.builtin "object.__class__") "__get__"=some (some (.builtin "getset_descriptor.__get__"))) (htk:W.takesIn K (.builtin "object.__class__")=some true)
  (hm:W.mroIn K C (.type "object")=some true):gC K H (.ref a) (.ref C)
theorem a8V{x:V}{t:Value}(I:aD X ae σ H s)(rx:bA x u)(ty:gC X.K H x t)(e:W.kitOne X.K t c=some b)(h:∀tk,Q (.bool b) {s with toks:=tk}):
 wpAny (model X.prog X.w) A (call (.builtin "isinstance") [u,c]) Q E s:=by
 cases ty with
 |non=>cases (show u=Value.none from rx);exact W.kia_one W.kitx_none I.kIn True.intro e (fun z=>nomatch z) h
 |bl y=>cases (show u=Value.bool y from rx);exact W.kia_one W.kitx_bool I.kIn True.intro e (fun z=>nomatch z) h
 |int i=>obtain⟨t,q⟩:=(show∃t,u=Value.int i t from rx);cases q;exact W.kia_one W.kitx_int I.kIn True.intro e (fun z=>nomatch z) h
 |str y=>obtain⟨t,q⟩:=(show∃t,u=Value.str y t from rx);cases q;exact W.kia_one W.kitx_str I.kIn True.intro e (fun z=>nomatch z) h
 |flt y=>obtain⟨t,q⟩:=(show∃t,u=Value.float y t from rx);cases q;exact W.kia_one W.kitx_float I.kIn True.intro e (fun z=>nomatch z) h
 | @lst a xs ea=>
  cases (show u=Value.ref a from rx)
  obtain⟨_,_,n,_,h1⟩:=(show cX X.prog X.w H s.heap a (.lst xs) from I.hok a _ ea)
  exact W.kia_one W.kitx_list I.kIn ⟨_,h1,rfl⟩ e (fun z=>nomatch z) h
 | @frz a ob xs ea=>
  cases (show u=Value.ref a from rx)
  obtain⟨_,_,_,n,_,h1⟩:=(show cX X.prog X.w H s.heap a (.frz ob (.lst xs)) from I.hok a _ ea)
  exact W.kia_one W.kitx_list I.kIn ⟨_,h1,rfl⟩ e (fun z=>nomatch z) h
 | @tup a xs ea=>
  cases (show u=Value.ref a from rx)
  obtain⟨_,_,_,p⟩:=(show cX X.prog X.w H s.heap a (.tup xs) from I.hok a _ ea)
  obtain⟨o,h1,h2,_⟩:=p
  exact W.kia_one W.kitx_tuple I.kIn ⟨o,h1,h2⟩ e (fun z=>nomatch z) h
 | @dK a kvs ea=>
  cases (show u=Value.ref a from rx)
  obtain⟨_,_,vs,_,p⟩:=(show cX X.prog X.w H s.heap a (.dK kvs) from I.hok a _ ea)
  obtain⟨o,es,ep,h1,h2,_⟩:=p
  exact W.kia_one W.kitx_dict I.kIn ⟨o,h1,h2.1⟩ e (fun z=>nomatch z) h
 | @dT a kvs ea=>
  cases (show u=Value.ref a from rx)
  obtain⟨_,_,xs,_,o,es,ep,h1,h2,_⟩:=(show cX X.prog X.w H s.heap a (.dT kvs) from I.hok a _ ea)
  exact W.kia_one W.kitx_dict I.kIn ⟨o,h1,h2.1⟩ e (fun z=>nomatch z) h
 | @ins a C dx fs ea cl ha hn htk hm=>
  cases (show u=Value.ref a from rx)
  obtain⟨mA,O,_⟩:=sE I.hok ea
  obtain⟨od,J,_⟩:=O.look
  exact W.kia_one (W.kitx_own (cl.get _) cl.hd ha hn htk hm) I.kIn J e (fun z=>nomatch z) h
end
structure bT(k:Nat)(A:Around):Prop where
 hd:A.handled=none
 dp:A.depth+ 3* k+ 5<recursionLimit
 un:A.units+ 16* k+ 200<cLine
theorem bT.mono{k:Nat}(r:bT k A)(h:j<=k):bT j A:=⟨r.hd,by have:=r.dp;omega,by have:=r.un;omega⟩
theorem bT.mn{k:Nat}(r:bT k A)(h:j<=k:=by decide):bT j A:=r.mono h
theorem bT.deeper{k:Nat}(r:bT (k+ 1) A)(env:Env):bT k (A.deeper env):=
 ⟨r.hd,by have:=r.dp;show A.depth+ 1+ 3* k+ 5<_;omega,by have:=r.un;show A.units+ 3+ 16* k+ 200<_;omega⟩
theorem a8k{kw:List (Str×Value)}:(A.under (.builtin "type.__call__" ⟨.ref C::us,kw⟩)).depth=A.depth+ 1:=by
 first|rfl|simp[Around.under,Code.weight,Code.isCreation,Code.isGuard,Code.isCaller,Code.frames,Code.isFrame,guardIds]
theorem a49{kw:List (Str×Value)}:(A.under (.builtin "type.__call__" ⟨.ref C::us,kw⟩)).units=A.units+ 1:=by
 first|rfl|simp[Around.under,Code.cUnits,Code.frames,Code.isFrame]
theorem bT.make{k:Nat}(r:bT (k+ 1) A)(C:Addr)(us:List Value)(kw:List (Str×Value)):bT k (A.under (.builtin "type.__call__" ⟨.ref C::us,kw⟩)):=
 ⟨r.hd,by have:=r.dp;rw[a8k];omega,by have:=r.un;rw[a49];omega⟩
theorem bT.depth{k:Nat}(r:bT k A):A.depth<recursionLimit:=by have:=r.dp;omega
theorem bT.units{k:Nat}(r:bT k A):A.units+ 64<cLine:=by have:=r.un;omega
def kP:TA:=fun _ H Q=>Q [] H
def iO(ta:TE)(tr:TA):TA:=fun σ H Q=>ta σ H fun x H1=>tr σ H1 fun xs H2=>Q (x::xs) H2
section
variable{t:TA}{pos:Pos}
theorem aG:PA X [] kP:=fun _ _ _ _ H Q I h=>Calls.spliced_nil ⟨[],H,I,.nil,h⟩
theorem aA(ha:PE X e te)(hr:PA X es t)(hs:starEach (e::es) X.env=(false,eval e X.env)::starEach es X.env:=by rfl):PA X (e::es) (iO te t):=by
 intro pos ae s σ H Q I h
 rw[hs]
 show wpAny _ _ (spliced ((false,eval e X.env)::backTo pos (starEach es X.env))) _ _ s
 refine Calls.spliced_cons (aT (ha ae s σ H _ I h) ?_)
 rintro u s1 ⟨x,H1,I1,r1,q1⟩
 exact aT (hr pos ae s1 σ H1 _ I1 q1) fun us s2 ⟨xs,H2,I2,r2,q2⟩=>⟨x::xs,H2,I2,.cons r1 r2,q2⟩
def tTup(t:TA):TE:=fun σ H Q=>t σ H fun xs H1=>xs.length<=sizeLine/\∀p,H1 p=none->Q (.ref p) (upd H1 p (.tup xs))
def tLst(t:TA):TE:=fun σ H Q=>t σ H fun xs H1=>xs.length<=sizeLine/\∀p,H1 p=none->Q (.ref p) (upd H1 p (.lst xs))
theorem hZ{x1}(h:PA X es t):PE X (.Tuple es x1 pos) (tTup t):=by
 intro ae s σ H Q I hq
 refine wpAny_Tuple_spliced (aT (h pos ae s σ H _ I hq) fun us s1 ⟨xs,H1,I1,r,z,q⟩=>⟨by rw[<- r.length];exact z,?_⟩)
 have hf:H1 s1.heap.objs.size=none:=I1.hok.fresh (Nat.le_refl _)
 refine⟨.ref s1.heap.objs.size,upd H1 s1.heap.objs.size (.tup xs),I1.laid (t':=s1.toks) (fun b u e=>Heap.get?_push_of_some _ e) (Nat.le_refl _) ?_,rfl,q _ hf⟩
 exact⟨z,us,r,⟨_,Heap.get?_push_size _ rfl,rfl,_,rfl⟩⟩
theorem fV(h:PA X es t):PE X (.List es pos) (tLst t):=by
 intro ae s σ H Q I hq
 refine wpAny_List_spliced (aT (h pos ae s σ H _ I hq) fun us s1 ⟨xs,H1,I1,r,z,q⟩=>⟨by rw[<- r.length];exact z,?_⟩)
 have hf:H1 s1.heap.objs.size=none:=I1.hok.fresh (Nat.le_refl _)
 refine⟨.ref s1.heap.objs.size,upd H1 s1.heap.objs.size (.lst xs),I1.laid (t':=s1.toks) (fun b u e=>Heap.get?_push_of_some _ e) (Nat.le_refl _) ?_,rfl,q _ hf⟩
 exact⟨z,us,0,r,Heap.get?_push_size _ rfl⟩
end
abbrev Sp:=List V->Hp->VK->XK->Prop
abbrev eY:=List Env->Hp->Shared->XK->Value->Shared->Prop
structure jX(P:Program)(w:World)(K:Fg)(mg:Str->Option Value)(af:Heap)(A:Around)(ag:List Env)(s:Shared)(H:Hp):Prop where
 frames:A.frames=some ag
 mod:Mod K mg af
 bs:∀b o,af.get? b=some o->s.heap.get? b=some o/\H b=none
 bsz:af.objs.size<=s.heap.objs.size
 funs:s.heap.FunFrames af ag
 frf:∀b∈fS ag,H b=none
 hok:bZ P w H s.heap
 bare:AllBare s.gens
variable{CX:eY}{sp spl:Sp}{RG:Addr->Sp->Prop}
def CE(ag:List Env)(P:Program)(w:World)(H:Hp)(s:Shared)(Q:VK)(u:Value)(s':Shared):Prop:=
 ∃v H',s'.os=s.os/\AllBare s'.gens/\Un (fS ag) [] H H' s.heap s'.heap/\bZ P w H' s'.heap/\bA v u/\Q v H'
def CR(CX:eY)(ag:List Env)(P:Program)(w:World)(H:Hp)(s:Shared)(Q:VK)(E:XK)(r:Result)(s':Shared):Prop:=
 match r with
 | .ok (.ret u)=>CE ag P w H s Q u s'
 | .ok _=>False
 | .error e=>CX ag H s E e s'
structure fA(P:Program)(w:World)(K:Fg)(mg:Str->Option Value)(af:Heap)(CX:eY)(k:Nat)(f:Addr)(fd:FuncData)(ps:List Str)(sp:Sp):Prop where
 len:∀vs H Q E,sp vs H Q E->vs.length=ps.length
 run:∀(A:Around) (ag:List Env) (s:Shared) (H:Hp) (args:Args) (us:List Value) (vs:List V) (Q:VK) (E:XK),bT k A->jX P w K mg af A ag s H->BindsTo s fd args (ps.zip us)->aX vs us->sp vs H Q E->
  codeAny (model P w) A (.call (.ref f) args) (CR CX ag P w H s Q E) s
theorem fA.mono{k:Nat}{fd:FuncData}(F:fA P w K mg af CX j f fd ps sp)(h:j<=k):
 fA P w K mg af CX k f fd ps sp:=⟨F.len,fun A ag s H args us vs Q E hr=>F.run A ag s H args us vs Q E (hr.mono h)⟩
theorem jX.make{ag:List Env}(e:jX P w K mg af A ag s H)(C:Addr)(us:List Value)(kw:List (Str×Value)):
 jX P w K mg af (A.under (.builtin "type.__call__" ⟨.ref C::us,kw⟩)) ag s H:=⟨by first|exact e.frames|(simpa [Around.under,Code.envs,Code.isFrame,pushEnvs] using e.frames),e.mod,e.bs,e.bsz,e.funs,e.frf,e.hok,e.bare⟩
section
theorem aD.env0(I:aD X ae σ H s):jX X.prog X.w X.K X.mg X.base X.A X.stack s H:=
 ⟨I.ok.frames,I.ok.mod,I.bs,Nat.le_trans I.ok.bsz I.sz,I.stack,I.stkFree,I.hok,I.bare⟩
theorem aD.after{Q:VK}(I:aD X ae σ H s)(h:CE X.stack X.prog X.w H s Q u s'):EP X ae σ Q u s':=by
 obtain⟨v,H',os,bare,un,hok,r,q⟩:=h
 obtain⟨hh,g,d,t,os'⟩:=s'
 obtain rfl:os'=s.os:=os
 exact⟨v,H',I.call (h':=hh) (g':=g) (d':=d) (t':=t) (ch:=[]) un hok bare (fun b z=>absurd z (by simp)),r,q⟩
end
def oM(sp:Sp)(dvs:List V)(E:XK)(t:TA):TE:=fun σ H Q=>t σ H fun vs H1=>sp (vs++ dvs) H1 Q E
def qI(C:Addr)(m:Str)(sp:Sp)(dvs:List V)(E:XK)(ta:TE)(t:TA):TE:=fun σ H Q=>ta σ H fun x H1=>∃a dx fs,x= .ref a/\H1 a=some (.ins C dx fs)/\fs.lookup m=none/\
 t σ H1 fun vs H2=>sp (x::(vs++ dvs)) H2 Q E
def vA(C:Addr)(sp:Sp)(dvs:List V)(E:XK)(t:TA):TE:=fun σ H Q=>t σ H fun vs H1=>∀x dx,H1 x=none->H1 dx=none->dx≠x->
 sp (.ref x::(vs++ dvs)) (upd (upd H1 dx (.own x)) x (.ins C dx [])) (fun v H2=>v= .non/\Q (.ref x) H2) E
def iA(K:Fg)(fd:FuncData)(ps:List Str)(ds:List Value):Prop:=
 ∀(s:Shared) (us:List Value),K.In s.heap->(us++ ds).length=ps.length->BindsTo s fd ⟨us,[]⟩ (ps.zip (us++ ds))
theorem iA.all{fd:FuncData}(h:∀us:List Value,us.length=ps.length->bindArgs fd ⟨us,[]⟩=pure (ps.zip us)):iA K fd ps []:=fun s us _ hl=>by
 rw[List.append_nil]at hl|-
 exact .of_eq (h us hl)
def gY(CX:eY)(X:Cx)(E:XK):Prop:=∀(ae:List (Addr×Obj)) (σ:St) (H:Hp) (s:Shared) (e:Value) (s':Shared),aD X ae σ H s->CX X.stack H s E e s'->X.xe e s'
section
variable{k:Nat}{fd:FuncData}{dvs:List V}{ds:List Value}{E:XK}{p pos:Pos}{o:Expr}{t:TA}
theorem rP{Q:VK}(F:fA X.prog X.w X.K X.mg X.base CX k f fd ps sp)(hr:bT k X.A)(hb:iA X.K fd ps ds)(hd:aX dvs ds)(hx:gY CX X E)
 (I:aD X ae σ H s)(r:aX vs us)(h:sp (vs++ dvs) H Q E):wpAny (model X.prog X.w) X.A (call (.ref f) us) (EP X ae σ Q) X.xe s:=by
 have r2:aX (vs++ dvs) (us++ ds):=r.append hd
 have hl:(us++ ds).length=ps.length:=by rw[<- r2.length];exact F.len _ _ _ _ h
 refine wpAny_call (codeAny_mono (F.run X.A X.stack s H ⟨us,[]⟩ (us++ ds) (vs++ dvs) Q E hr I.env0 (hb s us I.kIn hl) r2 h) fun r s' hq=> ?_)
 cases r with
 |error e=>exact hx ae σ H s e s' I hq
 |ok fl=>
  cases fl with
  |ret u=>exact I.after hq
  |next=>exact False.elim hq
  |brk=>exact False.elim hq
  |cont=>exact False.elim hq
theorem a62(F:fA X.prog X.w X.K X.mg X.base CX k f fd ps sp)(hr:bT k X.A)(hg:Gl X x)(hm:X.mg x=some (.ref f))(hk:W.keepIn X.K (.ref f)=true)(hb:iA X.K fd ps ds)(hd:aX dvs ds)(hx:gY CX X E)
 (ha:PA X (e::es) t)(hdb:(x==("__debug__":Str))=false:=by decide)(he:starEach (e::es) X.env=(false,eval e X.env)::starEach es X.env:=by rfl)(hpl:(backTo pos (starEach es X.env)).any (·.1)=false:=by rfl):
 PE X (.Call (.Name x p) (e::es) [] pos) (oM sp dvs E t):=by
 intro ae s σ H Q I h
 refine wpAny_Call_Name_kw (sI I hg hm ?_ hdb)
 refine W.callWith_K (h₀:=X.base) I.ok.mod.kin hk (aT (ha pos ae s σ H _ I h) fun us s1 ⟨vs,H1,I1,r,q⟩=>⟨I1.kIn,?_⟩) he hpl
 exact rP F hr hb hd hx I1 r q
theorem a6K{pl:Sem Bool}(he:PE X o ta)(c:cI X.K C)(hm:rZ X.K C m f)(F:fA X.prog X.w X.K X.mg X.base CX k f fd ps sp)(hr:bT k X.A)(hb:iA X.K fd ps ds)(hd:aX dvs ds)(hx:gY CX X E)(ha:PA X (e::es) t)
 (hst:starEach (e::es) X.env=(false,eval e X.env)::starEach es X.env:=by rfl)(hpl:(backTo pos (starEach es X.env)).any (·.1)=false:=by rfl)
 (ht:eval (.Call (.Attribute o m apos) (e::es) [] pos) X.env=(do
  let ov<- eval o X.env
  standAt apos.atName
  let (f,first)<- holding [ov] (getMethod ov m pl)
  callWith pos f first (backTo pos (starEach (e::es) X.env)) (backToKw pos (keywordEach [] X.env))):=by rfl):
 PE X (.Call (.Attribute o m apos) (e::es) [] pos) (qI C m sp dvs E ta t):=by
 intro ae s σ H Q I h
 refine W.methodCall_KW (pl:=pl) (aT (he ae s σ H _ I h) ?_) ht
 rintro u s1 ⟨x,H1,I1,rx,a,dx,fs,ex,ea,l,q⟩
 subst ex
 obtain rfl:u=Value.ref a:=rx
 refine oU I1 ea c hm l ?_
 refine W.callWith_K (first:=[.ref a]) (h₀:=X.base) I.ok.mod.kin hm.kp (aT (ha pos ae s1 σ H1 _ I1 q) fun us s2 ⟨vs,H2,I2,r,q2⟩=>⟨I2.kIn,?_⟩) hst hpl
 exact rP (us:=.ref a::us) (vs:=.ref a::vs) F hr hb hd hx I2 (.cons rfl r) q2
theorem a5i{pl:Sem Bool}(he:PE X o ta)(c:cI X.K C)(hm:rZ X.K C m f)(F:fA X.prog X.w X.K X.mg X.base CX k f fd ps sp)(hr:bT k X.A)(hb:iA X.K fd ps ds)(hd:aX dvs ds)(hx:gY CX X E)
 (ht:eval (.Call (.Attribute o m apos) [] [] pos) X.env=(do
  let ov<- eval o X.env
  standAt apos.atName
  let (f,first)<- holding [ov] (getMethod ov m pl)
  callWith pos f first (backTo pos (starEach [] X.env)) (backToKw pos (keywordEach [] X.env))):=by rfl):
 PE X (.Call (.Attribute o m apos) [] [] pos) (qI C m sp dvs E ta kP):=by
 intro ae s σ H Q I h
 refine W.methodCall_KW (pl:=pl) (aT (he ae s σ H _ I h) ?_) ht
 rintro u s1 ⟨x,H1,I1,rx,a,dx,fs,ex,ea,l,q⟩
 subst ex
 obtain rfl:u=Value.ref a:=rx
 refine oU I1 ea c hm l ?_
 exact W.callWith_K0 (first:=[.ref a]) I1.kIn hm.kp (rP (us:=[.ref a]) (vs:=[.ref a]) F hr hb hd hx I1 (.cons rfl .nil) q)
structure Mk(K:Fg)(C f:Addr):Prop where
 makes:W.makesIn K C=true
 init:W.findIn K (.ref C) "__init__"=some (some (.ref f))
 fn:W.isFn K (.ref f)=true
 kp:W.keepIn K (.ref C)=true
theorem a11{Q:VK}(M:Mk X.K C f)(F:fA X.prog X.w X.K X.mg X.base CX k f fd ps sp)(hr:bT (k+ 1) X.A)(hb:iA X.K fd ps ds)(hd:aX dvs ds)
 (hx:gY CX X E)(I:aD X ae σ H s)(r:aX vs us)
 (h:∀x dx,H x=none->H dx=none->dx≠x->sp (.ref x::(vs++ dvs)) (upd (upd H dx (.own x)) x (.ins C dx [])) (fun v H2=>v= .non/\Q (.ref x) H2) E):
 wpAny (model X.prog X.w) X.A (call (.ref C) us) (EP X ae σ Q) X.xe s:=by
 have hq:=h (s.heap.objs.size+ 1) s.heap.objs.size (I.hok.fresh (Nat.le_succ _)) (I.hok.fresh (Nat.le_refl _)) (Nat.ne_of_lt (Nat.lt_succ_self _))
 have I2:=aD.made (C:=C) I
 have r2:aX (V.ref (s.heap.objs.size+ 1)::(vs++ dvs)) (Value.ref (s.heap.objs.size+ 1)::(us++ ds)):=.cons rfl (r.append hd)
 have hl:(Value.ref (s.heap.objs.size+ 1)::us++ ds).length=ps.length:=by
  have e:=r2.length
  rw[F.len _ _ _ _ hq]at e
  exact e.symm
 refine wpAny_call (a6u (f:=f) I.kIn M.makes M.init (beq_iff_eq.mp M.fn) (codeAny_mono (F.run _ X.stack _ _ ⟨Value.ref (s.heap.objs.size+ 1)::us,[]⟩ (Value.ref (s.heap.objs.size+ 1)::(us++ ds)) _ _ E (hr.make C us [])
  (I2.env0.make C us []) (hb _ (Value.ref (s.heap.objs.size+ 1)::us) I2.kIn hl) r2 hq) fun r s' hq'=> ?_))
 cases r with
 |error e=>exact hx ae σ _ _ e s' I2 hq'
 |ok fl=>
  cases fl with
  |ret u=>
   obtain⟨v,H',I3,rv,ev,q3⟩:=I2.after hq'
   subst ev
   exact⟨rv,⟨V.ref (s.heap.objs.size+ 1),H',I3,rfl,q3⟩⟩
  |next=>exact False.elim hq'
  |brk=>exact False.elim hq'
  |cont=>exact False.elim hq'
theorem a4u(M:Mk X.K C f)(F:fA X.prog X.w X.K X.mg X.base CX k f fd ps sp)(hr:bT (k+ 1) X.A)(hg:Gl X x)(hm:X.mg x=some (.ref C))(hb:iA X.K fd ps ds)(hd:aX dvs ds)(hx:gY CX X E)
 (ha:PA X (e::es) t)(hdb:(x==("__debug__":Str))=false:=by decide)(he:starEach (e::es) X.env=(false,eval e X.env)::starEach es X.env:=by rfl)(hpl:(backTo pos (starEach es X.env)).any (·.1)=false:=by rfl):
 PE X (.Call (.Name x p) (e::es) [] pos) (vA C sp dvs E t):=by
 intro ae s σ H Q I h
 refine wpAny_Call_Name_kw (sI I hg hm ?_ hdb)
 refine W.callWith_K (h₀:=X.base) I.ok.mod.kin M.kp (aT (ha pos ae s σ H _ I h) fun us s1 ⟨vs,H1,I1,r,q⟩=>⟨I1.kIn,?_⟩) he hpl
 exact a11 M F hr hb hd hx I1 r q
theorem a5p(M:Mk X.K C f)(F:fA X.prog X.w X.K X.mg X.base CX k f fd ps sp)(hr:bT (k+ 1) X.A)(hg:Gl X x)(hm:X.mg x=some (.ref C))(hb:iA X.K fd ps ds)(hd:aX dvs ds)(hx:gY CX X E)
 (hdb:(x==("__debug__":Str))=false:=by decide):PE X (.Call (.Name x p) [] [] pos) (vA C sp dvs E kP):=by
 intro ae s σ H Q I h
 refine wpAny_Call_Name_kw (sI I hg hm ?_ hdb)
 exact W.callWith_K0 I.kIn M.kp (a11 (us:=[]) M F hr hb hd hx I .nil h)
end
section
variable{k:Nat}{fd:FuncData}{ks:List Str}{E:XK}{p pos kpos:Pos}{o:Expr}{kws:List Keyword}{t tk:TA}{nm:Option Str}
structure KBinds(K:Fg)(fd:FuncData)(ps ks:List Str)(g:List Value->List Value->List Value)(gV:List V->List V->List V):Prop where
 to:∀(s:Shared) (us ws:List Value),K.In s.heap->(g us ws).length=ps.length->BindsTo s fd ⟨us,ks.zip ws⟩ (ps.zip (g us ws))
 rel:∀{vs:List V} {us:List Value} {zs:List V} {ws:List Value},aX vs us->aX zs ws->aX (gV vs zs) (g us ws)
variable{g:List Value->List Value->List Value}{gV:List V->List V->List V}
end
structure bD(N P:List Str)(sc:Scope):Prop where
 kind:sc.kind= .function:=by rfl
 co:sc.isCoroutine=false:=by rfl
 gen:sc.isGenerator=false:=by rfl
 nd:N.Nodup:=by decide+kernel
 pre:N.take P.length=P:=by rfl
 par:∀x∈P,sc.names.lookup x=some .local\/ sc.names.lookup x=some .cell:=by decide+kernel
 nofree:∀y∈sc.names,y.2≠ .free:=by decide+kernel
theorem a1D{kindOf:Str->Option NameKind}{x:Str}:∀{binds:List (Str×Value)} {m:Str->Option Value},(∀v,(x,v)∉binds)->bindL kindOf binds m x=m x
 | [],_,_=>rfl
 |(n,v)::r,m,h=>by
  unfold bindL
  rw[a1D fun w hw=>h w (List.mem_cons_of_mem _ hw)]
  split
  ·have:x≠n:=by rintro rfl;exact h v List.mem_cons_self
   simp[this]
  ·rfl
theorem a1O{kindOf:Str->Option NameKind}{x:Str}:∀{binds:List (Str×Value)} {m:Str->Option Value},(∀v,(x,v)∉binds)->bindC kindOf binds m x=m x
 | [],_,_=>rfl
 |(n,v)::r,m,h=>by
  unfold bindC
  rw[a1O fun w hw=>h w (List.mem_cons_of_mem _ hw)]
  split
  ·rfl
  ·have:x≠n:=by rintro rfl;exact h v List.mem_cons_self
   simp[this]
theorem a2g{kindOf:Str->Option NameKind}{x:Str}{v:Value}:∀{P:List Str} {vs:List Value} {i:Nat} {m:Str->Option Value},P.Nodup->P[i]?=some x->vs[i]?=some v->kindOf x=some .local->
 bindL kindOf (P.zip vs) m x=some v
 | [],_,_,_,_,h,_,_=>by simp at h
 |_::_,[],_,_,_,_,h,_=>by simp at h
 |p::P,w::vs,0,m,nd,h1,h2,hk=>by
  simp at h1 h2;subst h1;subst h2
  show bindL kindOf ((p,w)::P.zip vs) m p=_
  unfold bindL
  rw[a1D fun v hv=>(List.nodup_cons.mp nd).1 (List.of_mem_zip hv).1,if_pos hk]
  simp
 |p::P,w::vs,i+ 1,m,nd,h1,h2,hk=>by
  show bindL kindOf ((p,w)::P.zip vs) m x=_
  unfold bindL
  exact a2g (i:=i) (List.nodup_cons.mp nd).2 (by simpa using h1) (by simpa using h2) hk
theorem a20{kindOf:Str->Option NameKind}{x:Str}{v:Value}:∀{P:List Str} {vs:List Value} {i:Nat} {m:Str->Option Value},P.Nodup->P[i]?=some x->vs[i]?=some v->kindOf x≠some .local->
 bindC kindOf (P.zip vs) m x=some v
 | [],_,_,_,_,h,_,_=>by simp at h
 |_::_,[],_,_,_,_,h,_=>by simp at h
 |p::P,w::vs,0,m,nd,h1,h2,hk=>by
  simp at h1 h2;subst h1;subst h2
  show bindC kindOf ((p,w)::P.zip vs) m p=_
  unfold bindC
  rw[a1O fun v hv=>(List.nodup_cons.mp nd).1 (List.of_mem_zip hv).1,if_neg hk]
  simp
 |p::P,w::vs,i+ 1,m,nd,h1,h2,hk=>by
  show bindC kindOf ((p,w)::P.zip vs) m x=_
  unfold bindC
  exact a20 (i:=i) (List.nodup_cons.mp nd).2 (by simpa using h1) (by simpa using h2) hk
def start(N:List Str)(vs:List V):St:=vs.map some++ List.replicate (N.length- vs.length) none
def eJ(CX:eY)(P:Program)(w:World)(K:Fg)(mg:Str->Option Value)(af:Heap)(N:List Str)(qual:Str)(ai:Scope)(f:Addr)(cd:Value)(A:Around)(ag:List Env)(s:Shared)(H:Hp)(E:XK):Cx where
 prog:=P
 w:=w
 K:=K
 mg:=mg
 base:=af
 A:=A.deeper (envOfC qual ai s.heap.objs.size f cd)
 N:=N
 s₀:=s
 H₀:=H
 env:=envOfC qual ai s.heap.objs.size f cd
 outer:=ag
 stack:=envOfC qual ai s.heap.objs.size f cd::ag
 ex:=[]
 calm:=true
 fn:=fun _=>true
 pn:=[]
 xe:=fun e s'=>wpAny (model P w) (A.deeper (envOfC qual ai s.heap.objs.size f cd)) (leaving (envOfC qual ai s.heap.objs.size f cd) e) (fun _ s''=>CX ag H s E e s'') (fun e' s''=>CX ag H s E e' s'') s'
theorem a3J{sc:Scope}{n:Nat}(h:sc.names.lookup x=some .cell):∃c,(cellsFrom n sc.names []).lookup x=some c:=by
 have q:=W.cellsFrom_some sc.names n [] (.inl h)
 exact Option.isSome_iff_exists.mp q
theorem a4B{cd:Value}{ag:List Env}{s1:Shared}{E:XK}
 (S:bD N ps ai)(hd:A.handled=none)(e0:jX P w K mg af A ag s H)(hl:vs.length=ps.length)(r:aX vs us)
 (x:InCallC s s.heap.objs.size (bindL (envOfC qual ai s.heap.objs.size f cd).kindOf (ps.zip us) fun _=>none) (cellsFrom (s.heap.objs.size+ 1) ai.names []) (bindC (envOfC qual ai s.heap.objs.size f cd).kindOf (ps.zip us) fun _=>none) s1):
 aD (eJ CX P w K mg af N qual ai f cd A ag s H E) [] (start N vs) H s1:=by
 have hpl:ps.length<=N.length:=by have:=congrArg List.length S.pre;rw[List.length_take]at this;omega
 obtain⟨h1,tk,rfl,hk⟩:=x.done
 have noA:∀b:Addr,b∉(eJ CX P w K mg af N qual ai f cd A ag s H E).ex:=fun b z=>absurd (show b∈([]:List Addr) from z) (by simp)
 refine⟨⟨e0.mod,S.kind,rfl,rfl,Nat.le_refl _,fun y z c h1 h2=> ?_,fun y hy=> ?_,fun y c _ h=> ?_,fun _=>hd,Around.frames_deeper e0.frames,.inr ⟨rfl,rfl⟩,fun b z=>absurd z (noA b),e0.bs,e0.bsz,fun b _ _=>noA b,fun b z=>absurd z (noA b),e0.funs,e0.frf⟩,
  rfl,e0.bare,Un.kept hk,⟨_,x.toInCall.ns,fun i y v h1 h2 h3=> ?_⟩,fun y c h=>⟨_,x.cell y c h⟩,e0.hok.fresh (Nat.le_refl _),fun y c h=> ?_,fun p hp=>absurd (show p∈([]:List (Addr×Obj)) from hp) (by simp),e0.hok.kept hk,?_⟩
 ·exact name_of_addr x.apart (PySem.mem_of_lookup h1) (PySem.mem_of_lookup h2)
 ·have hy:ai.names.lookup y=some .cell\/ ai.names.lookup y=some .free:=hy
  rcases hy with hy|hy
  ·exact a3J hy
  ·exact absurd rfl (S.nofree _ (PySem.mem_of_lookup hy))
 ·exact Nat.le_of_lt (x.above y c (PySem.mem_of_lookup h))
 ·have hi:i<vs.length:=by
   unfold start at h2
   by_cases hi:i<vs.length
   ·exact hi
   ·rw[List.getElem?_append_right (by simpa using hi)]at h2
    rw[List.getElem?_replicate]at h2
    split at h2<;>cases h2
  have ha:vs[i]?=some v:=by
   unfold start at h2
   rw[List.getElem?_append_left (by simpa using hi),List.getElem?_map]at h2
   cases e:vs[i]? with
   |none=>rw[e]at h2;cases h2
   |some a=>rw[e]at h2;cases h2;rfl
  obtain⟨u,hu,rv⟩:=r.get ha
  have hp:ps[i]?=some y:=by
   rw[<- S.pre,List.getElem?_take_of_lt (by omega)];exact h1
  have ndP:ps.Nodup:=by rw[<- S.pre];exact S.nd.sublist (List.take_sublist _ _)
  refine⟨u,rv,?_⟩
  rcases S.par y (List.mem_of_getElem? hp)with k|k
  ·exact .inl ⟨k,a2g ndP hp hu k⟩
  ·obtain⟨c,e⟩:=a3J (n:=s.heap.objs.size+ 1) k
   refine .inr ⟨.inl k,c,e,?_⟩
   have q:=x.cell y c e
   rw[a20 ndP hp hu (by show ai.names.lookup y≠_;rw[k];decide)]at q
   exact q
 ·exact e0.hok.fresh (Nat.le_of_lt (x.above y c (PySem.mem_of_lookup h)))
 ·unfold start
  show _=N.length
  rw[List.length_append,List.length_map,List.length_replicate]
  omega
theorem a0C{k:Nat}{name:Str}{body:List Stmt}{dV kV:Value}
 {osl:Array (Option Value)}(lk:K.lookup f=some ⟨oc,od,.func (W.fnOf name qual params body ai dV kV doc pm an ah ct),osl⟩)(hcd:W.codeIn K ah qual=true)(S:bD N ps ai)
 (len:∀vs H Q E,sp vs H Q E->vs.length=ps.length)
 (hbody:∀(A:Around) (ag:List Env) (s:Shared) (H:Hp) (vs:List V) (Q:VK) (E:XK),bT k (A.deeper (envOfC qual ai s.heap.objs.size f ah))->sp vs H Q E->
  ∃t,eS (eJ CX P w K mg af N qual ai f ah A ag s H E) body t/\t {nx:=fun _ H'=>Q .non H',rt:=Q} (start N vs) H):
 fA P w K mg af CX (k+ 1) f (W.fnOf name qual params body ai dV kV doc pm an ah ct) ps sp:=by
 refine⟨len,fun A ag s H args us vs Q E hr e0 hb r hsp=> ?_⟩
 have hl:=len _ _ _ _ hsp
 have KX:K.In s.heap:=e0.mod.kin.keeps fun b o e=>(e0.bs b o e).1
 have lim:s.heap.NoLimit:=e0.mod.nolimit.keeps fun b o e=>(e0.bs b o e).1
 have hkind:∀y∈ps.zip us,ai.names.lookup y.1=some .local\/ (ai.names.lookup y.1=some .cell/\((cellsFrom (s.heap.objs.size+ 1) ai.names []).lookup y.1).isSome=true):=fun⟨n,v⟩ hy=>by
  rcases S.par n (List.of_mem_zip hy).1 with q|q
  ·exact .inl q
  ·exact .inr ⟨q,W.cellsFrom_some _ _ _ (.inl q)⟩
 refine codeAny_call_function hr.depth (KX _ _ lk) rfl S.co S.gen rfl (W.codeRec_of KX hcd) (hb _ _ _ _ ?_)
 refine wpAny_newFunctionEnv_cells S.kind hkind fun env he s1 x=> ?_
 subst he
 refine⟨lim.keeps x.toInCall.keep,codeAny_func ?_⟩
 obtain⟨t,ht,hq⟩:=hbody A ag s H vs Q E (hr.deeper _) hsp
 have I:aD (eJ CX P w K mg af N qual ai f ah A ag s H E) [] (start N vs) H s1:=a4B S hr.hd e0 hl r x
 refine wpAny_mono (ht [] s1 (start N vs) H _ I hq) (fun fl s' hs=> ?_) fun e s' hs=>hs
 have fin:∀{σ':St} {H':Hp} {v:V} {u:Value},aD (eJ CX P w K mg af N qual ai f ah A ag s H E) [] σ' H' s'->bA v u->Q v H'->CE ag P w H s Q u s':=
  fun{σ' H' v u} J rv q=>⟨v,H',J.os,J.bare,J.base,J.hok,rv,q⟩
 cases fl with
 |ret u=>
  obtain⟨v,σ',H',J,rv,q⟩:=hs
  exact fin J rv q
 |next=>
  obtain⟨σ',H',J,q⟩:=hs
  exact fin (v:=V.non) (u:=Value.none) J rfl q
 |brk=>
  obtain⟨_,_,_,q⟩:=hs
  exact False.elim q
 |cont=>
  obtain⟨_,_,_,q⟩:=hs
  exact False.elim q
section
variable{p pos:Pos}{t:TA}{id T:String}{r:List V->Hp->VK->Prop}
def tCB(r:List V->Hp->VK->Prop)(t:TA):TE:=fun σ H Q=>t σ H fun vs H1=>r vs H1 Q
theorem cS(hc:jA X (.builtin id) r)(hg:Gl X x)(hm:X.mg x=none)(hv:bootBuiltins x=some (.builtin id))(ha:PA X (e::es) t)(hn:x≠ "__name__":=by decide)(hdb:(x==("__debug__":Str))=false:=by decide)
 (he:starEach (e::es) X.env=(false,eval e X.env)::starEach es X.env:=by rfl)(hpl:(backTo pos (starEach es X.env)).any (·.1)=false:=by rfl):PE X (.Call (.Name x p) (e::es) [] pos) (tCB r t):=by
 intro ae s σ H Q I h
 refine wpAny_Call_Name_kw (nE I hg hm hv ?_ hn hdb)
 exact PyProof.Rows.callWith_builtin1 (aT (ha pos ae s σ H _ I h) fun us s1 ⟨vs,H1,I1,r1,q1⟩=>hc ae s1 σ H1 vs us Q I1 r1 q1) he hpl
theorem nK(hc:jA X (.type T) r)(hg:Gl X x)(hm:X.mg x=none)(hv:bootBuiltins x=some (.type T))(ha:PA X (e::es) t)(hn:x≠ "__name__":=by decide)(hdb:(x==("__debug__":Str))=false:=by decide)
 (he:starEach (e::es) X.env=(false,eval e X.env)::starEach es X.env:=by rfl)(hpl:(backTo pos (starEach es X.env)).any (·.1)=false:=by rfl):PE X (.Call (.Name x p) (e::es) [] pos) (tCB r t):=by
 intro ae s σ H Q I h
 refine wpAny_Call_Name_kw (nE I hg hm hv ?_ hn hdb)
 exact PyProof.Rows.callWith_type1 (aT (ha pos ae s σ H _ I h) fun us s1 ⟨vs,H1,I1,r1,q1⟩=>hc ae s1 σ H1 vs us Q I1 r1 q1) he hpl
end
end L2
variable{xs vs ys cs cs' csh:List V}{H H' H1 H2:Hp}{o:HO}{X:Cx}{ta tb tc te tl:TE}{σ:St}{y:V}{g:TG}{r:R2}{ns ns':List (Option V×List Int)}{CX:eY}{sp spl:Sp}{kvs mk:List (aB×V)}{LL:Hp->Prop}{RG:Addr->Sp->Prop}
namespace HT
open PySem PyProof.Rows
noncomputable def lexLt:List Int->List Int->Bool
 | [],[]=>false
 | [],_::_=>true
 |_::_,[]=>false
 |x::xs,y::ys=>if x=y then lexLt xs ys else decide (x<y)
theorem lexLt_cons(x y:Int)(xs ys:List Int):lexLt (x::xs) (y::ys)=if x=y then lexLt xs ys else decide (x<y):=rfl
theorem lexLt_nil_nil:lexLt [] []=false:=rfl
theorem lexLt_nil_cons(y:Int)(ys:List Int):lexLt [] (y::ys)=true:=rfl
theorem lexLt_cons_nil(x:Int)(xs:List Int):lexLt (x::xs) []=false:=rfl
theorem eqAt_int(A:Around)(s:Shared)(a:Int)(t:Tok)(c:Int)(u:Tok):∃e,SeqAt.EqAt A s (.int a t) (.int c u) e/\(e=true↔a=c):=
 ⟨(a==c),SeqAt.EqAt.int_int a t c u,by simp⟩
theorem rcLt_int(A:Around)(s:Shared)(a:Int)(t:Tok)(c:Int)(u:Tok)(prog:Program)(w:World)(E:Value->Shared->Prop)(Q:Value->Shared->Prop)(h:Q (.bool (decide (a<c))) s):
 wpAny (model prog w) A (richCompare .Lt (.int a t) (.int c u)) Q E s:=
 (PyProof.Rows.lt_int h:wpAny (model prog w) A (compareOp .Lt (.int a t) (.int c u)) Q E s)
section
noncomputable def sIx(n d:Nat):Option Int->Nat
 |none=>d
 |some v=>if v<0 then(v+ (n:Int)).toNat else min v.toNat n
end
end HT
namespace L2
open PySem PySem.Spec PyProof.Rows
abbrev TO:=St->Hp->(Option Int->Hp->Prop)->Prop
theorem a6z{ns:List Int}:∀{us:List Value},aX (ns.map V.int) us->IntsAre us ns:=by
 induction ns with
 |nil=>intro us r;rw[List.map_nil]at r;cases r;exact .nil
 |cons n ns ih=>
  intro us r
  rw[List.map_cons]at r
  cases r with
  |cons r1 r2=>
   obtain⟨t,e⟩:=r1
   subst e
   exact .cons n t (ih r2)
section
variable{lo hi:Option Expr}{tl th:TO}{pos p2:Pos}
def qA(X:Cx)(r:V->Option Int->Option Int->Hp->VK->Prop):Prop:=
 ∀(ae:List (Addr×Obj)) (s:Shared) (σ:St) (H:Hp) (x:V) (v vl vu:Value) (lo hi:Option Int) (sl:Addr) (Q:VK),aD X ae σ H s->bA x v->s.heap.IsSliceOf sl vl vu .none->IsPart vl lo->IsPart vu hi->r x lo hi H Q->
  ∃T id,typeLookup (.type T) "__getitem__"=pure (some (.builtin id))/\s.TypeIs v T/\wpAny (model X.prog X.w) X.A (getItem v (.ref sl)) (EP X ae σ Q) X.xe s
theorem qA.or{r r':V->Option Int->Option Int->Hp->VK->Prop}(h:qA X r)(h':qA X r'):qA X (fun x lo hi H Q=>r x lo hi H Q\/ r' x lo hi H Q):=by
 intro ae s σ H x v vl vu lo hi sl Q I rx hs pl pu q
 rcases q with q|q
 ·exact h ae s σ H x v vl vu lo hi sl Q I rx hs pl pu q
 ·exact h' ae s σ H x v vl vu lo hi sl Q I rx hs pl pu q
noncomputable def vM (xs:List V) (lo hi:Option Int):List V:=(xs.drop (HT.sIx xs.length 0 lo)).take (HT.sIx xs.length xs.length hi- HT.sIx xs.length 0 lo)
theorem a4N(xs:List V)(lo hi:Option Int):(vM xs lo hi).length<=xs.length:=by
 unfold vM
 rw[List.length_take,List.length_drop]
 omega
end
def iI(n:Nat)(i:Int):Option Nat:=if 0<=i then(if i<n then some i.toNat else none) else if-(n:Int)<=i then some (i+ n).toNat else none
def cQ{α:Type}(xs:List α)(i:Int):Option α:=(iI xs.length i).bind fun j=>xs[j]?
theorem a27{n:Nat}{i:Int}(h:iI n i=some j):seqIndex? i n=some j/\j<n/\ -(n:Int)<=i/\i<n:=by
 unfold iI at h
 by_cases h0:0<=i
 ·rw[if_pos h0]at h
  by_cases h1:i<n
  ·rw[if_pos h1]at h
   have e:i.toNat=j:=Option.some.inj h
   exact⟨by rw[seqIndex_of h0 h1,e],by omega,by omega,h1⟩
  ·rw[if_neg h1]at h;cases h
 ·rw[if_neg h0]at h
  by_cases h1: -(n:Int)<=i
  ·rw[if_pos h1]at h
   have e:(i+ n).toNat=j:=Option.some.inj h
   exact⟨by rw[seqIndex_neg (by omega) h1,e],by omega,h1,by omega⟩
  ·rw[if_neg h1]at h;cases h
theorem zK{α:Type}{xs:List α}{i:Int}{v:α}(h:cQ xs i=some v):∃j,seqIndex? i xs.length=some j/\xs[j]?=some v/\j<xs.length/\ -(xs.length:Int)<=i/\i<xs.length:=by
 unfold cQ at h
 cases e:iI xs.length i with
 |none=>rw[e]at h;cases h
 |some j=>
  rw[e]at h
  obtain⟨h1,h2,h3,h4⟩:=a27 e
  exact⟨j,h1,h,h2,h3,h4⟩
theorem sC{α:Type}{xs:List α}{v:α}(h:xs[j]?=some v):cQ xs (j:Int)=some v:=by
 have hj:j<xs.length:=(List.getElem?_eq_some_iff.mp h).1
 have e:iI xs.length (j:Int)=some j:=by
  unfold iI
  rw[if_pos (by omega),if_pos (by omega)];simp
 unfold cQ;rw[e];exact h
theorem zF{α:Type}(xs:List α)(v:α):cQ (xs++ [v]) (-1)=some v:=by
 have hl:(xs++ [v]).length=xs.length+ 1:=by simp
 have e:iI (xs++ [v]).length (-1)=some xs.length:=by
  unfold iI
  rw[hl,if_neg (by decide),if_pos (by omega)]
  congr 1
  omega
 unfold cQ
 rw[e]
 show(xs++ [v])[xs.length]?=some v
 simp
def a5b(b:Expr):Prop:=∀o i,subscripted b false o i=operate [o,i] (getItem o i)
def vG(X:Cx)(r:R2):Prop:=
 ∀(value slice:Expr) (ae:List (Addr×Obj)) (s:Shared) (σ:St) (H:Hp) (x y:V) (v u:Value) (Q:VK),aD X ae σ H s->bA x v->bA y u->r x y H Q->
  subscripted slice false v u=operate [v,u] (getItem v u)->wpAny (model X.prog X.w) X.A (subscriptTail value slice v u) (EP X ae σ Q) X.xe s
def MtR(X:Cx)(id:String)(r:V->List V->Hp->VK->Prop):Prop:=
 ∀(ae:List (Addr×Obj)) (s:Shared) (σ:St) (H:Hp) (x:V) (xs:List V) (v:Value) (us:List Value) (Q:VK),aD X ae σ H s->bA x v->aX xs us->r x xs H Q->
  wpAny (model X.prog X.w) X.A (call (.builtin id) (v::us)) (EP X ae σ Q) X.xe s
section
variable{a b:Expr}{pos:Pos}
theorem dA(hr:vG X r)(ha:PE X a ta)(hb:PE X b tb)(hs:a5b b):PE X (.Subscript a b pos) (qW r ta tb):=by
 intro ae s σ H Q I h
 exact Subscript_ (xI ha hb I h fun v u s2 x y H2 I2 rx ry q=>hr a b ae s2 σ H2 x y v u Q I2 rx ry q (hs _ _))
noncomputable def rIxL (K:Fg):R2:=fun x y H Q=>∃p xs i v,x= .ref p/\y= .int i/\aM K H p xs/\cQ xs i=some v/\Q v H
noncomputable def rIxT (K:Fg):R2:=fun x y H Q=>∃p xs i v,x= .ref p/\y= .int i/\cF K H p xs/\cQ xs i=some v/\Q v H
noncomputable def rIxS:R2:=fun x y H Q=>∃z i c,x= .str z/\y= .int i/\z.length<=sizeLine/\cQ z.cps.toList i=some c/\Q (.str ⟨#[c]⟩) H
theorem iY:vG X (rIxL X.K):=by
 intro value slice ae s σ H x y v u Q I rx ry h hs
 obtain⟨p,xs,i,z,rfl,rfl,hq,he,q⟩:=h
 cases rx
 obtain⟨t,rfl⟩:=ry
 obtain⟨its,r,pl,hz⟩:=I.list hq
 obtain⟨j,h1,h2,h3,h4,h5⟩:=zK he
 obtain⟨w,ew,rw'⟩:=r.get h2
 have hl:=r.length
 have hn:=pM
 have fin:EP X ae σ Q w s:=⟨z,H,I,rw',q⟩
 by_cases h0:0<=i
 ·have hj:i.toNat=j:=by
   rw[seqIndex_of h0 h5]at h1
   exact Option.some.inj h1
  exact item_listR pl.isList h0 (by omega) (by rw[hj];simpa using ew) fin hs
 ·have hj:(i+ (its.toArray.size:Int)).toNat=j:=by
   rw[seqIndex_neg (by omega) h4]at h1
   rw[List.size_toArray,<- hl]
   exact Option.some.inj h1
  exact subscriptTail_builtinR (x:=w) pl.isList.typeIs slot_list_getitem.lookup
   (wpAny_getItem_list_neg (Q:=fun r s'=>r=w/\EP X ae σ Q r s') pl.isList (by omega) (by rw[List.size_toArray]<;>omega) (by omega) (by rw[hj];simpa using ew) ⟨rfl,fin⟩) hs
theorem fG:vG X (rIxT X.K):=by
 intro value slice ae s σ H x y v u Q I rx ry h hs
 obtain⟨p,xs,i,z,rfl,rfl,hq,he,q⟩:=h
 cases rx
 obtain⟨t,rfl⟩:=ry
 obtain⟨its,r,pl,hz⟩:=I.tuple hq
 obtain⟨j,h1,h2,h3,h4,h5⟩:=zK he
 obtain⟨w,ew,rw'⟩:=r.get h2
 have hl:=r.length
 have hn:=pM
 have fin:EP X ae σ Q w s:=⟨z,H,I,rw',q⟩
 exact subscriptTail_builtinR (x:=w) pl.typeIs slot_tuple_getitem.lookup
  (getItem_tuple (j:=j) (Q:=fun r s'=>r=w/\EP X ae σ Q r s') pl (by omega) (by omega) (by rw[List.size_toArray,<- hl];exact h1) (by simpa using ew) ⟨rfl,fin⟩) hs
theorem a8H:vG X rIxS:=by
 intro value slice ae s σ H x y v u Q I rx ry h hs
 obtain⟨z,i,c,rfl,rfl,hz,he,q⟩:=h
 obtain⟨t,rfl⟩:=rx
 obtain⟨t',rfl⟩:=ry
 obtain⟨j,h1,h2,h3,h4,h5⟩:=zK he
 have hl:z.cps.toList.length=z.length:=by simp[Str.length]
 rw[hl]at h1 h4 h5
 have hn:=pM
 exact tail_any (typeIs_str s z t) slot_str_getitem.lookup (getItem_str (c:=c) (by
  have e1:decide (i< -(2^ 63:Int))=false:=decide_eq_false (by omega)
  have e2:decide (i>=2^ 63)=false:=decide_eq_false (by omega)
  rw[e1,e2,Bool.or_false]) (by rw[h1];simpa using h2) ⟨.str ⟨#[c]⟩,H,I.tok _,⟨_,rfl⟩,q⟩) hs
theorem a7K(its:List Value)(n j:Nat)(u:Value):Obj.mapSeq (·.setIfInBounds j u) {cls:=.type "list",data:=.seq its.toArray n}={cls:=.type "list",data:=.seq (its.set j u).toArray n}:=by
 simp[Obj.mapSeq]
theorem aD.lst{p:Addr}(I:aD X ae σ H s)(h:H p=some (.lst xs)):
 ∃(its:List Value) (n:Nat),aX xs its/\s.heap.get? p=some {cls:=.type "list",data:=.seq its.toArray n} /\xs.length<=sizeLine:=by
 obtain⟨z,its,n,r,e⟩:=I.hok p _ h
 exact⟨its,n,r,e,z⟩
theorem aD.lstUpd{p:Addr}{its':List Value}{n n':Nat}{f:Obj->Obj}(I:aD X ae σ H s)(h:H p=some (.lst xs))
 (ho:s.heap.get? p=some {cls:=.type "list",data:=.seq its.toArray n})(hf:f {cls:=.type "list",data:=.seq its.toArray n}={cls:=.type "list",data:=.seq its'.toArray n'})(r:aX ys its')(hz:ys.length<=sizeLine)(t:Nat):
 aD X ae σ (upd H p (.lst ys)) {s with heap:=s.heap.update p f,toks:=t}:=by
 have e:(s.heap.update p f).get? p=some {cls:=.type "list",data:=.seq its'.toArray n'}:=by
  rw[Heap.get?_update_self f ho (by rw[hf]<;>rfl),hf]
 refine I.write (x:=p) (e:=p) (by rw[h];trivial) (.inl rfl) (fun b u hb q=>(Heap.get?_update_other _ _ (Ne.symm hb)).trans q) ⟨_,e⟩ ?_
 exact⟨hz,its',n',r,e⟩
def a6I:V->V->V->Hp->(Hp->Prop)->Prop:=fun o i v H Q=>∃p xs k j,o= .ref p/\i= .int k/\H p=some (.lst xs)/\iI xs.length k=some j/\Q (upd H p (.lst (xs.set j v)))
theorem zB:PSet X a6I:=by
 intro ae s σ H o i v ov iv u Q I ro ri rv h
 obtain⟨p,xs,k,j,rfl,rfl,hp,hj,q⟩:=h
 cases ro
 obtain⟨t,rfl⟩:=ri
 obtain⟨its,n,r,ho,hz⟩:=I.lst hp
 obtain⟨h1,h2,h3,h4⟩:=a27 hj
 have hl:=r.length
 have hn:=pM
 have I':aD X ae σ (upd H p (.lst (xs.set j v))) {s with heap:=s.heap.update p (Obj.mapSeq (·.setIfInBounds j u))}:=
  I.lstUpd hp ho (a7K its n j u) (r.set rv j) (by rw[List.length_set];exact hz) s.toks
 by_cases h0:0<=k
 ·have hk:k.toNat=j:=by
   rw[seqIndex_of h0 h4]at h1
   exact Option.some.inj h1
  exact W.ki_setAt ho h0 (by omega) (by rw[List.size_toArray,<- hl];exact h4) (by rw[hk];exact⟨_,I',q⟩)
 ·have hk:(k+ (its.toArray.size:Int)).toNat=j:=by
   rw[seqIndex_neg (by omega) h3]at h1
   rw[List.size_toArray,<- hl]
   exact Option.some.inj h1
  exact W.ki_setBack ho (by omega) (by rw[List.size_toArray,<- hl];exact h3) (by omega) (by rw[hk];exact⟨_,I',q⟩)
theorem a6Q(lo hi:Option Int)(n:Nat):(sliceBounds lo hi none n).1=((HT.sIx n 0 lo:Nat):Int)/\(sliceBounds lo hi none n).2.1=((HT.sIx n n hi:Nat):Int)/\(sliceBounds lo hi none n).2.2=1:=by
 refine⟨?_,?_,rfl⟩
 ·cases lo with
  |none=>simp[sliceBounds,HT.sIx]
  |some i=>
   simp only[sliceBounds,HT.sIx,Option.getD_none,show(1:Int)>0 by decide,if_true]
   by_cases h:i<0
   ·simp only[h,if_true]<;>omega
   ·simp only[h,if_false]<;>omega
 ·cases hi with
  |none=>simp[sliceBounds,HT.sIx]
  |some i=>
   simp only[sliceBounds,HT.sIx,Option.getD_none,show(1:Int)>0 by decide,if_true]
   by_cases h:i<0
   ·simp only[h,if_true]<;>omega
   ·simp only[h,if_false]<;>omega
theorem a87(its:List Value)(lo hi:Option Int):slicePick its.toArray lo hi none=((its.drop (HT.sIx its.length 0 lo)).take (HT.sIx its.length its.length hi- HT.sIx its.length 0 lo)).toArray:=by
 obtain⟨h1,h2,h3⟩:=a6Q lo hi its.toArray.size
 unfold slicePick
 rw[h1,h2,h3]
 simp only[sliceRange_one,pick_run,List.size_toArray]<;>rfl
def rSlL(K:Fg):V->Option Int->Option Int->Hp->VK->Prop:=fun x lo hi H Q=>∃a xs,x= .ref a/\aM K H a xs/\∀p,H p=none->Q (.ref p) (upd H p (.lst (vM xs lo hi)))
theorem sl_list:qA X (rSlL X.K):=by
 intro ae s σ H x v vl vu lo hi sl Q I rx hs pl pu h
 obtain⟨a,xs,rfl,hx,q⟩:=h
 cases rx
 obtain⟨its,r,ht,hz⟩:=I.list hx
 have hlen:=r.length
 refine⟨"list",_,slot_list_getitem.lookup,ht.isList.typeIs,?_⟩
 refine wpAny_getItem_list_slice ht.isList hs pl pu .none (by simp) ?_ (by rw[List.size_toArray]<;>omega)
 rw[a87,<- hlen]
 refine⟨.ref s.heap.objs.size,_,I.laid (t':=s.toks) (o:=.lst (vM xs lo hi)) (fun b ob q=>Heap.get?_push_of_some _ q) (Nat.le_refl _) ?_,rfl,q _ (I.hok.fresh (Nat.le_refl _))⟩
 exact⟨Nat.le_trans (a4N xs lo hi) hz,_,0,(r.drop (HT.sIx xs.length 0 lo)).take (HT.sIx xs.length xs.length hi- HT.sIx xs.length 0 lo),Heap.get?_push_size _ rfl⟩
noncomputable def lX:V->Bool
 | .non=>true
 | .bl _=>true
 | .int _=>true
 | .str _=>true
 |_=>false
noncomputable def kX:V->V->Bool
 | .non,.non=>true
 | .bl a,.bl b=>a==b
 | .bl a,.int b=>(if a then 1 else 0)==b
 | .int a,.bl b=>a==(if b then 1 else 0)
 | .int a,.int b=>a==b
 | .str a,.str b=>a==b
 |_,_=>false
theorem a7O{x:V}{v:Value}(ry:bA y u)(rx:bA x v)(fy:lX y=true)(fx:lX x=true):SeqAt.EqAt A s u v (kX y x):=by
 cases y with
 |non=>
  cases ry
  cases x with
  |non=>cases rx;exact SeqAt.EqAt.same _
  |bl b=>cases rx;exact SeqAt.EqAt.none_bool b
  |int b=>obtain⟨t,rfl⟩:=rx;exact SeqAt.EqAt.none_int b t
  |str b=>obtain⟨t,rfl⟩:=rx;exact SeqAt.EqAt.none_str b t
  |_=>exact absurd (show false=true from fx) Bool.false_ne_true
 |bl a=>
  cases ry
  cases x with
  |non=>cases rx;exact SeqAt.EqAt.bool_none a
  |bl b=>cases rx;exact SeqAt.EqAt.bool_bool a b
  |int b=>obtain⟨t,rfl⟩:=rx;exact SeqAt.EqAt.bool_int a b t
  |str b=>obtain⟨t,rfl⟩:=rx;exact SeqAt.EqAt.bool_str a b t
  |_=>exact absurd (show false=true from fx) Bool.false_ne_true
 |int a=>
  obtain⟨t',rfl⟩:=ry
  cases x with
  |non=>cases rx;exact SeqAt.EqAt.int_none a t'
  |bl b=>cases rx;exact SeqAt.EqAt.int_bool a t' b
  |int b=>obtain⟨t,rfl⟩:=rx;exact SeqAt.EqAt.int_int a t' b t
  |str b=>obtain⟨t,rfl⟩:=rx;exact SeqAt.EqAt.int_str a t' b t
  |_=>exact absurd (show false=true from fx) Bool.false_ne_true
 |str a=>
  obtain⟨t',rfl⟩:=ry
  cases x with
  |non=>cases rx;exact SeqAt.EqAt.str_none a t'
  |bl b=>cases rx;exact SeqAt.EqAt.str_bool a t' b
  |int b=>obtain⟨t,rfl⟩:=rx;exact SeqAt.EqAt.str_int a t' b t
  |str b=>obtain⟨t,rfl⟩:=rx;exact SeqAt.EqAt.str_str a t' b t
  |_=>exact absurd (show false=true from fx) Bool.false_ne_true
 |_=>exact absurd (show false=true from fy) Bool.false_ne_true
noncomputable def gR (x:V) (u:Value):Bool:=match u with
 | .none=>kX .non x
 | .bool b=>kX (.bl b) x
 | .int i _=>kX (.int i) x
 | .str z _=>kX (.str z) x
 |_=>false
theorem a3Y{x:V}(r:bA y u)(f:lX y=true):gR x u=kX y x:=by
 cases y with
 |non=>cases r;rfl
 |bl b=>cases r;rfl
 |int i=>obtain⟨t,rfl⟩:=r;rfl
 |str z=>obtain⟨t,rfl⟩:=r;rfl
 |_=>exact absurd (show false=true from f) Bool.false_ne_true
theorem qC{x:V}:∀{xs:List V} {us:List Value},aX xs us->xs.all lX=true->us.any (gR x)=xs.any fun y=>kX y x
 |_,_,.nil,_=>rfl
 |y::xs,u::us,.cons r t,f=>by
  rw[List.all_cons,Bool.and_eq_true]at f
  rw[List.any_cons,List.any_cons,a3Y r f.1,qC t f.2]
theorem qZ{A:Around}{s:Shared}{x:V}{v:Value}(rx:bA x v)(fx:lX x=true):∀{xs:List V} {us:List Value},aX xs us->xs.all lX=true->∀u∈us,SeqAt.EqAt A s u v (gR x u)
 |_,_,.nil,_=>fun u hu=>by cases hu
 |y::xs,u::us,.cons r t,f=>fun u' hu=>by
  rw[List.all_cons,Bool.and_eq_true]at f
  rcases List.mem_cons.mp hu with rfl|hu
  ·rw[a3Y r f.1];exact a7O r rx f.1 fx
  ·exact qZ rx fx t f.2 u' hu
noncomputable def iH (x:V) (xs:List V):Bool:=xs.any fun y=>kX y x
noncomputable def rIn (K:Fg) (neg:Bool):R2:=fun x y H Q=>∃p xs,y= .ref p/\(aM K H p xs\/ cF K H p xs)/\lX x=true/\xs.all lX=true/\Q (.bl (if neg then !iH x xs else iH x xs)) H
theorem yW:dE X (compareOp .In) (rIn X.K false):=by
 intro ae s σ H x y v u Q I rx ry h
 obtain⟨p,xs,rfl,hq,fx,fs,q⟩:=h
 cases ry
 rcases hq with hq|hq
 ·obtain⟨its,r,pl,hz⟩:=I.list hq
  refine SeqAt.in_listAt (gR x) pl.isList (fun w hw=>qZ rx fx r fs w (by simpa using hw)) ⟨.bl _,H,I,rfl,?_⟩
  rw[show its.toArray.any (gR x)=its.any (gR x)by simp,qC r fs]
  exact q
 ·obtain⟨its,r,pl,hz⟩:=I.tuple hq
  refine SeqAt.in_tupleAt (gR x) pl (fun w hw=>qZ rx fx r fs w (by simpa using hw)) ⟨.bl _,H,I,rfl,?_⟩
  rw[show its.toArray.any (gR x)=its.any (gR x)by simp,qC r fs]
  exact q
theorem zG:dE X (compareOp .NotIn) (rIn X.K true):=by
 intro ae s σ H x y v u Q I rx ry h
 obtain⟨p,xs,rfl,hq,fx,fs,q⟩:=h
 cases ry
 rcases hq with hq|hq
 ·obtain⟨its,r,pl,hz⟩:=I.list hq
  refine SeqAt.notIn_listAt (gR x) pl.isList (fun w hw=>qZ rx fx r fs w (by simpa using hw)) ⟨.bl _,H,I,rfl,?_⟩
  rw[show its.toArray.any (gR x)=its.any (gR x)by simp,qC r fs]
  exact q
 ·obtain⟨its,r,pl,hz⟩:=I.tuple hq
  refine SeqAt.notIn_tupleAt (gR x) pl (fun w hw=>qZ rx fx r fs w (by simpa using hw)) ⟨.bl _,H,I,rfl,?_⟩
  rw[show its.toArray.any (gR x)=its.any (gR x)by simp,qC r fs]
  exact q
theorem rS:jA X (.type "list") (fun xs H Q=>∃p ys,xs= [.ref p] /\(aM X.K H p ys\/ cF X.K H p ys)/\∀l,H l=none->Q (.ref l) (upd H l (.lst ys))):=by
 intro ae s σ H xs us Q I r h
 obtain⟨p,ys,rfl,hq,q⟩:=h
 obtain⟨u,rfl,rx⟩:=pX r
 cases rx
 have fin:∀(its:List Value),aX ys its->ys.length<=sizeLine->∀(h':Heap) (c':Nat),(∀b o',s.heap.get? b=some o'->h'.get? b=some o')->
  h'.get? s.heap.objs.size=some {cls:=.type "list",dict:=none,data:=.seq its.toArray c',slots:= #[]} ->EP X ae σ Q (.ref s.heap.objs.size) {s with heap:=h'}:=fun its r' hz h' c' kp e=>
  ⟨.ref s.heap.objs.size,_,I.laid (t':=s.toks) kp (Nat.le_refl _) (show cX X.prog X.w _ h' _ (.lst ys) from⟨hz,its,c',r',e⟩),rfl,q _ (I.hok.fresh (Nat.le_refl _))⟩
 rcases hq with hq|hq
 ·obtain⟨its,r',pl,hz⟩:=I.list hq
  have hlen:=r'.length
  obtain⟨o,ho,hc,n,hd⟩:=pl.isList
  exact call_list_seq p (.inl rfl) ho hc hd (fun h' c' kp e=>fin its r' hz h' c' kp e) (by simp only[List.size_toArray]<;>omega)
 ·obtain⟨its,r',pl,hz⟩:=I.tuple hq
  have hlen:=r'.length
  obtain⟨o,ho,hc,n,hd⟩:=pl
  exact call_list_seq p (.inr rfl) ho hc hd (fun h' c' kp e=>fin its r' hz h' c' kp e) (by simp only[List.size_toArray]<;>omega)
def zQ(K:Fg)(T:String)(x:V)(H:Hp):Prop:=match x with
 | .str _=>T= "str"
 | .int _=>T= "int"
 | .ref p=>(T= "list" /\∃xs,aM K H p xs)\/ (T= "tuple" /\∃o,K.lookup p=some o/\o.cls= .type "tuple" /\o.dict=none)\/
  (T= "dict" /\((∃kvs,H p=some (.dK kvs))\/ ∃kvs,H p=some (.dT kvs)))\/ (T= "set" /\∃S n,H p=some (.set S n))
 |_=>False
theorem a2h{T:String}{x:V}{v:Value}(I:aD X ae σ H s)(r:bA x v)(ty:zQ X.K T x H):
 s.TypeIs v T/\∀a,v= .ref a->∃ob,s.heap.get? a=some ob/\ob.dict=none:=by
 cases x with
 |str z=>
  obtain⟨t,rfl⟩:=r
  cases (show T= "str" from ty)
  exact⟨typeIs_str s z t,fun _ e=>nomatch e⟩
 |int i=>
  obtain⟨t,rfl⟩:=r
  cases (show T= "int" from ty)
  exact⟨typeIs_int s i t,fun _ e=>nomatch e⟩
 |ref p=>
  cases r
  rcases ty with⟨rfl,xs,hq⟩|⟨rfl,o,hk,hc,hd⟩|⟨rfl,hk⟩|⟨rfl,S,n,hk⟩
  ·obtain⟨its,_,pl,_⟩:=I.list hq
   refine⟨pl.isList.typeIs,fun a e=> ?_⟩
   cases e
   obtain⟨o,n,e,c,hd,_⟩:=pl
   exact⟨o,e,hd⟩
  ·refine⟨⟨o,I.kIn p o hk,hc⟩,fun a e=> ?_⟩
   cases e
   exact⟨o,I.kIn _ o hk,hd⟩
  ·have z:∃o,s.heap.get? p=some o/\o.ExactDict:=by
    rcases hk with⟨kvs,hk⟩|⟨kvs,hk⟩
    ·obtain⟨_,_,_,_,o,_,_,e,ex,_⟩:=I.hok p _ hk
     exact⟨o,e,ex⟩
    ·obtain⟨_,_,_,_,o,_,_,e,ex,_⟩:=I.hok p _ hk
     exact⟨o,e,ex⟩
   obtain⟨o,e,ex⟩:=z
   refine⟨⟨o,e,ex.1⟩,fun a e2=> ?_⟩
   cases e2
   exact⟨o,e,ex.2.1⟩
  ·obtain⟨o,_,_,_,e,ex,_⟩:=I.hok p _ hk
   refine⟨⟨o,e,ex.1⟩,fun a e2=> ?_⟩
   cases e2
   exact⟨o,e,ex.2.1⟩
 |_=>exact False.elim ty
def tBM0(K:Fg)(T:String)(r:V->List V->Hp->VK->Prop)(to:TE):TE:=fun σ H Q=>to σ H fun x H1=>zQ K T x H1/\r x [] H1 Q
def tBM(K:Fg)(T:String)(r:V->List V->Hp->VK->Prop)(to:TE)(t:TA):TE:=fun σ H Q=>to σ H fun x H1=>zQ K T x H1/\t σ H1 fun xs H2=>r x xs H2 Q
variable{o:Expr}{to:TE}{t:TA}{name:Str}{cpos:Pos}{T id:String}{r:V->List V->Hp->VK->Prop}
theorem a0A(pa:PlainAttrs T)(slot:Slot T name id)(hty:typeOf (.builtin id)=pure (.type "method_descriptor"))(hm:MtR X id r)(ho:PE X o to)
 (hbase:attributeBase o name X.env (eval o X.env)=eval o X.env:=by rfl)(hline:(apos.endLine==cpos.line)=true:=by rfl):PE X (.Call (.Attribute o name apos) [] [] cpos) (tBM0 X.K T r to):=by
 intro ae s σ H Q I h
 refine wpAny_Call_method0_late hbase hline (aT (ho ae s σ H _ I h) ?_)
 rintro v s1 ⟨x,H1,I1,r1,ty,q1⟩
 obtain⟨h1,h2⟩:=a2h I1 r1 ty
 exact⟨T,id,pa,slot,hty,h1,h2,Calls.callWith_builtin rfl (PySem.evalArgs_none (hm ae s1 σ H1 x [] v [] Q I1 r1 .nil q1))⟩
theorem kI(pa:PlainAttrs T)(slot:Slot T name id)(hty:typeOf (.builtin id)=pure (.type "method_descriptor"))(hm:MtR X id r)(ho:PE X o to)(ha:PA X (e::es) t)
 (hbase:attributeBase o name X.env (eval o X.env)=eval o X.env:=by rfl)
 (hfew:((backTo cpos (starEach (e::es) X.env)).all (fun x=> !x.1)&&(backToKw cpos (keywordEach [] X.env)).all (fun x=>x.1.isSome)
  &&decide ((e::es).length+ ([]:List Keyword).length+ (if([]:List Keyword).isEmpty then 0 else 1)<30))=true:=by rfl)
 (hline:(apos.endLine==cpos.line)=true:=by rfl)(hs:starEach (e::es) X.env=(false,eval e X.env)::starEach es X.env:=by rfl)(hplain:(backTo cpos (starEach es X.env)).any (·.1)=false:=by rfl):
 PE X (.Call (.Attribute o name apos) (e::es) [] cpos) (tBM X.K T r to t):=by
 intro ae s σ H Q I h
 refine wpAny_Call_method_late hbase hfew hline rfl (aT (ho ae s σ H _ I h) ?_)
 rintro v s1 ⟨x,H1,I1,r1,ty,q1⟩
 obtain⟨h1,h2⟩:=a2h I1 r1 ty
 refine⟨T,id,pa,slot,hty,h1,h2,?_⟩
 have hA:=ha cpos ae s1 σ H1 _ I1 q1
 rw[hs]at hA|-
 refine Calls.callWith_builtin (by show(false||(backTo cpos (starEach es X.env)).any (·.1))=false;rw[hplain]<;>rfl) (Calls.evalArgs_plain ?_)
 exact aT hA fun us s2 ⟨vs,H2,I2,r2,q2⟩=>hm ae s2 σ H2 x vs v us Q I2 r1 r2 q2
end
def yP(X:Cx)(id:String)(r:V->List V->Hp->VK->Prop):Prop:=
 ∀(ae:List (Addr×Obj)) (s:Shared) (σ:St) (H:Hp) (x:V) (xs:List V) (v:Value) (us:List Value) (Q:VK),aD X ae σ H s->bA x v->aX xs us->r x xs H Q->
  wpAny (model X.prog X.w) X.A (call (.builtin id) (v::us)) (EP X ae σ Q) X.xe s
theorem aX.one:∀{x:V} {us:List Value},aX [x] us->∃u,us= [u] /\bA x u
 |_,_,.cons r .nil=>⟨_,rfl,r⟩
theorem aX.two{x:V}(h:aX [x,y] us):∃u v,us= [u,v] /\bA x u/\bA y v:=by
 cases h with
 |cons r h=>cases h with
  |cons q h=>cases h with
   |nil=>exact⟨_,_,rfl,r,q⟩
theorem aX.zero:∀{us:List Value},aX [] us->us= []
 |_,.nil=>rfl
theorem aX.dropLast(h:aX xs us):aX xs.dropLast us.dropLast:=by
 induction h with
 |nil=>exact .nil
 |cons r t ih=>
  cases t with
  |nil=>exact .nil
  |cons q t'=>exact .cons r ih
theorem a6m{α:Type}(l:List α):l.eraseIdx (l.length- 1)=l.dropLast:=by
 induction l with
 |nil=>rfl
 |cons a r ih=>
  cases r with
  |nil=>rfl
  |cons b r=>
   have e:(a::b::r).length- 1=((b::r).length- 1)+ 1:=by
    have h1:(a::b::r).length=r.length+ 2:=rfl
    have h2:(b::r).length=r.length+ 1:=rfl
    omega
   rw[e,List.eraseIdx_cons_succ,ih]
   all_goals rfl
section
variable{zs:List V}
theorem aD.lset{its':List Value}{n:Nat}{f:Array Value->Array Value}{t':Nat}(I:aD X ae σ H s)(hH:H l=some (.lst xs))
 (e:s.heap.get? l=some {cls:=.type "list",data:=.seq its.toArray n})(hf:f its.toArray=its'.toArray)(hv:aX ys its')(hz:ys.length<=sizeLine):
 aD X ae σ (upd H l (.lst ys)) {s with heap:=s.heap.update l (Obj.mapSeq f),toks:=t'}:=by
 have q:=PySem.IsL.update e f
 rw[hf]at q
 refine I.write (x:=l) (e:=l) (by rw[hH];exact trivial) (.inl rfl) (fun b' u hb hu=>(Heap.get?_update_other s.heap (Obj.mapSeq f) (Ne.symm hb)).trans hu) ⟨_,q⟩ ?_
 exact⟨hz,its',_,hv,q⟩
theorem aD.lnew{t':Nat}(I:aD X ae σ H s)(hv:aX ys its)(hz:ys.length<=sizeLine):
 aD X ae σ (upd H s.heap.objs.size (.lst ys)) {s with heap:=s.heap.push {cls:=.type "list",data:=.seq its.toArray},toks:=t'}:=
 I.laid (fun _ _ q=>Heap.get?_push_of_some _ q) (Nat.le_refl _) ⟨hz,its,0,hv,Heap.get?_push_size _ rfl⟩
theorem aD.lstM(I:aD X ae σ H s)(hH:H l=some (.lst xs)):xs.length<=sizeLine/\∃(its:List Value) (n:Nat),aX xs its/\xs.length=its.length/\s.heap.get? l=some {cls:=.type "list",data:=.seq its.toArray n}:=by
 obtain⟨z,its,n,r,e⟩:=I.hok l _ hH
 exact⟨z,its,n,r,r.length,e⟩
end
section
def a72:V->List V->Hp->VK->Prop:=fun x vs H Q=>∃l xs y,x= .ref l/\vs= [y] /\H l=some (.lst xs)/\xs.length<sizeLine/\Q .non (upd H l (.lst (xs++ [y])))
theorem jN:yP X "list.append" a72:=by
 intro ae s σ H x vs v us Q I rx rv h
 obtain⟨l,xs,y,rfl,rfl,hH,hz,q⟩:=h
 cases rx
 obtain⟨u,rfl,ru⟩:=rv.one
 obtain⟨z,its,n,r,hl,e⟩:=I.lstM hH
 refine call_meets F.slot_list_append ⟨_,e,rfl⟩ F.entry_list_append (F.args_list_append_2 _ _) (PySem.list_append l its.toArray n u (by rw[List.size_toArray];omega)) ⟨e,?_⟩
 refine⟨.non,_,I.lset (its':=its++ [u]) hH e (by simp) (r.append (.cons ru .nil)) ?_,rfl,q⟩
 rw[List.length_append,List.length_singleton]
 omega
def rPop:V->List V->Hp->VK->Prop:=fun x vs H Q=>∃l xs y,x= .ref l/\vs= [] /\H l=some (.lst xs)/\xs[xs.length- 1]?=some y/\Q y (upd H l (.lst xs.dropLast))
theorem a7y:yP X "list.pop" rPop:=by
 intro ae s σ H x vs v us Q I rx rv h
 obtain⟨l,xs,y,rfl,rfl,hH,hy,q⟩:=h
 cases rx
 have hus:=rv.zero
 subst hus
 obtain⟨z,its,n,r,hl,e⟩:=I.lstM hH
 obtain⟨u,hu,ru⟩:=r.get hy
 have hy':its.toArray[its.toArray.size- 1]?=some u:=by
  show its.toArray[its.length- 1]?=some u
  rw[<- Array.getElem?_toList,<- hl]
  exact hu
 refine call_meets F.slot_list_pop ⟨_,e,rfl⟩ F.entry_list_pop (F.args_list_pop_1 _) (MeetsSeq.list_pop_last l its.toArray n u hy' (by rw[List.size_toArray];omega)) ⟨e,?_⟩
 refine⟨y,_,I.lset (its':=its.dropLast) hH e ?_ r.dropLast ?_,ru,q⟩
 ·show its.toArray.eraseIdxIfInBounds (its.toArray.size- 1)=its.dropLast.toArray
  rw[List.size_toArray,List.eraseIdxIfInBounds_toArray,a6m]
 ·rw[List.length_dropLast]
  omega
def a6R:V->List V->Hp->VK->Prop:=fun x vs H Q=>∃l xs,x= .ref l/\vs= [] /\H l=some (.lst xs)/\Q .non (upd H l (.lst []))
theorem a07:yP X "list.clear" a6R:=by
 intro ae s σ H x vs v us Q I rx rv h
 obtain⟨l,xs,rfl,rfl,hH,q⟩:=h
 cases rx
 have hus:=rv.zero
 subst hus
 obtain⟨z,its,n,r,hl,e⟩:=I.lstM hH
 refine call_meets F.slot_list_clear ⟨_,e,rfl⟩ F.entry_list_clear (F.args_list_clear_1 _) (AutoSeq1.list_clear_list_0 l its.toArray n (by rw[List.size_toArray];omega)) ⟨e,?_⟩
 exact⟨.non,_,I.lset (its':=[]) (ys:=[]) hH e rfl .nil (Nat.zero_le _),rfl,q⟩
end
section
variable{κ:Type} [DecidableEq κ]
def aF(kvs:List (κ×V))(k:κ):Option V:=(kvs.find? fun kv=>decide (kv.1=k)).map (·.2)
noncomputable def aU (kvs:List (κ×V)) (k:κ) (v:V):List (κ×V):=
 if(kvs.any fun kv=>decide (kv.1=k))=true then kvs.map (fun kv=>if kv.1=k then(kv.1,v) else kv) else kvs++ [(k,v)]
theorem jY{p:κ×V}{r:List (κ×V)}{k:κ}(e:p.1=k):aF (p::r) k=some p.2:=by simp[aF,List.find?_cons,e]
theorem kE{p:κ×V}{r:List (κ×V)}{k:κ}(e:¬p.1=k):aF (p::r) k=aF r k:=by simp[aF,List.find?_cons,e]
theorem mH(k:κ):∀kvs:List (κ×V),(kvs.any fun kv=>decide (kv.1=k))=(aF kvs k).isSome
 | []=>rfl
 |p::r=>by
  rw[List.any_cons]
  by_cases e:p.1=k
  ·simp only[jY e,decide_eq_true e,Bool.true_or,Option.isSome_some]
  ·rw[kE e,decide_eq_false e,Bool.false_or];exact mH k r
theorem a3R(k j:κ)(y:V):∀kvs:List (κ×V),aF (kvs.map fun kv=>if kv.1=k then(kv.1,y) else kv) j=(aF kvs j).map fun x=>if j=k then y else x
 | []=>rfl
 |p::r=>by
  have ih:=a3R k j y r
  rw[List.map_cons]
  by_cases h:p.1=k
  ·rw[if_pos h]
   by_cases e:p.1=j
   ·rw[jY (p:=(p.1,y)) e,jY e,Option.map_some,if_pos (e.symm.trans h)]
   ·rw[kE (p:=(p.1,y)) e,kE e,ih]
  ·rw[if_neg h]
   by_cases e:p.1=j
   ·rw[jY (p:=p) e,jY e,Option.map_some,if_neg (fun z=>h (e.trans z))]
   ·rw[kE (p:=p) e,kE e,ih]
theorem a28(k j:κ)(y:V):∀kvs:List (κ×V),aF kvs k=none->aF (kvs++ [(k,y)]) j=if j=k then some y else aF kvs j
 | [],_=>by
  by_cases e:k=j
  ·rw[if_pos e.symm];exact jY (p:=(k,y)) e
  ·rw[if_neg (fun z=>e z.symm)];exact kE (p:=(k,y)) e
 |p::r,hn=>by
  rw[List.cons_append]
  have hk:¬p.1=k:=fun z=>by rw[jY z]at hn;cases hn
  rw[kE hk]at hn
  have ih:=a28 k j y r hn
  by_cases e:p.1=j
  ·rw[jY e,jY e,if_neg (fun z=>hk (e.trans z))]
  ·rw[kE e,kE e,ih]
theorem fD(kvs:List (κ×V))(k j:κ)(y:V):aF (aU kvs k y) j=if j=k then some y else aF kvs j:=by
 unfold aU
 by_cases a:(kvs.any fun kv=>decide (kv.1=k))=true
 ·rw[if_pos a,a3R]
  rw[mH]at a
  by_cases e:j=k
  ·obtain⟨x,hx⟩:=Option.isSome_iff_exists.mp a
   rw[if_pos e,e,hx,Option.map_some,if_pos rfl]
  ·rw[if_neg e]
   cases aF kvs j with
   |none=>rfl
   |some x=>rw[Option.map_some,if_neg e]
 ·rw[if_neg a]
  refine a28 k j y kvs ?_
  rw[mH]at a
  cases q:aF kvs k with
  |none=>rfl
  |some x=>rw[q]at a;exact(a rfl).elim
theorem xD(kvs:List (κ×V))(k:κ)(v:V):(aU kvs k v).length<=kvs.length+ 1:=by
 unfold aU
 split
 ·rw[List.length_map];omega
 ·rw[List.length_append,List.length_cons,List.length_nil];omega
theorem yB{kvs:List (κ×V)}{k:κ}(v:V)(h:aF kvs k=none):aU kvs k v=kvs++ [(k,v)]:=by
 unfold aU
 rw[mH,h]
 exact if_neg (by decide)
theorem fT.isSome_eq{o:Option V}{u:Option Value}(r:fT o u):o.isSome=u.isSome:=by
 cases o with
 |none=>cases u with
  |none=>rfl
  |some _=>exact(show False from r).elim
 |some _=>cases u with
  |none=>exact(show False from r).elim
  |some _=>rfl
theorem fT.getD{o:Option V}{u:Option Value}{d:V}{d':Value}(r:fT o u)(rd:bA d d'):bA (o.getD d) (u.getD d'):=by
 cases o with
 |none=>cases u with
  |none=>exact rd
  |some _=>exact(show False from r).elim
 |some _=>cases u with
  |none=>exact(show False from r).elim
  |some _=>exact r
theorem KV.val{kvs:List (κ×V)}{vs:List (κ×Value)}(r:KV kvs vs)(k:κ):fT (aF kvs k) (valueAt vs k):=by
 unfold KV at r
 induction r with
 |nil=>exact True.intro
 | @cons p q ps qs h t ih=>
  obtain⟨h1,h2⟩:=h
  by_cases e:p.1=k
  ·have e':q.1=k:=h1.symm.trans e
   have b:valueAt (q::qs) k=some q.2:=by simp[valueAt,List.find?_cons,e']
   rw[jY e,b];exact h2
  ·have e':¬q.1=k:=fun z=>e (h1.trans z)
   have b:valueAt (q::qs) k=valueAt qs k:=by simp[valueAt,List.find?_cons,e']
   rw[kE e,b];exact ih
theorem KV.any{kvs:List (κ×V)}{vs:List (κ×Value)}(r:KV kvs vs)(k:κ):(kvs.any fun kv=>decide (kv.1=k))=vs.any fun kv=>decide (kv.1=k):=by
 unfold KV at r
 induction r with
 |nil=>rfl
 |cons h t ih=>rw[List.any_cons,List.any_cons,ih,h.1]
theorem KV.repl{kvs:List (κ×V)}{vs:List (κ×Value)}(r:KV kvs vs)(k:κ)(ry:bA y u):
 KV (kvs.map fun kv=>if kv.1=k then(kv.1,y) else kv) (vs.map fun kv=>if kv.1=k then(kv.1,u) else kv):=by
 unfold KV at r|-
 induction r with
 |nil=>exact .nil
 | @cons p q ps qs h t ih=>
  rw[List.map_cons,List.map_cons]
  refine .cons ?_ ih
  obtain⟨h1,h2⟩:=h
  by_cases e:p.1=k
  ·rw[if_pos e,if_pos (h1.symm.trans e)];exact⟨h1,ry⟩
  ·rw[if_neg e,if_neg (fun z=>e (h1.trans z))];exact⟨h1,h2⟩
theorem KV.put{kvs:List (κ×V)}{vs:List (κ×Value)}(r:KV kvs vs)(k:κ)(ry:bA y u):KV (aU kvs k y) (stored vs k u):=by
 unfold aU stored
 rw[r.any k]
 by_cases e:(vs.any fun kv=>decide (kv.1=k))=true
 ·rw[if_pos e,if_pos e];exact r.repl k ry
 ·rw[if_neg e,if_neg e];exact Paired.snoc r ⟨rfl,ry⟩
theorem KV.length{kvs:List (κ×V)}{vs:List (κ×Value)}(r:KV kvs vs):kvs.length=vs.length:=Paired.length r
end
theorem pI{k:aB}(r:bA (kV k) u):(fM P w).is k u=true:=by
 cases k with
 |inl i=>obtain⟨t,e⟩:=(show∃t,u=Value.int i t from r);subst e;exact a47 P w i t
 |inr x=>obtain⟨t,e⟩:=(show∃t,u=Value.str x t from r);subst e;exact a5n P w x t
theorem a1l{P:Program}{w:World}:∀{ks:List aB} {us:List Value},aX (ks.map kV) us->ItemsAre (fM P w) ks us
 | [],_,r=>by rw[List.map_nil]at r;cases r;exact .nil
 |k::ks,_,r=>by
  rw[List.map_cons]at r
  cases r with
  |cons h t=>exact .cons (pI h) (a1l t)
abbrev KT(H:Hp):List (List aB×V)->List (List aB×Addr×Value)->Prop:=Paired fun p q=>p.1=q.1/\H q.2.1=some (.tup (p.1.map kV))/\bA p.2 q.2.2
theorem KT.val{kvs:List (List aB×V)}{xs:List (List aB×Addr×Value)}(r:KT H kvs xs)(k:List aB):fT (aF kvs k) ((atKey xs k).map (·.2)):=by
 induction r with
 |nil=>exact True.intro
 | @cons p q ps qs h t ih=>
  obtain⟨h1,_,h2⟩:=h
  by_cases e:p.1=k
  ·have e':q.1=k:=h1.symm.trans e
   have b:atKey (q::qs) k=some q.2:=by simp[atKey,List.find?_cons,e']
   rw[jY e,b];exact h2
  ·have e':¬q.1=k:=fun z=>e (h1.trans z)
   have b:atKey (q::qs) k=atKey qs k:=by simp[atKey,List.find?_cons,e']
   rw[kE e,b];exact ih
theorem KT.repl{kvs:List (List aB×V)}{xs:List (List aB×Addr×Value)}(r:KT H kvs xs)(k:List aB)(ry:bA y u):
 KT H (kvs.map fun kv=>if kv.1=k then(kv.1,y) else kv) (xs.map (putAt k u)):=by
 induction r with
 |nil=>exact .nil
 | @cons p q ps qs h t ih=>
  rw[List.map_cons,List.map_cons]
  refine .cons ?_ ih
  obtain⟨h1,h2,h3⟩:=h
  unfold putAt
  by_cases e:p.1=k
  ·rw[if_pos e,if_pos (h1.symm.trans e)];exact⟨h1,h2,ry⟩
  ·rw[if_neg e,if_neg (fun z=>e (h1.trans z))];exact⟨h1,h2,h3⟩
theorem KT.put{kvs:List (List aB×V)}{xs:List (List aB×Addr×Value)}(r:KT H kvs xs)(k:List aB)(hb:H b=some (.tup (k.map kV)))(ry:bA y u):
 KT H (aU kvs k y) (storedH xs k b u):=by
 have e:(kvs.any fun kv=>decide (kv.1=k))=(atKey xs k).isSome:=by
  rw[mH,(r.val k).isSome_eq,Option.isSome_map]
 unfold aU storedH
 rw[e]
 by_cases q:(atKey xs k).isSome=true
 ·rw[if_pos q,if_pos q];exact r.repl k ry
 ·rw[if_neg q,if_neg q];exact Paired.snoc r ⟨rfl,hb,ry⟩
theorem KT.keeps{kvs:List (List aB×V)}{xs:List (List aB×Addr×Value)}(r:KT H kvs xs)(ht:∀b ys,H b=some (.tup ys)->H' b=some (.tup ys)):KT H' kvs xs:=
 Paired.mapP r fun _ _ z=>⟨z.1,ht _ _ z.2.1,z.2.2⟩
section
theorem a1x{u:HO}(ok:bZ P w H h)(e:Rd H a u):cX P w H h a u:=e.ok ok
theorem mO(ok:bZ P w H h)(e:Rd H a (.dK kvs)):kvs.length<=sizeLine/\(a==sysModules)=false/\∃vs,KV kvs vs/\h.DictOf (fM P w) a vs:=
 show cX P w H h a (.dK kvs) from a1x ok e
theorem a4Q(ok:bZ P w H h)(e:H a=some (.dK kvs)):kvs.length<=sizeLine/\(a==sysModules)=false/\∃vs,KV kvs vs/\h.DictOf (fM P w) a vs:=mO ok (.inl e)
theorem oI{ks:List aB}(ok:bZ P w H h)(e:H a=some (.tup (ks.map kV))):(tupleKind (fM P w)).is h ks a:=by
 obtain⟨_,its,r,o,h1,h2,n,h3⟩:=(show cX P w H h a (.tup (ks.map kV)) from ok a _ e)
 exact⟨o,its.toArray,n,h1,h2,h3,by simpa using a1l r⟩
theorem nC{kvs:List (List aB×V)}(ok:bZ P w H h)(e:Rd H a (.dT kvs)):kvs.length<=sizeLine/\(a==sysModules)=false/\
 ∃xs,KT H kvs xs/\h.DictOfH (tupleKind (fM P w)) a xs:=by
 obtain⟨z,y,xs,r,o,es,ep,h1,h2,h3,h4,h5⟩:=(show cX P w H h a (.dT kvs) from a1x ok e)
 refine⟨z,y,xs,r,o,es,ep,h1,h2,h3,h4,fun x hx=> ?_,h5⟩
 have all:∀{l:List (List aB×V)} {m:List (List aB×Addr×Value)},KT H l m->∀x∈m,(tupleKind (fM P w)).is h x.1 x.2.1:=by
  intro l m q
  induction q with
  |nil=>intro x hx;exact nomatch hx
  | @cons p q ps qs hq t ih=>
   intro x hx
   rcases List.mem_cons.mp hx with e|hx
   ·subst e
    exact oI ok (by rw[<- hq.1];exact hq.2.1)
   ·exact ih x hx
 exact all r x hx
theorem a64{kvs:List (List aB×V)}(ok:bZ P w H h)(e:H a=some (.dT kvs)):kvs.length<=sizeLine/\(a==sysModules)=false/\
 ∃xs,KT H kvs xs/\h.DictOfH (tupleKind (fM P w)) a xs:=nC ok (.inl e)
end
def bW(H:Hp)(a:Addr)(y:V)(r:Option V):Prop:=
 (∃kvs k,Rd H a (.dK kvs)/\y=kV k/\r=aF kvs k)\/ ∃kvs k b,Rd H a (.dT kvs)/\y= .ref b/\H b=some (.tup (k.map kV))/\r=aF kvs k
def gI(H:Hp)(a:Addr)(y v:V)(H':Hp):Prop:=
 (∃kvs k,H a=some (.dK kvs)/\y=kV k/\kvs.length<sizeLine/\H'=upd H a (.dK (aU kvs k v)))\/
 ∃kvs k b,H a=some (.dT kvs)/\y= .ref b/\H b=some (.tup (k.map kV))/\kvs.length<sizeLine/\H'=upd H a (.dT (aU kvs k v))
theorem bW.k{k:aB}(e:H a=some (.dK kvs)):bW H a (kV k) (aF kvs k):=.inl ⟨kvs,k,.inl e,rfl,rfl⟩
theorem bW.t{kvs:List (List aB×V)}{k:List aB}(e:H a=some (.dT kvs))(eb:H b=some (.tup (k.map kV))):bW H a (.ref b) (aF kvs k):=.inr ⟨kvs,k,b,.inl e,rfl,eb,rfl⟩
theorem gI.k{k:aB}{v:V}(e:H a=some (.dK kvs))(hl:kvs.length<sizeLine):gI H a (kV k) v (upd H a (.dK (aU kvs k v))):=.inl ⟨kvs,k,e,rfl,hl,rfl⟩
theorem gI.t{kvs:List (List aB×V)}{k:List aB}{v:V}(e:H a=some (.dT kvs))(eb:H b=some (.tup (k.map kV)))(hl:kvs.length<sizeLine):
 gI H a (.ref b) v (upd H a (.dT (aU kvs k v))):=.inr ⟨kvs,k,b,e,rfl,eb,hl,rfl⟩
section
variable{v:V}{r:Value}{o:Option V}
theorem aD.big(I:aD X ae σ H s):sysModules<s.heap.objs.size:=by
 have h:mainGlobals<s.heap.objs.size:=(I.mod.glob.keeps I.bk).lt
 exact Nat.lt_trans (by decide) h
theorem a4Z(hu:A.units+ 1<cLine)(I:aD X ae σ H s)(g:bW H a y (some v))(ry:bA y u)(h:∀w' s',aD X ae σ H s'->bA v w'->Q w' s'):
 wpAny (model X.prog X.w) A (getItem (.ref a) u) Q E s:=by
 rcases g with⟨kvs,k,e,ey,l⟩|⟨kvs,k,b,e,ey,eb,l⟩
 ·subst ey
  obtain⟨z,hd,vs,rel,dd⟩:=mO I.hok e
  obtain⟨w',hw,rw'⟩:=fT.some_of (v:=v) (o:=valueAt vs k) (by rw[l];exact rel.val k)
  exact wpAny_getItem_of (pI ry) dd.mapOf hw (h w' _ (I.tok _) rw')
 ·subst ey
  cases (show u=Value.ref b from ry)
  obtain⟨z,hd,xs,rel,dd⟩:=nC I.hok e
  obtain⟨w',hw,rw'⟩:=fT.some_of (v:=v) (o:=(atKey xs k).map (·.2)) (by rw[l];exact rel.val k)
  obtain⟨p,hp,hp2⟩:=Option.map_eq_some_iff.mp hw
  refine wpAny_getItem_heap (tupleKind_room_in1 hu) (oI I.hok eb) dd hp ?_
  rw[hp2]
  exact h w' _ (I.tok _) rw'
theorem d_in(hu:A.units+ 1<cLine)(I:aD X ae σ H s)(g:bW H a y o)(ry:bA y u)(h:∀s',aD X ae σ H s'->Q (.bool o.isSome) s'):
 wpAny (model X.prog X.w) A (compareOp .In u (.ref a)) Q E s:=by
 rcases g with⟨kvs,k,e,ey,l⟩|⟨kvs,k,b,e,ey,eb,l⟩
 ·subst ey
  obtain⟨z,hd,vs,rel,dd⟩:=mO I.hok e
  refine wpAny_in_of (pI ry) hd dd.mapOf ?_
  rw[<- (rel.val k).isSome_eq,<- l]
  exact h _ (I.tok _)
 ·subst ey
  cases (show u=Value.ref b from ry)
  obtain⟨z,hd,xs,rel,dd⟩:=nC I.hok e
  refine wpAny_in_heap (tupleKind_room_in1 hu) (oI I.hok eb) hd dd ?_
  have q:=(rel.val k).isSome_eq
  rw[Option.isSome_map]at q
  rw[<- q,<- l]
  exact h _ (I.tok _)
theorem a7a(hu:A.units+ 1<cLine)(I:aD X ae σ H s)(g:bW H a y o)(ry:bA y u)(h:∀s',aD X ae σ H s'->Q (.bool (!o.isSome)) s'):
 wpAny (model X.prog X.w) A (compareOp .NotIn u (.ref a)) Q E s:=by
 rcases g with⟨kvs,k,e,ey,l⟩|⟨kvs,k,b,e,ey,eb,l⟩
 ·subst ey
  obtain⟨z,hd,vs,rel,dd⟩:=mO I.hok e
  refine wpAny_notIn_of (pI ry) hd dd.mapOf ?_
  rw[<- (rel.val k).isSome_eq,<- l]
  exact h _ (I.tok _)
 ·subst ey
  cases (show u=Value.ref b from ry)
  obtain⟨z,hd,xs,rel,dd⟩:=nC I.hok e
  refine wpAny_notIn_heap (tupleKind_room_in1 hu) (oI I.hok eb) hd dd ?_
  have q:=(rel.val k).isSome_eq
  rw[Option.isSome_map]at q
  rw[<- q,<- l]
  exact h _ (I.tok _)
theorem a1N{t':Nat}{ob:HO}(I:aD X ae σ H s)(mu:rQ (H a))(hs:Heap.SameBut a s.heap h')(he:∃q,h'.get? a=some q)(new:cX X.prog X.w (upd H a ob) h' a ob):
 aD X ae σ (upd H a ob) {s with heap:=h',toks:=t'}:=
 I.write (x:=a) (e:=a) mu (.inl rfl) (fun b q hb z=>(hs.2 b hb).trans z) he new
theorem a4C{vs:List (aB×Value)}(z:kvs.length<=sizeLine)(hd:(a==sysModules)=false)(rel:KV kvs vs)(dd:h'.DictOf (fM P w) a vs):
 cX P w H' h' a (.dK kvs):=⟨z,hd,vs,rel,dd⟩
theorem a7N{Q:Unit->Shared->Prop}(hu:A.units+ 1<cLine)(I:aD X ae σ H s)(g:gI H a y v H')(ry:bA y u)(rv:bA v r)(h:∀s',aD X ae σ H' s'->Q () s'):
 wpAny (model X.prog X.w) A (setItem (.ref a) u r) Q E s:=by
 rcases g with⟨kvs,k,e,ey,l,eH⟩|⟨kvs,k,b,e,ey,eb,l,eH⟩
 ·subst ey eH
  obtain⟨z,hd,vs,rel,dd⟩:=a4Q I.hok e
  have hz:vs.length<=sizeLine:=by rw[<- rel.length];exact z
  have hl:(aU kvs k v).length<=sizeLine:=by have:=xD kvs k v;omega
  refine wpAny_setItem_pairs (hsz:=hz) (pI ry) dd fun h' dd' hs=>h _ ?_
  have he:∃q,h'.get? a=some q:=let ⟨q,_,_,hq,_⟩:=dd';⟨q,hq⟩
  exact a1N I (by rw[e];exact True.intro) hs he (a4C hl hd (rel.put k rv) dd')
 ·subst ey eH
  cases (show u=Value.ref b from ry)
  obtain⟨z,hd,xs,rel,dd⟩:=a64 I.hok e
  have hz:xs.length<=sizeLine:=by rw[<- Paired.length rel];exact z
  have hl:(aU kvs k v).length<=sizeLine:=by have:=xD kvs k v;omega
  refine wpAny_setItem_heap (hsz:=hz) (tupleKind_room_in1 hu) (oI I.hok eb) dd fun h' dd' hs=>h _ ?_
  obtain⟨q,es,ep,hq,h2,h3,h4,_,h5⟩:=dd'
  refine a1N I (by rw[e];exact True.intro) hs ⟨q,hq⟩ ⟨hl,hd,_,(rel.put k eb rv).keeps fun c ys ec=> ?_,q,es,ep,hq,h2,h3,h4,h5⟩
  rw[aI (jZ ec e (fun z=>nomatch z))]
  exact ec
end
section
variable{k:aB}
theorem a8g(I:aD X ae σ H s)(e:Rd H a (.dK kvs))(h:∀t s',aD X ae σ H s'->Q (.int kvs.length t) s'):wpAny (model X.prog X.w) A (call (.builtin "len") [.ref a]) Q E s:=by
 obtain⟨z,hd,vs,rel,dd⟩:=mO I.hok e
 refine call_len_dict hd dd (by rw[<- rel.length];rw[sizeLine_eq]at z;omega) ?_
 rw[<- rel.length]
 exact h _ _ (I.tok _)
end
def NoSl(i:Expr):Prop:=∀ov iv,subscripted i false ov iv=operate [ov,iv] (getItem ov iv)
theorem a6S{env:Env}{value slice:Expr}{pos:Pos}{T id:String}
 (hl:typeLookup (.type T) "__getitem__"=pure (some (.builtin id)))(hs:NoSl slice)
 (h:wpAny (model prog w) A (eval value env) (fun o s₁=>wpAny (model prog w) A (eval slice env) (fun i s₂=>s₂.TypeIs o T/\wpAny (model prog w) A (getItem o i) Q E s₂) E s₁) E s):
 wpAny (model prog w) A (eval (.Subscript value slice pos) env) Q E s:=by
 refine Subscript_ (wpAny_mono h (fun o s₁ h₁=>wpAny_mono h₁ (fun i s₂ h₂=> ?_) fun _ _ x=>x) fun _ _ x=>x)
 obtain⟨hT,h₂⟩:=h₂
 unfold subscriptTail
 refine wpAny_bind ?_
 rw[getitemInPython_of_ne hT.not_modules]
 refine wpAny_bind (wpAny_specialOf hT hl ?_)
 have fin:wpAny (model prog w) A (subscripted slice false o i) (fun r s₃=>wpAny (model prog w) A (letTemporaryGo value o r>>=fun _=>pure r) Q E s₃) E s₂:=by
  rw[hs o i]
  exact wpAny_operating (wpAny_mono h₂ (fun r s₃ h₃=>wpAny_bind (wpAny_letTemporaryGo (wpAny_pure h₃))) fun _ _ x=>x)
 first
  |exact wpAny_pure (wpAny_bind fin)
  |exact wpAny_bind (wpAny_pure (wpAny_bind fin))
  |exact wpAny_bind fin
theorem a8F{o:Option V}(I:aD X ae σ H s)(g:bW H a y o):s.TypeIs (.ref a) "dict":=by
 rcases g with⟨kvs,k,e,_,_⟩|⟨kvs,k,b,e,_,_,_⟩
 ·obtain⟨_,_,vs,_,dd⟩:=mO I.hok e
  exact dd.typeIs
 ·obtain⟨_,_,xs,_,dd⟩:=nC I.hok e
  exact dd.typeIs
def a8E(td ty:TE):TE:=fun σ H Q=>td σ H fun x H1=>ty σ H1 fun y H2=>∃a v,x= .ref a/\bW H2 a y (some v)/\Q v H2
def tDIn(ty td:TE):TE:=fun σ H Q=>ty σ H fun y H1=>td σ H1 fun x H2=>∃a o,x= .ref a/\bW H2 a y o/\Q (.bl o.isSome) H2
def a4I(ty td:TE):TE:=fun σ H Q=>ty σ H fun y H1=>td σ H1 fun x H2=>∃a o,x= .ref a/\bW H2 a y o/\Q (.bl (!o.isSome)) H2
def a7D(td ty tv:TE):TS:=fun D σ H=>tv σ H fun v H1=>td σ H1 fun x H2=>ty σ H2 fun y H3=>∃a H4,x= .ref a/\gI H3 a y v H4/\D.nx σ H4
section
variable{o i value:Expr}{pos tpos:Pos}{td ty tv:TE}
theorem fQ(hu:X.A.units+ 1<cLine)(ho:PE X o td)(hi:PE X i ty)(hs:NoSl i):PE X (.Subscript o i pos) (a8E td ty):=by
 intro ae s σ H Q I h
 refine a6S F.slot_dict_getitem.lookup hs (aT (ho ae s σ H _ I h) fun u s1 ⟨x,H1,I1,rx,q1⟩=>aT (hi ae s1 σ H1 _ I1 q1) fun iv s2 ⟨y,H2,I2,ry,a,v,ex,g,q2⟩=> ?_)
 subst ex
 obtain rfl:u=Value.ref a:=rx
 exact⟨a8F I2 g,a4Z hu I2 g ry fun w' s3 I3 rw'=>⟨v,H2,I3,rw',q2⟩⟩
theorem nM(hu:X.A.units+ 1<cLine)(hi:PE X i ty)(ho:PE X o td):PC X .In i o (tDIn ty td):=by
 intro ae s σ H Q I h
 refine aT (hi ae s σ H _ I h) fun iv s1 ⟨y,H1,I1,ry,q1⟩=>aT (ho ae s1 σ H1 _ I1 q1) fun u s2 ⟨x,H2,I2,rx,a,ov,ex,g,q2⟩=> ?_
 subst ex
 obtain rfl:u=Value.ref a:=rx
 exact d_in hu I2 g ry fun s3 I3=>⟨.bl ov.isSome,H2,I3,rfl,q2⟩
theorem lY(hu:X.A.units+ 1<cLine)(hi:PE X i ty)(ho:PE X o td):PC X .NotIn i o (a4I ty td):=by
 intro ae s σ H Q I h
 refine aT (hi ae s σ H _ I h) fun iv s1 ⟨y,H1,I1,ry,q1⟩=>aT (ho ae s1 σ H1 _ I1 q1) fun u s2 ⟨x,H2,I2,rx,a,ov,ex,g,q2⟩=> ?_
 subst ex
 obtain rfl:u=Value.ref a:=rx
 exact a7a hu I2 g ry fun s3 I3=>⟨.bl (!ov.isSome),H2,I3,rfl,q2⟩
theorem jI(hu:X.A.units+ 1<cLine)(ho:PE X o td)(hi:PE X i ty)(hv:PE X value tv)(hs:swapsWith value (some (.Subscript o i pos')) pos.line X.env=pure false):
 PS X (.Assign [.Subscript o i pos'] value pos) (a7D td ty tv):=by
 intro ae s σ H D I h
 refine wpAny_Assign_Subscript (aT (hv ae s σ H _ I h) fun r s1 ⟨v,H1,I1,rv,q1⟩=>aT (ho ae s1 σ H1 _ I1 q1) fun u s2 ⟨x,H2,I2,rx,q2⟩=>aT (hi ae s2 σ H2 _ I2 q2) fun iv s3 ⟨y,H3,I3,ry,a,H4,ex,g,q3⟩=> ?_) hs
 subst ex
 obtain rfl:u=Value.ref a:=rx
 exact a7N hu I3 g ry rv fun s4 I4=>⟨σ,H4,I4,q3⟩
end
theorem a6j(h:Heap)(hb:sysModules<h.objs.size):cX P w H (h.push {cls:=.type "dict",data:=.dict #[]}) h.objs.size (.dK []):=
 ⟨Nat.zero_le _,beq_eq_false_iff_ne.mpr (Ne.symm (Nat.ne_of_lt hb)),[],.nil,Heap.DictOf.new h⟩
theorem a6d(h:Heap)(hb:sysModules<h.objs.size):cX P w H (h.push {cls:=.type "dict",data:=.dict #[]}) h.objs.size (.dT []):=
 ⟨Nat.zero_le _,beq_eq_false_iff_ne.mpr (Ne.symm (Nat.ne_of_lt hb)),[],.nil,_,#[],0,Heap.get?_push_size _ rfl,⟨rfl,rfl,rfl⟩,rfl,rfl,List.nodup_nil⟩
def a7x:TE:=fun _ H Q=>∀p,H p=none->Q (.ref p) (upd H p (.dK []))
def a8m:TE:=fun _ H Q=>∀p,H p=none->Q (.ref p) (upd H p (.dT []))
section
variable{pos:Pos}
theorem rN:PE X (.Dict [] [] pos) a7x:=fun ae s σ H Q I h=>
 wpAny_Dict_empty ⟨.ref s.heap.objs.size,_,I.laid (a:=s.heap.objs.size) (o:=.dK []) (t':=s.toks) (fun _ _ q=>Heap.get?_push_of_some _ q) (Nat.le_refl _) (a6j s.heap I.big),rfl,h _ (I.hok.fresh (Nat.le_refl _))⟩
theorem qJ:PE X (.Dict [] [] pos) a8m:=fun ae s σ H Q I h=>
 wpAny_Dict_empty ⟨.ref s.heap.objs.size,_,I.laid (a:=s.heap.objs.size) (o:=.dT []) (t':=s.toks) (fun _ _ q=>Heap.get?_push_of_some _ q) (Nat.le_refl _) (a6d s.heap I.big),rfl,h _ (I.hok.fresh (Nat.le_refl _))⟩
end
def a3C:List (TE×TE)->St->Hp->(List (V×V)->Hp->Prop)->Prop
 | [],_,H,Q=>Q [] H
 |(tk,tv)::r,σ,H,Q=>tk σ H fun x H1=>tv σ H1 fun y H2=>a3C r σ H2 fun ps H3=>Q ((x,y)::ps) H3
abbrev VV:List (V×V)->List (Value×Value)->Prop:=Paired fun p q=>bA p.1 q.1/\bA p.2 q.2
def PPs(X:Cx)(pos:Pos)(keys:List (Option Expr))(values:List Expr)(trs:List (TE×TE)):Prop:=
 ∀(ae:List (Addr×Obj)) (s:Shared) (σ:St) (H:Hp) (Q:List (V×V)->Hp->Prop),aD X ae σ H s->a3C trs σ H Q->
  wpAny (model X.prog X.w) X.A (evalPairs (pairTrees keys values X.env pos)) (fun vs s'=>∃ps H',aD X ae σ H' s'/\VV ps vs/\Q ps H') X.xe s
structure M1(X:Cx)(o:Expr)(m:Str)(apos:Pos)(e:Expr)(cpos:Pos):Prop where
 base:attributeBase o m X.env (eval o X.env)=eval o X.env
 few:((backTo cpos (starEach [e] X.env)).all (fun x=> !x.1)&&(backToKw cpos (keywordEach [] X.env)).all (fun x=>x.1.isSome)
  &&decide (([e]:List Expr).length+ ([]:List Keyword).length+ (if([]:List Keyword).isEmpty then 0 else 1)<30))=true
 line:(apos.endLine==cpos.line)=true
 trees:backTo cpos (starEach [e] X.env)= [(false,eval e X.env)]
structure M2(X:Cx)(o:Expr)(m:Str)(apos:Pos)(e f:Expr)(cpos:Pos):Prop where
 base:attributeBase o m X.env (eval o X.env)=eval o X.env
 few:((backTo cpos (starEach [e,f] X.env)).all (fun x=> !x.1)&&(backToKw cpos (keywordEach [] X.env)).all (fun x=>x.1.isSome)
  &&decide (([e,f]:List Expr).length+ ([]:List Keyword).length+ (if([]:List Keyword).isEmpty then 0 else 1)<30))=true
 line:(apos.endLine==cpos.line)=true
 trees:backTo cpos (starEach [e,f] X.env)= [(false,eval e X.env),(false,eval f X.env)]
def IsD(H:Hp)(a:Addr):Prop:=(∃kvs,Rd H a (.dK kvs))\/ ∃kvs,Rd H a (.dT kvs)
theorem a5x(I:aD X ae σ H s)(d:IsD H a):
 s.TypeIs (.ref a) "dict" /\(∀b,Value.ref a= .ref b->∃ob,s.heap.get? b=some ob/\ob.dict=none)/\(a==sysModules)=false:=by
 rcases d with⟨kvs,e⟩|⟨kvs,e⟩
 ·obtain⟨_,hd,vs,_,dd⟩:=mO I.hok e
  refine⟨dd.typeIs,fun b q=> ?_,hd⟩
  cases q
  obtain⟨ob,_,_,h1,h2,_⟩:=dd
  exact⟨ob,h1,h2.2.1⟩
 ·obtain⟨_,hd,xs,_,dd⟩:=nC I.hok e
  refine⟨dd.typeIs,fun b q=> ?_,hd⟩
  cases q
  obtain⟨ob,_,_,h1,h2,_⟩:=dd
  exact⟨ob,h1,h2.2.1⟩
section
variable{d:V}{r:Value}{o:Option V}
theorem a41(hu:A.units+ 1<cLine)(I:aD X ae σ H s)(g:bW H a y o)(ry:bA y u)(rd:bA d r)(h:∀w' s',aD X ae σ H s'->bA (o.getD d) w'->Q w' s'):
 wpAny (model X.prog X.w) A (call (.builtin "dict.get") [.ref a,u,r]) Q E s:=by
 rcases g with⟨kvs,k,e,ey,l⟩|⟨kvs,k,b,e,ey,eb,l⟩
 ·subst ey
  obtain⟨z,hd,vs,rel,dd⟩:=mO I.hok e
  refine call_meetsIn F.slot_dict_get dd.typeIs F.entry_dict_get (F.args_dict_get_3 _ _ _) (meets_dict_get_default (fM X.prog X.w) a (pI ry) hd r) ⟨_,dd.mapOf,h _ _ (I.tok _) ?_⟩
  rw[l]
  exact(rel.val k).getD rd
 ·subst ey
  cases (show u=Value.ref b from ry)
  obtain⟨z,hd,xs,rel,dd⟩:=nC I.hok e
  refine call_meetsIn F.slot_dict_get dd.typeIs F.entry_dict_get (F.args_dict_get_3 _ _ _) (meetsH_dict_get_default (tupleKind (fM X.prog X.w)) a b hd r) ⟨tupleKind_room_in1 hu,k,xs,oI I.hok eb,dd,h _ _ (I.tok _) ?_⟩
  rw[l]
  exact(rel.val k).getD rd
end
def a4V(td ty tx:TE):TE:=fun σ H Q=>td σ H fun x H1=>∃a,x= .ref a/\IsD H1 a/\ty σ H1 fun y H2=>tx σ H2 fun z H3=>∃o,bW H3 a y o/\Q (o.getD z) H3
section
variable{o f:Expr}{cpos:Pos}{td ty tx:TE}
theorem a68(hu:X.A.units+ 1<cLine)(ho:PE X o td)(he:PE X e ty)(hf:PE X f tx)(m:M2 X o "get" apos e f cpos):PE X (.Call (.Attribute o "get" apos) [e,f] [] cpos) (a4V td ty tx):=by
 intro ae s σ H Q I h
 refine wpAny_Call_method m.base m.few m.line F.plainAttrs_dict F.slot_dict_get F.type_dict_get (aT (ho ae s σ H _ I h) ?_)
 rintro u s1 ⟨x,H1,I1,rx,a,ex,d,q1⟩
 subst ex
 obtain rfl:u=Value.ref a:=rx
 obtain⟨t1,t2,_⟩:=a5x I1 d
 refine⟨t1,t2,?_⟩
 rw[m.trees]
 refine Calls.callWith_builtin rfl (Calls.evalArgs_plain (Calls.spliced_cons (aT (he ae s1 σ H1 _ I1 q1) fun iv s2 ⟨y,H2,I2,ry,q2⟩=>
  Calls.spliced_cons (aT (hf ae s2 σ H2 _ I2 q2) fun fv s3 ⟨z,H3,I3,rz,ov,g,q3⟩=>Calls.spliced_nil ?_))))
 exact a41 hu I3 g ry rz fun w' s4 I4 rw'=>⟨_,H3,I4,rw',q3⟩
end
end L2
namespace Att
open PySem PySem.W PySem.Calls PyProof.Rows
theorem a8I{P:Params}:∀(ns:List Int) (vs:List Value),WellAll P h vs (ns.map WData.int)->IntsAre vs ns:=by
 intro ns
 induction ns with
 |nil=>
  intro vs w
  rw[List.map_nil]at w
  cases w
  exact .nil
 |cons n ns ih=>
  intro vs w
  rw[List.map_cons]at w
  cases w with
  |cons a b=>
   cases a
   exact .cons _ _ (ih _ b)
theorem a5T{l:OpenLaw}{n:Nat}(hn:l.most=some n){P:Params}{args:List WData}{vals:List Value}
 (hpre:l.row.toRowW.claim.pre args=true)(hwl:WellAll P h vals args):
 ∃a vs ns,vals= [Value.ref a] /\args= [WData.list (ns.map WData.int)] /\h.get? a=some {cls:=.type "list",data:=.seq vs.toArray} /\IntsAre vs ns/\ns.length<=n:=by
 have hsh:WShape.hasAll [] args [.list .int]=true:=(pre_splitW hpre).1
 have hc:l.pre.holds [] {args:=args}=true:=(pre_splitW hpre).2
 obtain⟨d,r,rfl,h1,h2⟩:=hasAllW_cons hsh
 obtain rfl:=hasAllW_nil h2
 obtain⟨xs,rfl,h3⟩:=hasW_list h1
 obtain⟨ns,rfl⟩:=items_int h3
 have hlen:ns.length<=n:=by
  unfold OpenLaw.pre at hc
  have h4:(WTm.not (.lt (.lit (.int (n:Int))) (.len (.arg 0)))).holds [] {args:=[.list (ns.map .int)]}=true:=by
   have h4:=(holds_andW hc).1
   rw[hn]at h4
   exact h4
  have h5:=condW_of h4 (w_not (w_lt w_lit (w_len_list (w_arg rfl))))
  rw[List.length_map]at h5
  refine Nat.le_of_not_lt fun q=> ?_
  have q':(n:Int)<((ns.length:Nat):Int):=by omega
  first
   |(rw[decide_eq_true q']at h5;exact absurd h5 (by decide))
   |(simp at h5;omega)
 cases hwl with
 |cons w1 w2=>
  cases w2
  cases w1 with
  |list ho hall=>exact⟨_,_,ns,rfl,rfl,ho,a8I ns _ hall,hlen⟩
theorem a4J(l:OpenLaw)(args:List WData):l.row.toRowW.claim.post args (.bool true) args=true:=
 postW_of (r:=l.row.toRowW) (X:=(true==true))
  (show WShape.has [] (.bool true) .bool=true by first|rfl|decide|simp[WShape.has,WShape.arms,WShape.armsAll])
  (show(WTm.eq .res (.lit (.bool true))).value [] {args:=args,res:=some (.bool true),after:=args}=some (.bool (true==true)) from w_eq_bool (w_res rfl) w_lit) rfl
theorem attach_call{l:OpenLaw}{n:Nat}{q:Program}{loose:List Str}{XP:(Str->Option Value)->Heap->Prop}{YP:World->Heap->Prop}{d:DefRec}
 (hn:l.most=some n)(hdf:d.params.defaults= [])
 (call:∀(w:World) (s₀ s₁:Shared) (mg mb:Str->Option Value) (fa:Addr) (o:Obj) (pm cd doc:Value) (a:Addr) (vs:List Value) (ns:List Int),
  Ground q loose [] XP w s₀ mg mb s₁.heap->YP w s₁.heap->
  s₁.heap.get? fa=some o->o.data= .func (docDef d.name d.params d.body d.scope pm cd doc)->s₁.heap.CodeRec cd d.name->mg d.name=some (.ref fa)->
  s₁.heap.get? a=some {cls:=.type "list",data:=.seq vs.toArray} ->IntsAre vs ns->ns.length<=n->s₁.gens= #[] ->
  codeAny (model l.prog w) callerA (.call (.ref fa) ⟨[.ref a],[]⟩) (fun r s'=>r= .ok (.ret (.bool true))/\OldK s₁.heap s'.heap/\s'.os=s₁.os/\AllBare s'.gens) s₁):
 WalkO q loose XP YP l.row.toRowW d [] (fun f vs=>PySem.call f vs):=by
 intro w s₀ s₁ mg mb G Y fa o pm cd doc dV kV ho hd hcd hD hmg hg args vals as hpre hlay hrd hwl hlo
 obtain rfl:dV= .none:=Dflts.none hD hdf
 obtain rfl:kV= .none:=Dflts.noKw hD
 obtain⟨a,vs,ns,rfl,rfl,hobj,hints,hlen⟩:=a5T hn hpre hwl
 refine enter_call (codeAny_mono (call w s₀ s₁ mg mb fa o pm cd doc a vs ns G Y ho (fd_plain hd) hcd hmg hobj hints hlen hg) fun r s' hq=> ?_)
 obtain⟨rfl,h2,h3,h4⟩:=hq
 exact⟨.inl ⟨.bool true,.bool true,[],rfl,fun _=>rfl,.bool true,a4J l _,fun _=>⟨List.Pairwise.nil,fun _ hm=>(nomatch hm)⟩⟩,h2,h3,h4⟩
section
variable{K:Frag}
noncomputable def ledger(h:Heap)(L d:Addr):List (Addr×Obj):=(List.range h.objs.size).filterMap fun a=>if a=L\/ a=d then none else(h.get? a).map fun o=>(a,o)
end
end Att
namespace L2
open PySem PySem.Spec PyProof.Rows
theorem a1s:∀{vs:List Value} {ns:List Int},IntsAre vs ns->aX (ns.map V.int) vs
 |_,_,.nil=> .nil
 |_,_,.cons n t h=> .cons ⟨t,rfl⟩ (a1s h)
def jR(s:Stmt):Arguments:=match s with
 | .FunctionDef _ a _ _ _ _ _ _ _ _=>a
 |_=>{posonlyargs:=[],args:=[],vararg:=none,kwonlyargs:=[],kw_defaults:=[],kwarg:=none,defaults:=[]}
def eZ(s:Stmt):List Stmt:=match s with
 | .FunctionDef _ _ b _ _ _ _ _ _ _=>b
 |_=> []
def aO(s:Stmt):Scope:=match s with
 | .FunctionDef _ _ _ _ _ _ sc _ _ _=>sc
 |_=>{kind:=.function,names:=[],isGenerator:=false,isCoroutine:=false}
abbrev aE:eY:=fun _ _ _ _ _ _=>False
abbrev E0:XK:=fun _ _ _=>False
theorem aR:gY aE X E0:=fun _ _ _ _ _ _ _ h=>h.elim
structure jJ(K:Fg)(x qual:Str)(st:Stmt)(f:Addr)(fd:FuncData):Prop where
 ex:∃(oc:Value) (od:Option Addr) (kV doc pm:Value) (an:Option Addr) (ah ct:Value) (osl:Array (Option Value)),
  fd=W.fnOf x qual (jR st) (eZ st) (aO st) .none kV doc pm an ah ct/\K.lookup f=some ⟨oc,od,.func fd,osl⟩ /\W.codeIn K ah qual=true
 kp:W.keepIn K (.ref f)=true
section
theorem jJ.ok{st:Stmt}{fd:FuncData}{k:Nat}(F:jJ K x qual st f fd)(S:bD N ps (aO st))(len:∀vs H Q E,sp vs H Q E->vs.length=ps.length)
 (hbody:∀(ah:Value) (A:Around) (ag:List Env) (s:Shared) (H:Hp) (vs:List V) (Q:VK) (E:XK),bT k (A.deeper (envOfC qual (aO st) s.heap.objs.size f ah))->sp vs H Q E->
  ∃t,eS (eJ aE P w K mg af N qual (aO st) f ah A ag s H E).nox (eZ st) t/\t {nx:=fun _ H'=>Q .non H',rt:=Q} (start N vs) H):fA P w K mg af aE (k+ 1) f fd ps sp:=by
 obtain⟨oc,od,kV,doc,pm,an,ah,ct,osl,rfl,lk,hcd⟩:=F.ex
 refine a0C lk hcd S len fun A ag s H vs Q E hr hsp=> ?_
 obtain⟨t,h,q⟩:=hbody ah A ag s H vs Q E hr hsp
 exact⟨t,h.nox,q⟩
theorem jJ.binds{st:Stmt}{fd:FuncData}(F:jJ K x qual st f fd)
 (h:∀(kV doc pm:Value) (an:Option Addr) (ah ct:Value) (us:List Value),us.length=ps.length->bindArgs (W.fnOf x qual (jR st) (eZ st) (aO st) .none kV doc pm an ah ct) ⟨us,[]⟩=pure (ps.zip us)):iA K fd ps []:=by
 obtain⟨oc,od,kV,doc,pm,an,ah,ct,osl,rfl,lk,hcd⟩:=F.ex
 exact .all (h kV doc pm an ah ct)
theorem tM{st:Stmt}{osl:Array (Option Value)}{kV:Value}(l:K.lookup f=some ⟨oc,od,.func (W.fnOf x qual (jR st) (eZ st) (aO st) .none kV doc pm an ah ct),osl⟩)
 (c:W.codeIn K ah qual=true)(k:W.keepIn K (.ref f)=true):jJ K x qual st f (W.fnOf x qual (jR st) (eZ st) (aO st) .none kV doc pm an ah ct):=⟨⟨oc,od,kV,doc,pm,an,ah,ct,osl,rfl,l,c⟩,k⟩
end
theorem dQ{k:Nat}(hr:bT k A):A.units+ 1<cLine:=Nat.lt_of_le_of_lt (Nat.add_le_add_left (by decide:1<=64) _) hr.units
theorem dJ{n:Nat}(h:n<=1000):n<sizeLine:=Nat.lt_of_le_of_lt h (by decide)
section
theorem pv(i:Nat){pos:Pos}(hN:X.N[i]?=some x:=by rfl)(hv:sZ X.env.scope x:=by first|exact Or.inl rfl|exact Or.inr (Or.inl rfl)|exact Or.inr (Or.inr rfl))(hd:(x==("__debug__":Str))=false:=by decide)
 (hcd:(x==("__classdict__":Str))=false:=by decide):PE X (.Name x pos) (jC i):=a0H hN hv hd hcd
theorem a1I:jA X (.builtin "len") (fun xs H Q=>∃a kvs,xs= [V.ref a] /\H a=some (.dK kvs)/\Q (.int kvs.length) H):=by
 intro ae s σ H xs us Q I r h
 obtain⟨a,kvs,rfl,ha,q⟩:=h
 obtain⟨u,rfl,ru⟩:=pX r
 cases ru
 exact a8g I (.inl ha) fun t s' I'=>⟨.int kvs.length,H,I',⟨t,rfl⟩,q⟩
end
theorem bH{A B:Prop}(h:B):if false=true then A else B:=by
 rw[if_neg Bool.false_ne_true]
 exact h
theorem cE{A B:Prop}(h:A):if true=true then A else B:=by
 rw[if_pos rfl]
 exact h
theorem dM{c A B:Prop} [Decidable c](h1:c->A)(h2:¬c->B):if c then A else B:=by
 by_cases h:c
 ·rw[if_pos h]
  exact h1 h
 ·rw[if_neg h]
  exact h2 h
def aH(H H':Hp):Prop:=∀b o,H b=some o->H' b=some o
theorem aH.refl(H:Hp):aH H H:=fun _ _ h=>h
theorem aH.trans(a:aH H H1)(b:aH H1 H2):aH H H2:=fun c o h=>b c o (a c o h)
theorem aH.seq(e:aH H H')(h:aM K H a xs):aM K H' a xs:=by
 rcases h with(h|⟨o,h⟩)|h
 ·exact .inl (.inl (e _ _ h))
 ·exact .inl (.inr ⟨o,e _ _ h⟩)
 ·exact .inr h
section
variable{κ:Type} [DecidableEq κ]
theorem a7u{kvs:List (κ×V)}{k:κ}(h:aF kvs k=none):¬k∈kvs.map (·.1):=by
 intro m
 obtain⟨p,hp,e⟩:=List.mem_map.mp m
 have q:(kvs.any fun kv=>decide (kv.1=k))=true:=List.any_eq_true.mpr ⟨p,hp,decide_eq_true e⟩
 rw[mH,h]at q
 exact absurd q (by simp)
theorem a3n:∀{l:List κ} {k:κ},l.Nodup->¬k∈l->(l++ [k]).Nodup
 | [],k,_,_=>by simp
 |a::r,k,h,hk=>by
  obtain⟨h1,h2⟩:=List.nodup_cons.mp h
  show(a::(r++ [k])).Nodup
  refine List.nodup_cons.mpr ⟨fun m=> ?_,a3n h2 fun m=>hk (List.mem_cons.mpr (Or.inr m))⟩
  rcases List.mem_append.mp m with q|q
  ·exact h1 q
  ·exact hk (List.mem_cons.mpr (Or.inl (List.mem_singleton.mp q).symm))
theorem a2u{kvs:List (κ×V)}{k:κ}(v:V)(hn:(kvs.map (·.1)).Nodup)(h:aF kvs k=none):((aU kvs k v).map (·.1)).Nodup:=by
 rw[yB v h,List.map_append]
 exact a3n hn (a7u h)
end
section
variable{a b c:Expr}{pos:Pos}
theorem pA{i:Int}(h:∃t,X.mg x=some (.int i t))(hg:Gl X x:=by rfl)(hd:(x==("__debug__":Str))=false:=by decide):PE X (.Name x pos) (tC (.int i)):=by
 obtain⟨t,h⟩:=h
 exact a0y hg h ⟨t,rfl⟩ hd
theorem a6k{z:Str}(h:∃t,X.mg x=some (.str z t))(hg:Gl X x:=by rfl)(hd:(x==("__debug__":Str))=false:=by decide):PE X (.Name x pos) (tC (.str z)):=by
 obtain⟨t,h⟩:=h
 exact a0y hg h ⟨t,rfl⟩ hd
theorem yM(h:X.mg x=some (.ref f))(hg:Gl X x:=by rfl)(hd:(x==("__debug__":Str))=false:=by decide):PE X (.Name x pos) (tC (.ref f)):=a0y hg h rfl hd
theorem jE{T:String}(hm:X.mg x=none)(hv:bootBuiltins x=some (.type T))(hg:Gl X x:=by rfl)(hn:x≠ "__name__":=by decide)(hd:(x==("__debug__":Str))=false:=by decide):PE X (.Name x pos) (tC (.ty T)):=a8b hg hm hv rfl hn hd
end
mutual
inductive Dt(K:Fg)(H:Hp):V->PyData->Prop where
 |non:Dt K H .non .none
 |bl (b:Bool):Dt K H (.bl b) (.bool b)
 |int (i:Int):Dt K H (.int i) (.int i)
 |str (x:Str):Dt K H (.str x) (.str x)
 |lst {a:Addr} {xs:List V} {ds:List PyData}:aM K H a xs->dN K H xs ds->Dt K H (.ref a) (.list ds)
 |tup {a:Addr} {xs:List V} {ds:List PyData}:cF K H a xs->dN K H xs ds->Dt K H (.ref a) (.tuple ds)
 |dK {a:Addr} {kvs:List (aB×V)}:H a=some (.dK kvs)->Dt K H (.ref a) (.dict [])
 |dT {a:Addr} {kvs:List (List aB×V)}:H a=some (.dT kvs)->Dt K H (.ref a) (.dict [])
inductive dN(K:Fg)(H:Hp):List V->List PyData->Prop where
 |nil:dN K H [] []
 |cons {v:V} {d:PyData} {vs:List V} {ds:List PyData}:Dt K H v d->dN K H vs ds->dN K H (v::vs) (d::ds)
end
section
mutual
theorem Dt.reads(I:aD X ae σ H s):∀{v:V} {d:PyData} {u:Value},Dt X.K H v d->bA v u->d.canLay0=true->∃as,Reads s.heap u d as
 |_,_,_,.non,r,_=>by cases r;exact⟨_,.none⟩
 |_,_,_,.bl b,r,_=>by cases r;exact⟨_,.bool b⟩
 |_,_,_,.int i,r,_=>by obtain⟨t,rfl⟩:=r;exact⟨_,.int i t⟩
 |_,_,_,.str x,r,_=>by obtain⟨t,rfl⟩:=r;exact⟨_,.str x t⟩
 |_,_,_,.lst h hd,r,l=>by
  cases r
  obtain⟨its,rv,⟨o,n,e,hc,_,hs⟩,_⟩:=I.list h
  obtain⟨as,ra⟩:=dN.reads I hd rv (by rw[PyData.canLay0]at l;exact l)
  exact⟨_,.list e hc hs (by simpa using ra)⟩
 |_,_,_,.tup h hd,r,l=>by
  cases r
  obtain⟨its,rv,⟨o,e,hc,n,hs⟩,_⟩:=I.tuple h
  obtain⟨as,ra⟩:=dN.reads I hd rv (by rw[PyData.canLay0]at l;exact l)
  exact⟨_,.tuple e hc hs (by simpa using ra)⟩
 |_,_,_,.dK _,_,l=>by rw[PyData.canLay0]at l;cases l
 |_,_,_,.dT _,_,l=>by rw[PyData.canLay0]at l;cases l
theorem dN.reads(I:aD X ae σ H s):∀{vs:List V} {ds:List PyData} {us:List Value},dN X.K H vs ds->aX vs us->PyData.canLayAll0 ds=true->∃as,ReadsAll s.heap us ds as
 |_,_,_,.nil,r,_=>by cases r;exact⟨_,.nil⟩
 |_,_,_,.cons h hd,r,l=>by
  rw[PyData.canLayAll0,Bool.and_eq_true]at l
  cases r with
  |cons r1 rr=>
   obtain⟨as,ra⟩:=Dt.reads I h r1 l.1
   obtain⟨bs,rb⟩:=dN.reads I hd rr l.2
   exact⟨_,.cons ra rb⟩
end
theorem aH.seqT(e:aH H H')(h:cF K H a xs):cF K H' a xs:=by
 rcases h with(h|⟨o,h⟩)|h
 ·exact .inl (.inl (e _ _ h))
 ·exact .inl (.inr ⟨o,e _ _ h⟩)
 ·exact .inr h
mutual
theorem Dt.same{K:Fg}(e:aH H H'):∀{v:V} {d:PyData},Dt K H v d->Dt K H' v d
 |_,_,.non=> .non
 |_,_,.bl b=> .bl b
 |_,_,.int i=> .int i
 |_,_,.str x=> .str x
 |_,_,.lst h hd=> .lst (e.seq h) (dN.same e hd)
 |_,_,.tup h hd=> .tup (aH.seqT e h) (dN.same e hd)
 |_,_,.dK h=> .dK (e _ _ h)
 |_,_,.dT h=> .dT (e _ _ h)
theorem dN.same{K:Fg}(e:aH H H'):∀{vs:List V} {ds:List PyData},dN K H vs ds->dN K H' vs ds
 |_,_,.nil=> .nil
 |_,_,.cons h hd=> .cons (Dt.same e h) (dN.same e hd)
end
theorem dN.get{K:Fg}:∀{vs:List V} {ds:List PyData} {i:Nat} {v:V},dN K H vs ds->vs[i]?=some v->∃d,ds[i]?=some d/\Dt K H v d
 |_,_,_,_,.nil,e=>by simp at e
 |_,_,0,_,.cons h _,e=>by simp at e;subst e;exact⟨_,rfl,h⟩
 |_,_,i+ 1,v,.cons _ t,e=>by
  obtain⟨d,h1,h2⟩:=dN.get (i:=i) (v:=v) t (by simpa using e)
  exact⟨d,by simpa using h1,h2⟩
theorem dN.length{K:Fg}:∀{vs:List V} {ds:List PyData},dN K H vs ds->vs.length=ds.length
 |_,_,.nil=>rfl
 |_,_,.cons _ t=>by rw[List.length_cons,List.length_cons,dN.length t]
theorem nO(hu:X.A.units+ 64<cLine):dE X (compareOp .Eq) (fun x y H Q=>∃dx dy,Dt X.K H x dx/\Dt X.K H y dy/\dx.canLay0=true/\dy.canLay0=true/\dx.depth<=64/\Q (.bl (PyData.eqv dx dy)) H):=by
 intro ae s σ H x y v u Q I rx ry h
 obtain⟨dx,dy,hx,hy,lx,ly,hd,q⟩:=h
 obtain⟨as,ra⟩:=Dt.reads I hx rx lx
 obtain⟨bs,rb⟩:=Dt.reads I hy ry ly
 exact SeqAt.compareEq_reads ra rb lx ly (by have:=Nat.min_le_left dx.depth dy.depth;omega) ⟨.bl _,H,I,rfl,q⟩
theorem nR(hu:X.A.units+ 64<cLine):dE X (compareOp .NotEq) (fun x y H Q=>∃dx dy,Dt X.K H x dx/\Dt X.K H y dy/\dx.canLay0=true/\dy.canLay0=true/\dx.depth<=64/\Q (.bl (!PyData.eqv dx dy)) H):=by
 intro ae s σ H x y v u Q I rx ry h
 obtain⟨dx,dy,hx,hy,lx,ly,hd,q⟩:=h
 obtain⟨as,ra⟩:=Dt.reads I hx rx lx
 obtain⟨bs,rb⟩:=Dt.reads I hy ry ly
 exact SeqAt.compareNe_reads ra rb lx ly (by have:=Nat.min_le_left dx.depth dy.depth;omega) ⟨.bl _,H,I,rfl,q⟩
end
noncomputable def vJ (x:Str):It:=⟨fun i _=>i<x.cps.size,fun i H v H'=>H'=H/\∃c,x.cps[i]?=some c/\v= .str ⟨#[c]⟩,fun i _=>x.cps.size<=i⟩
theorem a51(it:Addr)(x:Str)(t:Tok):∀ty:String,(ty= "str_ascii_iterator"\/ ty= "str_iterator")->oK P w K tg (vJ x) [it] it (fun i h=>h.IsStrIter it ty x t i):=by
 intro ty hty
 refine⟨by simp,?_,?_,?_,?_,?_⟩
 ·intro i h st b hb
  have e:b=it:=by simpa using hb
  subst e
  obtain⟨o,e,c,d⟩:=st
  exact⟨o,e,fun v z=>by rw[d]at z;cases z⟩
 ·intro i h h' st k
  obtain⟨o,e,c,d⟩:=st
  exact⟨o,k it (by simp) o e,c,d⟩
 ·intro X hP hw hK hc i ae s σ H E I hf st hg
  subst hP hw hK
  obtain⟨f0,f1,f2,f3,f4,f5⟩:=hf it (by simp)
  have hi:i<x.cps.size:=hg
  have hx:x.cps[i]?=some x.cps[i]:=by simp[hi]
  have fin:∀h',h'.IsStrIter it ty x t (i+ 1)->Heap.SameBut it s.heap h'->∃u,some (Value.str ⟨#[x.cps[i]]⟩ s.toks)=some u/\
   wpAny (model X.prog X.w) X.A (letOwnedTupleGo tg (.ref it) u) (fun _ s2=>∃y H',aD X ae σ H' s2/\bA y u/\(vJ x).yld i H y H'/\s2.heap.IsStrIter it ty x t (i+ 1)/\∀b∈ [it],H' b=none) E {s with heap:=h',toks:=s.toks+ 1}:=by
   intro h' st' sb
   have I1:aD X ae σ H {s with heap:=h',toks:=s.toks+ 1}:=I.turned (fun b o hb e=>(sb.2 b hb).trans e) f0 f1 f3 f4 f5
   obtain⟨o,e,c,d⟩:=id st'
   refine⟨_,rfl,uK (s:={s with heap:=h',toks:=s.toks+ 1}) e c d ?_ ⟨.str ⟨#[x.cps[i]]⟩,H,I1,⟨_,rfl⟩,⟨rfl,_,hx,rfl⟩,st',fun b hb=>(hf b hb).1⟩⟩
   rcases hty with rfl|rfl<;>decide
  rcases hty with rfl|rfl
  ·exact wpAny_pyNext_ascii_item st hx fin
  ·exact wpAny_pyNext_wide_item st hx fin
 ·intro X hP hw hK hc i ae s σ H E I hf st hg
  subst hP hw hK
  obtain⟨f0,f1,f2,f3,f4,f5⟩:=hf it (by simp)
  have hi:x.cps.size<=i:=hg
  have hx:x.cps[i]?=none:=by simp[hi]
  have fin:∀h',Heap.ExtBut it s.heap h'->(none:Option Value)=none/\aD X ae σ H {s with heap:=h'}:=fun h' eb=>⟨rfl,I.turned (t':=s.toks) (fun b o hb e=>eb b o hb e) f0 f1 f3 f4 f5⟩
  rcases hty with rfl|rfl
  ·exact wpAny_pyNext_ascii_end (I.ok.hd hc) st hx fin
  ·exact wpAny_pyNext_wide_end (I.ok.hd hc) st hx fin
 ·intro A i s Q E st h
  rcases hty with rfl|rfl
  ·exact wpAny_pyIter_striter_ascii st h
  ·exact wpAny_pyIter_striter_wide st h
section
def iStr(tl:TE):TI:=fun σ H R=>tl σ H fun v H1=>∃x,v= .str x/\R (vJ x) H1
theorem a4x{l:Expr}(hl:PE X l tl):PI X tg l (iStr tl):=by
 intro ae s σ H R I h
 refine aT (hl ae s σ H _ I h) ?_
 rintro v s1 ⟨y,H1,I1,r1,q1⟩
 obtain⟨x,e,q⟩:=q1
 subst e
 obtain⟨t,rfl⟩:=r1
 have fin:∀ty:String,(ty= "str_ascii_iterator"\/ ty= "str_iterator")->zT X ae σ tg R (.ref s1.heap.objs.size) {s1 with heap:=s1.heap.push {cls:=.type ty,data:=.fields #[.str x t,.int 0 0]}}:=fun ty hty=>by
  refine⟨s1.heap.objs.size,[s1.heap.objs.size],_,_,H1,rfl,I1.kept (t':=s1.toks) fun b o e=>Heap.get?_push_of_some _ e,a51 _ x t ty hty,⟨_,Heap.get?_push_size _ rfl,rfl,rfl⟩,fun b hb=> ?_,q⟩
  have e:b=s1.heap.objs.size:=by simpa using hb
  subst e
  exact I1.fpOk (Nat.le_refl _) (I1.hok.fresh (Nat.le_refl _))
 cases ha:x.cps.all (·<128)
 ·exact wpAny_pyIter_wide ha (fin _ (.inr rfl))
 ·exact wpAny_pyIter_ascii ha (fin _ (.inl rfl))
end
section
variable{R:Result->Shared->Prop}
theorem a5a{elt target:Expr}{ifs:List Expr}{pos:Pos}{it acc:Value}{env:Env}(I:Nat->Shared->Prop)
 (turn:∀n s,I n s->wpAny (model prog w) A (pyNext it) (fun r s₁=>match r with
  |none=>R (.ok .next) s₁
  |some v=>wpAny (model prog w) A (letOwnedTupleGo target it v) (fun _ s₁'=>wpAny (model prog w) A (assign target env v) (fun _ s₂=>
   wpAny (model prog w) A (forIn ifs true fun c r=>if r=true then do let ok<- isTrue c env (eval c env);pure (ForInStep.yield ok) else pure (ForInStep.yield r)) (fun ok s₃=>
    if ok=true then wpAny (model prog w) A (eval elt env) (fun x s₄=>
     wpAny (model prog w) A (call (.builtin "list.append") [acc,x]) (fun _ s₅=>∃m,m<n/\I m s₅) (fun _ _=>False) s₄) (fun _ _=>False) s₃
    else∃m,m<n/\I m s₃) (fun _ _=>False) s₂) (fun _ _=>False) s₁') (fun _ _=>False) s₁) (fun _ _=>False) s)
 (n:Nat)(h:I n s):
 codeAny (model prog w) A (.compLoop (.ListComp elt [⟨target,iter,ifs,0⟩] ai pos) 0 it acc env) R s:=by
 refine codeAny_loop rfl I (fun n s hI=> ?_) n h
 show wpAny _ A ((compTurn (.ListComp elt [⟨target,iter,ifs,0⟩] ai pos) 0 it acc env).onRaise (fun x=>do noteFrame x env;theTreesLotGoes x)) _ _ s
 refine wpAny_noted ?_
 rw[compTurn_list]
 refine wpAny_bind (wpAny_standAt (wpAny_bind (wpAny_mono (turn n s hI) (fun r s₁ h₁=> ?_) fun _ _ h'=>h'.elim)))
 cases r with
 |none=>exact wpAny_pure h₁
 |some v=>
  refine wpAny_bind (wpAny_mono h₁ (fun _ s₁' h₁'=> ?_) fun _ _ h'=>h'.elim)
  refine wpAny_bind (wpAny_mono h₁' (fun _ s₂ h₂=>wpAny_bind (wpAny_mono h₂ (fun ok s₃ h₃=> ?_) fun _ _ h'=>h'.elim)) fun _ _ h'=>h'.elim)
  cases ok with
  |false=>exact wpAny_pure ⟨rfl,h₃⟩
  |true=>
   exact wpAny_bind (wpAny_bind (wpAny_mono h₃ (fun x s₄ h₄=>wpAny_bind (wpAny_mono h₄ (fun _ s₅ h₅=>wpAny_pure (wpAny_pure ⟨rfl,h₅⟩)) fun _ _ h'=>h'.elim)) fun _ _ h'=>h'.elim))
end
noncomputable def lS (X:Cx) (ai:Scope) (cl:List (Str×Addr)) (C:Addr) (N':List Str) (fp:List Addr) (ae:List (Addr×Obj)) (s:Shared) (H:Hp):Cx where
 prog:=X.prog
 w:=X.w
 K:=X.K
 mg:=X.mg
 base:=X.base
 A:=X.A
 N:=N'
 s₀:=s
 H₀:=H
 env:=compEnvC ai cl C X.env
 outer:=X.stack
 stack:=X.stack
 ex:=fp
 calm:=X.calm
 fn:=fun _=>false
 pn:=X.pn++ ae
 xe:=fun _ _=>False
structure pF(X:Cx)(ai:Scope)(cl:List (Str×Addr))(cp:List (Nat×Str)):Prop where
 kind:ai.kind= .function
 nocell:∀y∈ai.names,y.2≠ .cell
 names:∀y∈ai.names,y.2= .local->ai.names.lookup y.1=some .local
 clos:closureFor ai X.env=pure cl
 sub:∀x c,cl.lookup x=some c->X.env.cells.lookup x=some c
 has:∀x,((relabel ai X.env).names.lookup x=some .cell\/ (relabel ai X.env).names.lookup x=some .free)->∃c,cl.lookup x=some c
 at':∀p∈cp,X.N[p.1]?=some p.2/\(X.env.scope.names.lookup p.2=some .cell\/ X.env.scope.names.lookup p.2=some .free)/\((relabel ai X.env).names.lookup p.2=some .cell\/ (relabel ai X.env).names.lookup p.2=some .free)
noncomputable def gT (cp:List (Nat×Str)) (σ:St):St:=cp.map fun p=>(σ[p.1]?).getD none
section
variable{cl:List (Str×Addr)}
theorem a50(I:aD X ae σ H s)(c:pF X ai cl cp)(hf:∀b∈fp,jT X ae H b)(hfo:∀b∈fp,b<s.heap.objs.size){ty:String}{tk:Nat}{m:Str->Option Value}(hm:h'.Ns s.heap.objs.size m)
 (sb:Heap.SameBut s.heap.objs.size (s.heap.push {cls:=.type ty,data:=.dict #[]}) h'):
 aD (lS X ai cl s.heap.objs.size (x::cp.map (·.2)) fp ae s H) [] (none::gT cp σ) H {s with heap:=h',toks:=tk}:=by
 have old:∀b o,s.heap.get? b=some o->h'.get? b=some o:=fun b o e=>(sb.2 b (Nat.ne_of_lt (Heap.lt_size e))).trans (Heap.get?_push_of_some _ e)
 have hC:H s.heap.objs.size=none:=I.hok.fresh (Nat.le_refl _)
 refine⟨⟨I.ok.mod,c.kind,I.ok.glob,I.ok.blt,Nat.le_refl _,fun y z k h1 h2=>I.ok.inj y z k (c.sub _ _ h1) (c.sub _ _ h2),c.has,fun y k z=>(Bool.noConfusion z),I.ok.hd,I.ok.frames,.inl rfl,fun b hb=> ?_,fun b o e=>I.bs b o e,Nat.le_trans I.ok.bsz I.sz,fun b o e hb=> ?_,fun b hb hz=> ?_,I.stack,I.stkFree⟩,
  rfl,I.bare,Un.kept old,⟨m,hm,fun i y v h1 h2 h3=> ?_⟩,fun y k e=> ?_,hC,fun y k e=>I.freeC y k (c.sub y k e),fun p hp=> ?_,I.hok.kept old,?_⟩
 ·obtain⟨f0,f1,f2,f3,f4,f5⟩:=hf b hb
  exact⟨Nat.ne_of_lt (hfo b hb),fun y k e=>f4 y k (c.sub y k e)⟩
 ·obtain⟨f0,f1,f2,f3,f4,f5⟩:=hf b hb
  rcases f3 with z|z
  ·exact I.ok.noex b o e z
  ·exact absurd (Nat.lt_of_lt_of_le (Heap.lt_size (I.ok.bs b o e).1) z) (Nat.lt_irrefl _)
 ·obtain⟨f0,f1,f2,f3,f4,f5⟩:=hf b hb
  rcases List.mem_cons.mp (I.stkSub b hz)with e|e
  ·exact f1 e
  ·exact f2 e
 ·cases i with
  |zero=>simp at h2
  |succ i=>
   have h1':(cp.map (·.2))[i]?=some y:=by
    have z:(x::cp.map (·.2))[i+ 1]?=some y:=h1
    rw[List.getElem?_cons_succ]at z
    exact z
   have h2':(gT cp σ)[i]?=some (some v):=by simpa using h2
   unfold gT at h2'
   rw[List.getElem?_map]at h1' h2'
   cases e:cp[i]? with
   |none=>rw[e]at h1';cases h1'
   |some p=>
    rw[e]at h1' h2'
    simp only[Option.map_some,Option.some.injEq]at h1' h2'
    obtain⟨k1,k2,k3⟩:=c.at' p (List.mem_of_getElem? e)
    subst h1'
    have h2'':σ[p.1]?=some (some v):=by
     cases q:σ[p.1]? with
     |none=>rw[q]at h2';cases h2'
     |some z=>rw[q]at h2';simpa using h2'
    obtain⟨m0,hn0,hl0⟩:=I.loc
    obtain⟨u,r,l⟩:=hl0 p.1 p.2 v k1 h2'' (k2.elim (fun z=> .inr (.inl z)) fun z=> .inr (.inr z))
    refine⟨u,r,.inr ⟨k3,?_⟩⟩
    rcases l with⟨z,_⟩|⟨_,cc,e1,e2⟩
    ·have z':X.env.scope.names.lookup p.2=some .local:=z
     rcases k2 with k|k<;>(rw[z']at k;cases k)
    ·obtain⟨cc',e3⟩:=c.has p.2 k3
     have e4:=c.sub _ _ e3
     rw[e1]at e4
     cases e4
     obtain⟨o,ho,hd⟩:=e2
     exact⟨cc,e3,o,old _ _ ho,hd⟩
 ·obtain⟨v,o,ho,hd⟩:=I.cell y k (c.sub y k e)
  exact⟨v,o,old _ _ ho,hd⟩
 ·have hp':p∈X.pn++ ae:=by
   rcases List.mem_append.mp hp with z|z
   ·exact z
   ·cases z
  obtain⟨e,n,ne,nf,d⟩:=I.pin p hp'
  refine⟨old _ _ e,n,Nat.ne_of_lt (Heap.lt_size e),fun hz=> ?_,d⟩
  rcases List.mem_cons.mp (I.stkSub p.1 hz)with q|q
  ·exact ne q
  ·exact nf q
 ·show(none::gT cp σ).length=(x::cp.map (·.2)).length
  simp[gT]
theorem aD.uncomp{N':List Str}{σ':St}{h'':Heap}(I:aD X ae σ H s)(hC:C=s.heap.objs.size)(hf:∀b∈fp,jT X ae H b)(J:aD (lS X ai cl C N' fp ae s H) [] σ' H' s')(sb:Heap.SameBut C s'.heap h''):
 aD X ae σ H' {s' with heap:=h''}:=by
 have ne:∀b o,s.heap.get? b=some o->b≠C:=fun b o e=>by rw[hC];exact Nat.ne_of_lt (Heap.lt_size e)
 have B:Un (fS X.stack) fp H H' s.heap s'.heap:=J.base
 refine I.call' (s':={s' with heap:=h''}) (ch:=fp) (show s'.os=s.os from J.os) ⟨fun b o e n hb hx=> ?_,fun b o e n hb hx=> ?_,B.free,fun b o e hx=> ?_,B.tups,B.frzs,B.tbls⟩ (fun b ob e=> ?_) J.bare fun b hb=> ?_
 ·exact(sb.2 b (ne b o e)).trans (B.keep b o e n hb hx)
 ·obtain⟨sl,q⟩:=B.slot b o e n hb hx
  exact⟨sl,(sb.2 b (ne b o e)).trans q⟩
 ·obtain⟨o',q⟩:=B.there b o e hx
  exact⟨o',(sb.2 b (ne b o e)).trans q⟩
 ·have hfree:H' C=none:=J.free
  refine(J.hok b ob e).stay (fun k w' hk q=>(sb.2 k ?_).trans q) (fun _ q=>q) fun _ _ q=>q
  rintro rfl
  rcases hk with rfl|hk
  ·rw[hfree]at e;cases e
  ·rw[hfree]at hk;cases hk
 ·obtain⟨f0,f1,f2,f3,f4,f5⟩:=hf b hb
  exact⟨f3,f1,f4,f5⟩
end
def vR(X:Cx)(ifs:List Expr)(t:TT):Prop:=
 ∀(ae:List (Addr×Obj)) (s:Shared) (σ:St) (H:Hp) (Q:Bool->Hp->Prop),aD X ae σ H s->t σ H Q->
  wpAny (model X.prog X.w) X.A (forIn ifs true fun c r=>if r=true then do let ok<- isTrue c X.env (eval c X.env);pure (ForInStep.yield ok) else pure (ForInStep.yield r)) (TP X ae σ Q) X.xe s
def pZ:TT:=fun _ H Q=>Q true H
theorem mG:vR X [] pZ:=fun _ _ _ H _ I h=>wpAny_tests_nil ⟨H,I,h⟩
def oV(cp:List (Nat×Str))(tt:TT)(te:TE)(σ:St)(J:It)(D:Addr)(Q:VK)(H1:Hp):Prop:=
 ∃W:Nat->Nat->Hp->Prop,(∃m,W 0 m (upd H1 D (.lst [])))/\∀i m H2,W i m H2->(J.stop i H2/\Q (.ref D) H2)\/
  (J.go i H2/\∃(N:VK) (N':Hp->Prop),(∀y H5,N y H5->∃ys m',H5 D=some (.lst ys)/\ys.length<sizeLine/\m'<m/\W (i+ 1) m' (upd H5 D (.lst (ys++ [y]))))/\(∀H4,N' H4->∃m',m'<m/\W (i+ 1) m' H4)/\
   ∀v H3,J.yld i H2 v H3->tt (some v::gT cp σ) H3 fun b H4=>if b=true then te (some v::gT cp σ) H4 N else N' H4)
def a31(cp:List (Nat×Str))(wi:TI)(tt:TT)(te:TE):TE:=fun σ H Q=>wi σ H fun J H1=>∀D,H1 D=none->oV cp tt te σ J D Q H1
section
variable{cl:List (Str×Addr)}{px pos:Pos}{elt:Expr}{ifs:List Expr}{wi:TI}{tt:TT}
theorem a0P{s2:Shared}{it:Addr}{tn:Nat->Heap->Prop}{J:It}{Q:VK}{R:Addr->Result->Shared->Prop}{E:Value->Shared->Prop}(c:pF X ai cl cp)(hcalm:X.calm=true)(hx:ai.names.lookup x=some .local)(hnd:(x::cp.map (·.2)).Nodup)
 (ht:∀C fp ae s H,vR (lS X ai cl C (x::cp.map (·.2)) fp ae s H) ifs tt)(he:∀C fp ae s H,PE (lS X ai cl C (x::cp.map (·.2)) fp ae s H) elt te)
 (I2:aD X ae σ H2 s2)(T:oK X.prog X.w X.K (.Name x px) J fp it tn)(st2:tn 0 s2.heap)(f2:∀b∈fp,jT X ae H2 b)(q:oV cp tt te σ J s2.heap.objs.size Q H2)
 (hR:∀(C:Addr) (H':Hp) (s':Shared),(∃m,s'.heap.Ns C m)->X.s₀.heap.objs.size<=C->H' C=none->C≠X.env.locals->(∀x c,X.env.cells.lookup x=some c->c≠C)->(∀p∈X.pn++ ae,p.1≠C)->(∀h'',Heap.SameBut C s'.heap h''->aD X ae σ H' {s' with heap:=h''})->Q (.ref s2.heap.objs.size) H'->R C (.ok .next) s'):
 wpAny (model X.prog X.w) X.A (newList []) (fun acc s₃=>wpAny (model X.prog X.w) X.A (newFunctionEnv ai X.env.globals cl [] X.env.qual none .none (some X.env)) (fun cenv s₄=>
  acc= .ref s2.heap.objs.size/\codeAny (model X.prog X.w) X.A (.compStart (.ListComp elt [⟨.Name x px,iter,ifs,0⟩] ai pos) 0 (.ref it) acc {cenv with scope:=relabel ai X.env}) (R cenv.locals) s₄) E s₃) E s2:=by
 obtain⟨W,⟨m0,w0⟩,turn⟩:=q
 refine wpAny_newObj_type ?_
 have I3:aD X ae σ (upd H2 s2.heap.objs.size (.lst [])) {s2 with heap:=s2.heap.push {cls:=.type "list",dict:=none,data:=.seq ([]:List Value).toArray}}:=
  I2.lnew (t':=s2.toks) (ys:=[]) (its:=[]) .nil (Nat.zero_le _)
 have fpo:∀b∈fp,b<s2.heap.objs.size:=fun b hb=>by
  obtain⟨o,e,_⟩:=T.obj _ _ st2 b hb
  exact Heap.lt_size e
 have f3:∀b∈fp,jT X ae (upd H2 s2.heap.objs.size (.lst [])) b:=fun b hb=>⟨by rw[aI (Nat.ne_of_lt (fpo b hb))];exact(f2 b hb).1,(f2 b hb).2⟩
 generalize hs3:({s2 with heap:=s2.heap.push {cls:=.type "list",dict:=none,data:=.seq ([]:List Value).toArray}}:Shared)=s3 at I3
 have e3:s3.heap=s2.heap.push {cls:=.type "list",dict:=none,data:=.seq ([]:List Value).toArray}:=by rw[<- hs3]
 have sz3:s2.heap.objs.size<s3.heap.objs.size:=by rw[e3,Heap.size_push];exact Nat.lt_succ_self _
 refine wpAny_newFunctionEnv c.nocell (by intro y hy;cases hy) (fun h₁ hns sb=> ?_) c.kind
 have J3:=a50 (x:=x) (tk:=s3.toks+ ([]:List (Str×Value)).length) I3 c f3 (fun b hb=>Nat.lt_trans (fpo b hb) sz3) hns sb
 refine⟨rfl,?_⟩
 have st3:tn 0 h₁:=T.keep _ _ _ st2 fun b hb o e=>(sb.2 b (Nat.ne_of_lt (Nat.lt_trans (fpo b hb) sz3))).trans (Heap.get?_push_of_some _ (by rw[e3];exact Heap.get?_push_of_some _ e))
 generalize hX:lS X ai cl s3.heap.objs.size (x::cp.map (·.2)) fp ae s3 (upd H2 s2.heap.objs.size (.lst []))=X' at J3
 have eA:X'.A=X.A:=by rw[<- hX];rfl
 have eP:X'.prog=X.prog:=by rw[<- hX];rfl
 have ew:X'.w=X.w:=by rw[<- hX];rfl
 have eK:X'.K=X.K:=by rw[<- hX];rfl
 have ec:X'.calm=true:=by rw[<- hX];exact hcalm
 have ee:X'.env=compEnvC ai cl s3.heap.objs.size X.env:=by rw[<- hX];rfl
 have ex:X'.xe=fun _ _=>False:=by rw[<- hX];rfl
 have fpX:∀{H':Hp},(∀b∈fp,H' b=none)->∀b∈fp,jT X' [] H' b:=fun hn b hb=>by
  obtain⟨f0,f1,f2',f3',f4,f5⟩:=f3 b hb
  subst hX
  refine⟨hn b hb,Nat.ne_of_lt (Nat.lt_trans (fpo b hb) sz3),fun hz=> ?_,.inl hb,fun y k e=>f4 y k (c.sub y k e),fun p hp=> ?_⟩
  ·rcases List.mem_cons.mp (I3.stkSub b hz)with e|e
   ·exact f1 e
   ·exact f2' e
  ·rcases List.mem_append.mp hp with z|z
   ·exact f5 p z
   ·cases z
 have pT:=ht s3.heap.objs.size fp ae s3 (upd H2 s2.heap.objs.size (.lst []))
 have pE:=he s3.heap.objs.size fp ae s3 (upd H2 s2.heap.objs.size (.lst []))
 have pG:PG X' (.Name x px) (tO 0):=by
  subst hX
  exact gQ hnd rfl (.inl (lookup_relabel_local hx)) (.inr (lookup_relabel_local hx))
 rw[hX]at pT pE
 have loop:codeAny (model X.prog X.w) X.A (.compLoop (.ListComp elt [⟨.Name x px,iter,ifs,0⟩] ai pos) 0 (.ref it) (.ref s2.heap.objs.size) (compEnvC ai cl s3.heap.objs.size X.env)) (R s3.heap.objs.size) {s3 with heap:=h₁,toks:=s3.toks+ ([]:List (Str×Value)).length}:=by
  refine a5a (fun n s'=>∃i o H',aD X' [] (o::gT cp σ) H' s'/\tn i s'.heap/\(∀b∈fp,H' b=none)/\W i n H') ?_ m0 ⟨0,none,_,J3,st3,fun b hb=>(f3 b hb).1,w0⟩
  rintro n s5 ⟨i,o,H5,J5,st5,fr5,w5⟩
  rcases turn i n H5 w5 with⟨stop,qn⟩|⟨go,N,N',hN,hN',step⟩
  ·have z:=T.done X' eP ew eK ec i [] s5 _ H5 (fun _ _=>False) J5 (fpX fr5) st5 stop
   rw[eA]at z
   refine aT z ?_
   rintro r s6 ⟨hr,J6⟩
   subst hr
   subst hX
   obtain⟨m6,hn6,_⟩:=J6.loc
   refine hR s3.heap.objs.size H5 s6 ⟨m6,hn6⟩ I3.sz J6.free (Nat.ne_of_gt I3.lt) (fun y k e z=> ?_) (fun p hp z=> ?_) (fun h'' sb'=>I3.uncomp rfl f3 J6 sb') qn
   ·obtain⟨v,w'⟩:=I3.cell y k e
    exact absurd w'.lt (by rw[z];exact Nat.lt_irrefl _)
   ·exact absurd (Heap.lt_size (I3.pin p hp).1) (by rw[z];exact Nat.lt_irrefl _)
  ·have z:=T.item X' eP ew eK ec i [] s5 _ H5 (fun _ _=>False) J5 (fpX fr5) st5 go
   rw[eA]at z
   refine aT z ?_
   rintro r s6 ⟨u,hr,h6⟩
   subst hr
   refine aT h6 ?_
   rintro _ s7 ⟨v,H7,J7,r7,y7,st7,fr7⟩
   have J7':=J7.pinned (fpX fr7) (T.obj _ _ st7)
   have z8:=pG _ s7 _ H7 v u (fun σ' H'=>σ'=some v::gT cp σ/\H'=H7) J7' r7 ⟨rfl,rfl⟩
   rw[eA,eP,ew,ee,ex]at z8
   refine aT z8 ?_
   rintro _ s8 ⟨σ8,H8,J8,e8,e8'⟩
   subst e8 e8'
   have z9:=pT _ s8 _ H8 _ J8 (step v H8 y7)
   rw[eA,eP,ew,ee,ex]at z9
   refine aT z9 ?_
   rintro ok s9 ⟨H9,J9,q9⟩
   have fin:∀{H':Hp} {s':Shared},aD X' ([] ++ rY fp s7.heap) (some v::gT cp σ) H' s'->(∃m',m'<n/\W (i+ 1) m' H')->∃m,m<n/\∃i o H',aD X' [] (o::gT cp σ) H' s'/\tn i s'.heap/\(∀b∈fp,H' b=none)/\W i m H':=fun{H' s'} K' ⟨m',hm,w'⟩=>by
    refine⟨m',hm,i+ 1,some v,H',K'.unpinned,T.keep _ _ _ st7 fun b hb ob e=>(K'.pin (b,ob) (List.mem_append_right _ (List.mem_append_right _ (sQ hb e)))).1,fun b hb=> ?_,w'⟩
    obtain⟨ob,e,d⟩:=T.obj _ _ st7 b hb
    exact(K'.pin (b,ob) (List.mem_append_right _ (List.mem_append_right _ (sQ hb e)))).2.1
   cases ok with
   |false=>
    rw[if_neg Bool.false_ne_true]at q9|-
    exact fin J9 (hN' _ q9)
   |true=>
    rw[if_pos rfl]at q9|-
    have z10:=pE _ s9 _ H9 _ J9 q9
    rw[eA,eP,ew,ee,ex]at z10
    refine aT z10 ?_
    rintro u10 s10 ⟨y,H10,J10,r10,n10⟩
    obtain⟨ys,m',hD,hz,hm,w'⟩:=hN y H10 n10
    have z11:=jN (X:=X') _ s10 _ H10 (.ref s2.heap.objs.size) [y] (.ref s2.heap.objs.size) [u10] (fun _ H'=>H'=upd H10 s2.heap.objs.size (.lst (ys++ [y]))) J10 rfl (.cons r10 .nil) ⟨_,ys,y,rfl,rfl,hD,hz,rfl⟩
    rw[eA,eP,ew,ex]at z11
    refine aT z11 ?_
    rintro u11 s11 ⟨y',H11,J11,r11,e11⟩
    subst e11
    exact fin J11 ⟨m',hm,w'⟩
 exact codeAny_compStart_list loop (T.self _ 0 _ _ _ st3 loop)
theorem sK(c:pF X ai cl cp)(hcalm:X.calm=true)(hx:ai.names.lookup x=some .local)(hnd:(x::cp.map (·.2)).Nodup)(hi:PI X (.Name x px) iter wi)
 (ht:∀C fp ae s H,vR (lS X ai cl C (x::cp.map (·.2)) fp ae s H) ifs tt)(he:∀C fp ae s H,PE (lS X ai cl C (x::cp.map (·.2)) fp ae s H) elt te)
 (hs:∀v,foldedSetIterable iter X.env v=pure v:=by intro _;rfl):PE X (.ListComp elt [⟨.Name x px,iter,ifs,0⟩] ai pos) (a31 cp wi tt te):=by
 intro ae s σ H Q I h
 rw[eval_ListComp]
 refine wpAny_comprehension_free (use:=none) (g:=⟨.Name x px,iter,ifs,0⟩) (gs:=[]) (cl:=cl) rfl hs c.clos c.kind c.names ?_
 refine aT (hi ae s σ H _ I h) fun v s1 h1=>aT h1 fun itv s2 h2=> ?_
 obtain⟨it,fp,tn,J,H2,e,I2,T,st2,f2,q⟩:=h2
 subst e
 refine aT (a0P (iter:=iter) (pos:=pos) (R:=fun C=>compPost (model X.prog X.w) X.A X.xe none (EP X ae σ Q) (.ref s2.heap.objs.size) C) c hcalm hx hnd ht he I2 T st2 f2 (q _ (I2.hok.fresh (Nat.le_refl _))) ?_) fun acc s3 h3=>aT h3 fun cenv s4 h4=> ?_
 ·rintro C H' s' ⟨m,hn⟩ _ _ _ _ _ hI hq
  exact⟨m,hn,fun h'' sb=>⟨.ref s2.heap.objs.size,H',hI h'' sb,rfl,hq⟩⟩
 ·obtain⟨e,h4⟩:=h4
  subst e
  exact h4
theorem xN{y:Str}{py:Pos}(hN:X.N.Nodup)(hi':X.N[i]?=some y)(hy:X.env.scope.names.lookup y=some .local)(c:pF X ai cl cp)(hcalm:X.calm=true)(hx:ai.names.lookup x=some .local)(hnd:(x::cp.map (·.2)).Nodup)(hi:PI X (.Name x px) iter wi)
 (ht:∀C fp ae s H,vR (lS X ai cl C (x::cp.map (·.2)) fp ae s H) ifs tt)(he:∀C fp ae s H,PE (lS X ai cl C (x::cp.map (·.2)) fp ae s H) elt te)
 (hsw:swapsWith (.ListComp elt [⟨.Name x px,iter,ifs,0⟩] ai pos) (some (.Name y py)) pos'.line X.env=pure true)
 (hs:∀v,foldedSetIterable iter X.env v=pure v:=by intro _;rfl):PS X (.Assign [.Name y py] (.ListComp elt [⟨.Name x px,iter,ifs,0⟩] ai pos) pos') (xG (a31 cp wi tt te) (tO i)):=by
 intro ae s σ H D I h
 rw[exec_Assign_Name_used _ _ _ _ hsw]
 refine wpAny_bind (wpAny_standAt (wpAny_bind (wpAny_bind ?_)))
 refine wpAny_comprehension_free (use:=some (assign (.Name y py) X.env)) (g:=⟨.Name x px,iter,ifs,0⟩) (gs:=[]) (cl:=cl) rfl hs c.clos c.kind c.names ?_
 refine aT (hi ae s σ H _ I h) fun v s1 h1=>aT h1 fun itv s2 h2=> ?_
 obtain⟨it,fp,tn,J,H2,e,I2,T,st2,f2,q⟩:=h2
 subst e
 refine aT (a0P (iter:=iter) (pos:=pos) (R:=fun C=>compPost (model X.prog X.w) X.A X.xe (some (assign (.Name y py) X.env)) (fun _ s'=>wpAny (model X.prog X.w) X.A (pure ()) (fun _ s'=>wpAny (model X.prog X.w) X.A (pure Flow.next) (SP X ae D) X.xe s') X.xe s') (.ref s2.heap.objs.size) C) c hcalm hx hnd ht he I2 T st2 f2 (q _ (I2.hok.fresh (Nat.le_refl _))) ?_) fun acc s3 h3=>aT h3 fun cenv s4 h4=> ?_
 ·rintro C H' s' ⟨m,hn⟩ hC0 hCn hCL hCc hCp hI hq
  have I':aD X ae σ H' s':=hI s'.heap (Heap.SameBut.refl ..)
  refine wpAny_assign_Name (a0Q (v:=.ref s2.heap.objs.size) I' hN hi' (.inl hy) rfl (fun s'' I'' hb=> ?_) (.inr hy))
  obtain⟨a,sb,ha⟩:=hb
  have hne:C≠a:=by
   rcases ha with z|z
   ·rw[z];exact hCL
   ·exact fun e=>hCc y a z e.symm
  refine⟨m,hn.sameBut sb hne,fun h'' sb''=>wpAny_pure (wpAny_pure ⟨_,H',?_,hq⟩)⟩
  exact I''.turned (t':=s''.toks) (fun b o hb e=>(sb''.2 b hb).trans e) hCn hCL (.inr hC0) hCc hCp
 ·obtain⟨e,h4⟩:=h4
  subst e
  exact h4
end
theorem a1f:∀{bs:List Bool} {us:List Value},aX (bs.map V.bl) us->∀(i:Nat) (v:Value),us[i]?=some v->∃b:Bool,bs[i]?=some b/\v=Value.bool b
 | [],_,.nil,i,v,h=>by simp at h
 |b::bs,u::us,.cons r t,0,v,h=>by
  simp at h
  subst h
  cases r
  exact⟨b,rfl,rfl⟩
 |b::bs,u::us,.cons r t,i+ 1,v,h=>by
  obtain⟨b',e1,e2⟩:=a1f t i v (by simpa using h)
  exact⟨b',by simpa using e1,e2⟩
section
theorem a01(hc:X.calm=true):jA X (.builtin "all") (fun xs H Q=>∃(a:Addr) (bs:List Bool),xs= [.ref a] /\aM X.K H a (bs.map V.bl)/\Q (.bl (bs.all id)) H):=by
 intro ae s σ H xs us Q I r h
 obtain⟨a,bs,rfl,hq,q⟩:=h
 obtain⟨u,rfl,ru⟩:=r.one
 cases ru
 obtain⟨its,rv,pl,hz⟩:=I.list hq
 have hl:s.heap.IsList a its.toArray:=pl.isList
 have hlt:a<s.heap.objs.size:=by obtain⟨_,e,_⟩:=hl;exact Heap.lt_size e
 refine call_all_walk (wpAny_pyIter_list hl ?_)
 refine⟨s.heap.objs.size,[s.heap.objs.size,a],[s.heap.objs.size],its.toArray.size,_,_,fun i=>(bs[i]?).getD true,rfl,Walks.list (A:=X.A.in1) (I.ok.hd hc) _ a (Nat.ne_of_lt hlt) its.toArray,
  ⟨⟨_,Heap.get?_push_size _ rfl,rfl,rfl⟩,hl.push _⟩,fun i v s' Q' E' hP hQ=> ?_,fun h' tk hk=> ?_⟩
 ·obtain⟨b,e,rfl⟩:=a1f rv i v (by simpa using hP)
  simp only[e,Option.getD_some]at hQ
  exact wpAny_truthy_bool hQ
 ·have e:((List.range its.toArray.size).all fun i=>(bs[i]?).getD true)=bs.all id:=by
   have:=rv.length
   rw[List.length_map]at this
   rw[List.size_toArray,<- this]
   exact PyProof.Rows.LSm.range_all bs
  rw[e]
  refine⟨.bl _,H,I.kept (t':=tk) fun b o e'=>hk b o (fun hm=> ?_) (Heap.get?_push_of_some _ e'),rfl,q⟩
  rw[List.mem_singleton.mp hm]at e'
  exact Nat.lt_irrefl _ (Heap.lt_size e')
end
structure bG(P:Program)(w:World)(K:Fg)(mg:Str->Option Value)(af:Heap)(CX:eY)(k:Nat)(x:Str)(ps:List Str)(sp:Sp):Prop where
 ex:∃f fd,fA P w K mg af CX k f fd ps sp/\mg x=some (.ref f)/\W.keepIn K (.ref f)=true/\iA K fd ps []
section
variable{k:Nat}{E:XK}{p pos:Pos}{t:TA}
theorem bQ(G:bG X.prog X.w X.K X.mg X.base CX k x ps sp)(hr:bT k X.A)(hx:gY CX X E)(ha:PA X (e::es) t)(hg:Gl X x:=by rfl)(hdb:(x==("__debug__":Str))=false:=by decide)
 (he:starEach (e::es) X.env=(false,eval e X.env)::starEach es X.env:=by rfl)(hpl:(backTo pos (starEach es X.env)).any (·.1)=false:=by rfl):PE X (.Call (.Name x p) (e::es) [] pos) (oM sp [] E t):=by
 obtain⟨f,fd,F,hm,hk,hb⟩:=G.ex
 exact a62 F hr hg hm hk hb .nil hx ha hdb he hpl
end
def rC(D:Addr)(Pv:Nat->List V->Hp->Prop)(i:Nat)(ys:List V):VK:=fun y H5=>H5 D=some (.lst ys)/\ys.length<sizeLine/\Pv (i+ 1) (ys++ [y]) (upd H5 D (.lst (ys++ [y])))
theorem xH{J:It}{n:Nat}{Q:VK}(Pv:Nat->List V->Hp->Prop)(h0:Pv 0 [] (upd H1 D (.lst [])))
 (hg:∀i ys H,H D=some (.lst ys)->Pv i ys H->(i<n->J.go i H)/\(i=n->J.stop i H))
 (hs:∀i ys H v H',i<n->H D=some (.lst ys)->Pv i ys H->J.yld i H v H'->te (some v::gT cp σ) H' (rC D Pv i ys))
 (hd:∀ys H,H D=some (.lst ys)->Pv n ys H->Q (.ref D) H):oV cp pZ te σ J D Q H1:=by
 refine⟨fun i m H=>m=n- i/\i<=n/\∃ys,H D=some (.lst ys)/\Pv i ys H,⟨n,by simp,Nat.zero_le _,[],aJ,h0⟩,?_⟩
 rintro i m H ⟨rfl,hi,ys,hD,p⟩
 by_cases hlt:i<n
 ·refine .inr ⟨(hg i ys H hD p).1 hlt,rC D Pv i ys,fun _=>False,fun y H5 ⟨h1,h2,h3⟩=>⟨ys,n- (i+ 1),h1,h2,by omega,rfl,hlt,_,aJ,h3⟩,fun _ z=>z.elim,fun v H' y=> ?_⟩
  exact hs i ys H v H' hlt hD p y
 ·have e:i=n:=by omega
  subst e
  exact .inl ⟨(hg i ys H hD p).2 rfl,hd ys H hD p⟩
theorem yH{lo:Int}{n:Nat}{Q:VK}(Pv:Nat->List V->Hp->Prop)(h0:Pv 0 [] (upd H1 D (.lst [])))
 (hs:∀i ys H,i<n->H D=some (.lst ys)->Pv i ys H->te (some (.int (lo+ i))::gT cp σ) H (rC D Pv i ys))
 (hd:∀ys H,H D=some (.lst ys)->Pv n ys H->Q (.ref D) H):oV cp pZ te σ (mW lo n) D Q H1:=
 xH (n:=n) Pv h0 (fun i ys H _ _=>⟨fun h=>h,fun h=>by subst h;exact Nat.le_refl _⟩) (fun i ys H v H' hi hD p y=>by
  obtain⟨e,rfl⟩:=y
  subst e
  exact hs i ys _ hi hD p) hd
theorem a53{Q:VK}(Pv:Nat->List V->Hp->Prop)(h0:Pv 0 [] (upd H1 D (.lst [])))
 (hs:∀i c ys H,x.cps[i]?=some c->H D=some (.lst ys)->Pv i ys H->te (some (.str ⟨#[c]⟩)::gT cp σ) H (rC D Pv i ys))
 (hd:∀ys H,H D=some (.lst ys)->Pv x.cps.size ys H->Q (.ref D) H):oV cp pZ te σ (vJ x) D Q H1:=
 xH (n:=x.cps.size) Pv h0 (fun i ys H _ _=>⟨fun h=>h,fun h=>by subst h;exact Nat.le_refl _⟩) (fun i ys H v H' hi hD p y=>by
  obtain⟨e,c,hc,rfl⟩:=y
  subst e
  exact hs i c ys _ hc hD p) hd
theorem uL{Q:VK}(Pv:Nat->List V->Hp->Prop)(h0:Pv 0 [] (upd H1 D (.lst [])))
 (hl:∀i ys H,H D=some (.lst ys)->Pv i ys H->aM K H a xs)
 (hs:∀i x ys H,xs[i]?=some x->H D=some (.lst ys)->Pv i ys H->te (some x::gT cp σ) H (rC D Pv i ys))
 (hd:∀ys H,H D=some (.lst ys)->Pv xs.length ys H->Q (.ref D) H):oV cp pZ te σ (oS K a) D Q H1:=
 xH (n:=xs.length) Pv h0 (fun i ys H hD p=>⟨fun h=>⟨xs,xs[i],hl i ys H hD p,by simp[h]⟩,fun h=>by subst h;exact⟨xs,hl _ ys H hD p,Nat.le_refl _⟩⟩) (fun i ys H v H' hi hD p y=>by
  obtain⟨e,y⟩:=y
  subst e
  exact hs i v ys _ (y xs (hl i ys _ hD p)) hD p) hd
inductive Kd where
 |non|bl|int|str|lst|tup|dct
 deriving DecidableEq
def Kd.nm:Kd->String
 | .non=> "NoneType"| .bl=> "bool"| .int=> "int"| .str=> "str"| .lst=> "list"| .tup=> "tuple"| .dct=> "dict"
theorem a56(K:Fg)(a:Kd):W.kitOne K (.type a.nm) (.type "int")=some (decide (a= .int\/ a= .bl)):=by cases a<;>kernel_rfl
theorem a0V(K:Fg)(a:Kd):W.kitOne K (.type a.nm) (.type "bool")=some (decide (a= .bl)):=by cases a<;>kernel_rfl
theorem a1o(K:Fg)(a:Kd):W.kitOne K (.type a.nm) (.type "str")=some (decide (a= .str)):=by cases a<;>kernel_rfl
theorem sW(K:Fg)(a:Kd):W.kitOne K (.type a.nm) (.type "list")=some (decide (a= .lst)):=by cases a<;>kernel_rfl
theorem wO(K:Fg)(a:Kd):W.kitOne K (.type a.nm) (.type "tuple")=some (decide (a= .tup)):=by cases a<;>kernel_rfl
noncomputable def gO:PyData->Kd
 | .none=> .non| .bool _=> .bl| .int _=> .int| .str _=> .str| .list _=> .lst| .tuple _=> .tup| .dict _=> .dct
theorem kM:jA X (.builtin "isinstance") (fun xs H Q=>∃x T d k,xs= [x,.ty T] /\Dt X.K H x d/\W.kitOne X.K (.type (gO d).nm) (.type T)=some k/\Q (.bl k) H):=by
 intro ae s σ H xs us Q I r h
 obtain⟨x,T,d,k,rfl,hd,e,q⟩:=h
 obtain⟨u,c,rfl,r1,r2⟩:=r.two
 cases r2
 have fin:∀tk,EP X ae σ Q (.bool k) {s with toks:=tk}:=fun tk=>⟨.bl k,H,I.tok tk,rfl,q⟩
 cases hd with
 |non=>cases r1;exact W.kia_one W.kitx_none I.kIn True.intro e (fun z=>nomatch z) fin
 |bl b=>cases r1;exact W.kia_one W.kitx_bool I.kIn True.intro e (fun z=>nomatch z) fin
 |int i=>obtain⟨t,rfl⟩:=r1;exact W.kia_one W.kitx_int I.kIn True.intro e (fun z=>nomatch z) fin
 |str z=>obtain⟨t,rfl⟩:=r1;exact W.kia_one W.kitx_str I.kIn True.intro e (fun z=>nomatch z) fin
 |lst hq _=>
  cases r1
  obtain⟨its,_,⟨o,n,eo,hc,_,_⟩,_⟩:=I.list hq
  exact W.kia_one W.kitx_list I.kIn ⟨o,eo,hc⟩ e (fun z=>nomatch z) fin
 |tup hq _=>
  cases r1
  obtain⟨its,_,⟨o,eo,hc,_⟩,_⟩:=I.tuple hq
  exact W.kia_one W.kitx_tuple I.kIn ⟨o,eo,hc⟩ e (fun z=>nomatch z) fin
 |dK ea=>
  cases r1
  obtain⟨_,_,vs,_,o,es,ep,h1,h2,_⟩:=I.hok _ _ ea
  exact W.kia_one W.kitx_dict I.kIn ⟨o,h1,h2.1⟩ e (fun z=>nomatch z) fin
 |dT ea=>
  cases r1
  obtain⟨_,_,zs,_,o,es,ep,h1,h2,_⟩:=I.hok _ _ ea
  exact W.kia_one W.kitx_dict I.kIn ⟨o,h1,h2.1⟩ e (fun z=>nomatch z) fin
theorem wD(kind:ai.kind= .function:=by rfl)(plain:∀y∈ai.names,y.2= .local\/ y.2= .globalImplicit:=by decide)(names:∀y∈ai.names,y.2= .local->ai.names.lookup y.1=some .local:=by decide+kernel):pF X ai [] [] where
 kind:=kind
 nocell:=fun y hy z=>by rcases plain y hy with h|h<;>rw[h]at z<;>cases z
 names:=names
 clos:=closureFor_none fun y hy z=>by rcases plain y hy with h|h<;>rw[h]at z<;>cases z
 sub:=fun x c e=>by cases e
 has:=fun x h=>by
  have hm:∀(k:NameKind),(relabel ai X.env).names.lookup x=some k->k= .local\/ k= .globalImplicit:=fun k e=>by
   have m:=PySem.mem_of_lookup e
   unfold relabel at m
   obtain⟨⟨n,k'⟩,hy,e'⟩:=List.mem_map.mp m
   have q:=plain _ hy
   have nf:(k'==NameKind.free)=false:=by rcases q with h|h<;>(have h':k'=_:=h;subst h';rfl)
   simp only[nf,Bool.false_and,Bool.false_eq_true,if_false]at e'
   have:k'=k:=congrArg (·.2) e'
   rw[<- this]
   exact q
  rcases h with h|h
  ·rcases hm _ h with z|z<;>cases z
  ·rcases hm _ h with z|z<;>cases z
 at':=fun p hp=>by cases hp
structure dW(K:Fg)(mg:Str->Option Value)(x:Str)(st:Stmt):Prop where
 ex:∃f fd,jJ K x x st f fd/\mg x=some (.ref f)
section
theorem eM{st:Stmt}{osl:Array (Option Value)}{kV:Value}(X:K.In h)(G:h.Ns mainGlobals mg)(a:W.nsIn K mainGlobals x=some (some (.ref f)))
 (l:K.lookup f=some ⟨oc,od,.func (W.fnOf x x (jR st) (eZ st) (aO st) .none kV doc pm an ah ct),osl⟩)(c:W.codeIn K ah x=true)(k:W.keepIn K (.ref f)=true):dW K mg x st:=
 ⟨f,_,tM l c k,W.mg_of X G a⟩
theorem dW.known{st:Stmt}{k:Nat}(D:dW K mg x st)(S:bD N ps (aO st))
 (hb:∀(kV doc pm:Value) (an:Option Addr) (ah ct:Value) (us:List Value),us.length=ps.length->bindArgs (W.fnOf x x (jR st) (eZ st) (aO st) .none kV doc pm an ah ct) ⟨us,[]⟩=pure (ps.zip us))
 (len:∀vs H Q E,sp vs H Q E->vs.length=ps.length)
 (hbody:∀(f:Addr) (ah:Value) (A:Around) (ag:List Env) (s:Shared) (H:Hp) (vs:List V) (Q:VK) (E:XK),bT k (A.deeper (envOfC x (aO st) s.heap.objs.size f ah))->sp vs H Q E->
  ∃t,eS (eJ aE P w K mg af N x (aO st) f ah A ag s H E).nox (eZ st) t/\t {nx:=fun _ H'=>Q .non H',rt:=Q} (start N vs) H):bG P w K mg af aE (k+ 1) x ps sp:=by
 obtain⟨f,fd,F,hm⟩:=D.ex
 exact⟨f,fd,F.ok S len fun ah A ag s H vs Q E hr h=>hbody f ah A ag s H vs Q E hr h,hm,F.kp,F.binds hb⟩
end
theorem aH.new(h:H D=none):aH H (upd H D o):=fun b u e=>by rw[aI (bE e h)];exact e
theorem aH.on(e:aH H H2)(h:H D=none):aH H (upd H2 D o):=fun b u z=>by rw[aI (bE z h)];exact e b u z
abbrev one(c:Nat):Str:=⟨#[c]⟩
theorem a4D{α:Type}(xs:List α)(i:Int)(h0:0<=i)(h:i<xs.length):∃v,cQ xs i=some v/\xs[i.toNat]?=some v:=by
 have e:i=(i.toNat:Int):=by omega
 have hl:i.toNat<xs.length:=by omega
 generalize i.toNat=j at e hl
 subst e
 exact⟨_,sC (List.getElem?_eq_getElem hl),List.getElem?_eq_getElem hl⟩
theorem vV{n:Nat}{i:Int}(h0:0<=i)(h:i<n):iI n i=some i.toNat:=by
 unfold iI
 rw[if_pos h0,if_pos h]
theorem a5C(ns:List Int)(i:Int)(h0:0<=i)(h:i<ns.length):cQ (ns.map V.int) i=some (V.int (ns.getD i.toNat 0)):=by
 have e:i=(i.toNat:Int):=by omega
 have hl:i.toNat<ns.length:=by omega
 generalize i.toNat=j at e hl
 subst e
 refine sC ?_
 rw[List.getElem?_map,List.getElem?_eq_getElem hl]
 simp[List.getD,hl]
theorem tW{K:Fg}{H:Hp}:∀zs:List Str,dN K H (zs.map V.str) (zs.map PyData.str)
 | []=> .nil
 |z::r=> .cons (.str z) (tW r)
theorem a8O{cs:List Nat}(h:∀c∈cs,c<128):PyData.canLay0 (.str ⟨cs.toArray⟩)=true:=by
 have:∀c∈cs,c<1114112:=fun c hc=>by have:=h c hc;omega
 simp[PyData.canLay0,PyData.strOk]
 exact this
theorem sl{n:Nat}(h:n<=1000:=by simp):n<=sizeLine:=Nat.le_of_lt (dJ h)
theorem a1g:bootBuiltins "all"=some (.builtin "all"):=by kernel_rfl
theorem jD:bootBuiltins "isinstance"=some (.builtin "isinstance"):=by kernel_rfl
theorem a8s:bootBuiltins "abs"=some (.builtin "abs"):=by kernel_rfl
theorem gB:bootBuiltins "len"=some (.builtin "len"):=by kernel_rfl
theorem a58:bootBuiltins "int"=some (.type "int"):=by kernel_rfl
theorem a09:bootBuiltins "bool"=some (.type "bool"):=by kernel_rfl
theorem a3d:bootBuiltins "str"=some (.type "str"):=by kernel_rfl
theorem jL:bootBuiltins "list"=some (.type "list"):=by kernel_rfl
theorem zY:bootBuiltins "tuple"=some (.type "tuple"):=by kernel_rfl
structure Flew(fs own:List Addr)(h h':Heap):Prop where
 keep:∀b o,b∉own->b∉fs->h.get? b=some o->h'.get? b=some o
 slot:∀b o,b∉own->h.get? b=some o->∃sl,h'.get? b=some {o with slots:=sl}
structure ExcK(K:Fg)(C:Addr):Prop where
 hga:W.findIn K (.ref C) "__getattribute__"=some (some (.builtin "BaseException.__getattribute__"))
 hk:W.findIn K (.ref C) "__getattr__"=some none
 hc:∃cd,W.clsIn K C=some cd
 ha:W.findIn K (.ref C) "__class__"=some (some (.builtin "object.__class__"))
 hn:W.specialIn K (.builtin "object.__class__") "__get__"=some (some (.builtin "getset_descriptor.__get__"))
 ht:W.takesIn K (.builtin "object.__class__")=some true
 hm:W.mroIn K C (.type "object")=some true
 hb:W.mroIn K C (.type "BaseException")=some true
theorem a0z:∀{xs:List V} {us:List Value},us.length=xs.length->(∀(j:Nat) (x:V) (u:Value),xs[j]?=some x->us[j]?=some u->bA x u)->aX xs us
 | [],[],_,_=> .nil
 |x::xs,u::us,hl,h=> .cons (h 0 x u rfl rfl) (a0z (by simpa using hl) fun j y v e1 e2=>h (j+ 1) y v (by simpa using e1) (by simpa using e2))
 | [],_::_,hl,_=>by simp at hl
 |_::_,[],hl,_=>by simp at hl
def fP(lo:Int)(n:Nat):List V:=(List.range n).map fun(i:Nat)=>V.int (lo+ (i:Int))
theorem nN(lo:Int)(n:Nat):(fP lo n).length=n:=by unfold fP;rw[List.length_map,List.length_range]
section
theorem a5H:jA X (.type "range") (fun xs H Q=>∃j:Int,xs= [.int j] /\∀p,H p=none->Q (.ref p) (upd H p (.rng 0 j))):=by
 intro ae s σ H xs us Q I r h
 obtain⟨j,rfl,q⟩:=h
 obtain⟨u,rfl,t,rfl⟩:=pX r
 refine call_range_1 ⟨.ref s.heap.objs.size,_,I.laid (a:=s.heap.objs.size) (o:=.rng 0 j) (fun _ _ q=>Heap.get?_push_of_some _ q) (Nat.le_refl _) ?_,rfl,q _ (I.hok.fresh (Nat.le_refl _))⟩
 exact⟨_,_,_,Heap.get?_push_size _ rfl⟩
theorem a8n(hc:X.calm=true):jA X (.type "list") (fun xs H Q=>∃p lo hi,xs= [.ref p] /\H p=some (.rng lo hi)/\ -(2^ 62)<=lo/\lo<2^ 62/\ -(2^ 62)<=hi/\hi<2^ 62/\(hi- lo).toNat<=2^ 24/\∀l,H l=none->Q (.ref l) (upd H l (.lst (fP lo (hi- lo).toNat)))):=by
 intro ae s σ H xs us Q I r h
 obtain⟨p,lo,hi,rfl,hp,h1,h2,h3,h4,h5,q⟩:=h
 obtain⟨u,rfl,rx⟩:=pX r
 cases rx
 obtain⟨t,u,v,e⟩:=I.hok p _ hp
 have hn:Builtin.Range.rangeSize lo hi 1=((hi- lo).toNat:Int):=by rw[rangeSize_one];split<;>omega
 refine call_list_range (I.ok.hd hc) (show IsRange s.heap p lo hi 1 t u v from e) (small_one h1 h2 h3 h4) hn h5 fun h' tk acc c kp hD hI=> ?_
 refine⟨.ref s.heap.objs.size,_,I.laid (t':=tk) (o:=.lst (fP lo (hi- lo).toNat)) kp (Nat.le_refl _) ?_,rfl,q _ (I.hok.fresh (Nat.le_refl _))⟩
 refine⟨by rw[nN,sizeLine_eq];exact h5,acc.toList,c,a0z (by rw[nN,Array.length_toList];exact hI.1) fun j x u e1 e2=> ?_,by rw[Array.toArray_toList];exact hD⟩
 rw[Array.getElem?_toList]at e2
 obtain⟨t',rfl⟩:=hI.2 j u e2
 unfold fP at e1
 rw[List.getElem?_map]at e1
 cases z:(List.range (hi- lo).toNat)[j]? with
 |none=>rw[z]at e1;cases e1
 |some i=>
  rw[z]at e1
  have:i=j:=by
   have hl:j<(List.range (hi- lo).toNat).length:=(List.getElem?_eq_some_iff.mp z).1
   rw[List.getElem?_eq_getElem hl,List.getElem_range]at z
   exact(Option.some.inj z).symm
  subst this
  cases e1
  exact⟨t',by rw[Int.mul_one]⟩
theorem a6t{k:aB}(h:(fM P w).is k u=true):bA (kV k) u:=by
 rcases lC h with⟨i,t,rfl,rfl⟩|⟨x,t,rfl,rfl⟩
 ·exact⟨t,rfl⟩
 ·exact⟨t,rfl⟩
theorem KV.fst{κ:Type}:∀{kvs:List (κ×V)} {vs:List (κ×Value)},KV kvs vs->kvs.map (·.1)=vs.map (·.1)
 |_,_,.nil=>rfl
 |_,_,.cons r t=>by rw[List.map_cons,List.map_cons,r.1,KV.fst t]
end
def bP(s:Stmt)(j:Nat):Stmt:=match s with
 | .ClassDef _ _ _ body _ _ _ _ _ _ _=>body.getD j (.Pass ⟨0,0,0,0⟩)
 |_=> .Pass ⟨0,0,0,0⟩
theorem a5L:bootBuiltins "range"=some (.type "range"):=by kernel_rfl
structure aS(P:Program)(w:World)(K:Fg)(mg:Str->Option Value)(af:Heap)(CX:eY)(k:Nat)(C:Addr)(m:Str)(ps:List Str)(sp:Sp):Prop where
 ex:∃f fd,fA P w K mg af CX k f fd ps sp/\rZ K C m f/\iA K fd ps []
structure eU(P:Program)(w:World)(K:Fg)(mg:Str->Option Value)(af:Heap)(CX:eY)(k:Nat)(C:Addr)(ps:List Str)(sp:Sp):Prop where
 ex:∃f fd,fA P w K mg af CX k f fd ps sp/\Mk K C f/\iA K fd ps []
structure bM(K:Fg)(C:Addr)(m qual:Str)(st:Stmt):Prop where
 ex:∃f fd,jJ K m qual st f fd/\W.findIn K (.ref C) m=some (some (.ref f))/\W.isFn K (.ref f)=true
section
theorem bN{st:Stmt}{osl:Array (Option Value)}{kV:Value}(a:W.findIn K (.ref C) m=some (some (.ref f)))(i:W.isFn K (.ref f)=true)
 (l:K.lookup f=some ⟨oc,od,.func (W.fnOf m qual (jR st) (eZ st) (aO st) .none kV doc pm an ah ct),osl⟩)(c:W.codeIn K ah qual=true)(k:W.keepIn K (.ref f)=true):bM K C m qual st:=
 ⟨f,_,tM l c k,a,i⟩
theorem bM.known{st:Stmt}{k:Nat}(D:bM K C m qual st)(S:bD N ps (aO st))
 (hb:∀(kV doc pm:Value) (an:Option Addr) (ah ct:Value) (us:List Value),us.length=ps.length->bindArgs (W.fnOf m qual (jR st) (eZ st) (aO st) .none kV doc pm an ah ct) ⟨us,[]⟩=pure (ps.zip us))
 (len:∀vs H Q E,sp vs H Q E->vs.length=ps.length)
 (hbody:∀(f:Addr) (ah:Value) (A:Around) (ag:List Env) (s:Shared) (H:Hp) (vs:List V) (Q:VK) (E:XK),bT k (A.deeper (envOfC qual (aO st) s.heap.objs.size f ah))->sp vs H Q E->
  ∃t,eS (eJ aE P w K mg af N qual (aO st) f ah A ag s H E).nox (eZ st) t/\t {nx:=fun _ H'=>Q .non H',rt:=Q} (start N vs) H):aS P w K mg af aE (k+ 1) C m ps sp:=by
 obtain⟨f,fd,F,ha,hi⟩:=D.ex
 exact⟨f,fd,F.ok S len fun ah A ag s H vs Q E hr h=>hbody f ah A ag s H vs Q E hr h,⟨ha,hi,F.kp⟩,F.binds hb⟩
theorem aS.init{k:Nat}(G:aS P w K mg af CX k C "__init__" ps sp)(mk:W.makesIn K C=true)(kc:W.keepIn K (.ref C)=true):eU P w K mg af CX k C ps sp:=by
 obtain⟨f,fd,F,hm,hb⟩:=G.ex
 exact⟨f,fd,F,⟨mk,hm.at_,hm.fn,kc⟩,hb⟩
end
section
variable{k:Nat}{E:XK}{p pos:Pos}{o:Expr}{t:TA}
theorem cB{pl:Sem Bool}(he:PE X o ta)(c:cI X.K C)(G:aS X.prog X.w X.K X.mg X.base CX k C m ps sp)(hr:bT k X.A)(hx:gY CX X E)(ha:PA X (e::es) t)
 (hst:starEach (e::es) X.env=(false,eval e X.env)::starEach es X.env:=by rfl)(hpl:(backTo pos (starEach es X.env)).any (·.1)=false:=by rfl)
 (ht:eval (.Call (.Attribute o m apos) (e::es) [] pos) X.env=(do
  let ov<- eval o X.env
  standAt apos.atName
  let (f,first)<- holding [ov] (getMethod ov m pl)
  callWith pos f first (backTo pos (starEach (e::es) X.env)) (backToKw pos (keywordEach [] X.env))):=by rfl):
 PE X (.Call (.Attribute o m apos) (e::es) [] pos) (qI C m sp [] E ta t):=by
 obtain⟨f,fd,F,hm,hb⟩:=G.ex
 exact a6K (pl:=pl) he c hm F hr hb .nil hx ha hst hpl ht
theorem lM{pl:Sem Bool}(he:PE X o ta)(c:cI X.K C)(G:aS X.prog X.w X.K X.mg X.base CX k C m ps sp)(hr:bT k X.A)(hx:gY CX X E)
 (ht:eval (.Call (.Attribute o m apos) [] [] pos) X.env=(do
  let ov<- eval o X.env
  standAt apos.atName
  let (f,first)<- holding [ov] (getMethod ov m pl)
  callWith pos f first (backTo pos (starEach [] X.env)) (backToKw pos (keywordEach [] X.env))):=by rfl):
 PE X (.Call (.Attribute o m apos) [] [] pos) (qI C m sp [] E ta kP):=by
 obtain⟨f,fd,F,hm,hb⟩:=G.ex
 exact a5i (pl:=pl) he c hm F hr hb .nil hx ht
theorem lL(G:eU X.prog X.w X.K X.mg X.base CX k C ps sp)(hr:bT (k+ 1) X.A)(hm:X.mg x=some (.ref C))(hx:gY CX X E)
 (ha:PA X (e::es) t)(hg:Gl X x:=by rfl)(hdb:(x==("__debug__":Str))=false:=by decide)(he:starEach (e::es) X.env=(false,eval e X.env)::starEach es X.env:=by rfl)(hpl:(backTo pos (starEach es X.env)).any (·.1)=false:=by rfl):
 PE X (.Call (.Name x p) (e::es) [] pos) (vA C sp [] E t):=by
 obtain⟨f,fd,F,M,hb⟩:=G.ex
 exact a4u M F hr hg hm hb .nil hx ha hdb he hpl
end
noncomputable def fJ (cells:List (Str×Addr)):List (Str×NameKind)->List (Str×Addr)->List (Str×Addr)
 | [],acc=>acc
 |(n,k)::r,acc=>fJ cells r (if k== .free then(n,(cells.lookup n).getD 0)::acc else acc)
theorem zC{env:Env}:∀{names:List (Str×NameKind)} {acc:List (Str×Addr)},(∀y∈names,y.2= .free->∃c,env.cells.lookup y.1=some c)->
 (forIn names acc fun(x:Str×NameKind) (cs:List (Str×Addr))=>(do
  let (name,kind):=x
  if kind==NameKind.free then(do let a<- cellOf env name;pure (ForInStep.yield ((name,a)::cs))) else pure (ForInStep.yield cs):Sem (ForInStep (List (Str×Addr)))))=pure (fJ env.cells names acc)
 | [],acc,_=>rfl
 |(n,k)::r,acc,h=>by
  rw[List.forIn_cons]
  by_cases hk:(k==NameKind.free)=true
  ·obtain⟨c,hc⟩:=h (n,k) List.mem_cons_self (by simpa using hk)
   have e:cellOf env n=pure c:=by unfold cellOf;rw[show env.cells.lookup n=some c from hc]
   have ih:=zC (env:=env) (names:=r) (acc:=(n,c)::acc) fun y hy=>h y (List.mem_cons_of_mem _ hy)
   show(do let r<- (if k==NameKind.free then(do let a<- cellOf env n;pure (ForInStep.yield ((n,a)::acc))) else pure (ForInStep.yield acc):Sem (ForInStep (List (Str×Addr))));_)=_
   rw[if_pos hk,e,pure_bind,pure_bind]
   refine Eq.trans ih ?_
   show _=pure (fJ env.cells r (if(k==NameKind.free)=true then(n,(env.cells.lookup n).getD 0)::acc else acc))
   rw[if_pos hk,show env.cells.lookup n=some c from hc]
   rfl
  ·have ih:=zC (env:=env) (names:=r) (acc:=acc) fun y hy=>h y (List.mem_cons_of_mem _ hy)
   show(do let r<- (if k==NameKind.free then(do let a<- cellOf env n;pure (ForInStep.yield ((n,a)::acc))) else pure (ForInStep.yield acc):Sem (ForInStep (List (Str×Addr))));_)=_
   rw[if_neg hk,pure_bind]
   refine Eq.trans ih ?_
   show _=pure (fJ env.cells r (if(k==NameKind.free)=true then(n,(env.cells.lookup n).getD 0)::acc else acc))
   rw[if_neg hk]
theorem wU{cells:List (Str×Addr)}:∀{names:List (Str×NameKind)} {acc:List (Str×Addr)},(∀y∈names,y.2= .free->∃c,cells.lookup y.1=some c)->(∀x c,acc.lookup x=some c->cells.lookup x=some c)->
 ∀x c,(fJ cells names acc).lookup x=some c->cells.lookup x=some c
 | [],_,_,h=>h
 |(n,k)::r,acc,hf,h=>by
  refine wU (names:=r) (fun y hy=>hf y (List.mem_cons_of_mem _ hy)) ?_
  intro x c e
  by_cases hk:(k==NameKind.free)=true
  ·obtain⟨c',hc⟩:=hf (n,k) List.mem_cons_self (by simpa using hk)
   have hc':cells.lookup n=some c':=hc
   rw[if_pos hk,hc',List.lookup_cons]at e
   by_cases hx:(x==n)=true
   ·rw[hx]at e
    cases e
    have:x=n:=by simpa using hx
    rw[this]
    exact hc'
   ·rw[show (x==n)=false by simpa using hx]at e
    exact h x c e
  ·rw[if_neg hk]at e
   exact h x c e
theorem a1e{cells:List (Str×Addr)}:∀{names:List (Str×NameKind)} {acc:List (Str×Addr)} {x:Str},(∃c,acc.lookup x=some c)->∃c,(fJ cells names acc).lookup x=some c
 | [],_,_,h=>h
 |(n,k)::r,acc,x,⟨c,h⟩=>by
  refine a1e (names:=r) ?_
  by_cases hk:(k==NameKind.free)=true
  ·rw[if_pos hk,List.lookup_cons]
   cases hx:x==n with
   |true=>exact⟨_,rfl⟩
   |false=>exact⟨c,h⟩
  ·rw[if_neg hk]
   exact⟨c,h⟩
theorem qU{cells:List (Str×Addr)}:∀{names:List (Str×NameKind)} {acc:List (Str×Addr)} {x:Str},(x,NameKind.free)∈names->∃c,(fJ cells names acc).lookup x=some c
 |(n,k)::r,acc,x,h=>by
  rcases List.mem_cons.mp h with e|h
  ·cases e
   refine a1e (names:=r) ⟨(cells.lookup n).getD 0,?_⟩
   rw[if_pos (by rfl),List.lookup_cons,beq_self_eq_true]
  ·exact qU (names:=r) h
theorem a2S{env:Env}:∀{names:List (Str×NameKind)} {x:Str},names.lookup x=some .free->
 (names.map fun(n,k)=>if(k==NameKind.free&&env.scope.kind== .function&&env.kindOf n==some .cell) then(n,NameKind.cell) else(n,k)).lookup x=some .cell\/
 (names.map fun(n,k)=>if(k==NameKind.free&&env.scope.kind== .function&&env.kindOf n==some .cell) then(n,NameKind.cell) else(n,k)).lookup x=some .free
 | [],_,h=>by simp at h
 |(n,k)::r,x,h=>by
  have ih:= @a2S env r x
  rw[List.lookup_cons]at h
  rw[List.map_cons]
  cases hx:x==n with
  |true=>
   rw[hx]at h
   cases h
   by_cases hc:(NameKind.free==NameKind.free&&env.scope.kind== .function&&env.kindOf n==some .cell)=true
   ·simp only[hc,if_true,List.lookup_cons,hx]
    exact .inl trivial
   ·simp only[hc,if_false,List.lookup_cons,hx,Bool.false_eq_true]
    exact .inr trivial
  |false=>
   rw[hx]at h
   by_cases hc:(k==NameKind.free&&env.scope.kind== .function&&env.kindOf n==some .cell)=true
   ·simp only[hc,if_true,List.lookup_cons,hx]
    exact ih h
   ·simp only[hc,if_false,List.lookup_cons,hx,Bool.false_eq_true]
    exact ih h
theorem mF{sc:Scope}(hcell:∀x,X.env.scope.names.lookup x=some .cell->∃c,X.env.cells.lookup x=some c)(hs:X.env.scope=sc:=by rfl)(hN:X.N=N:=by rfl)
 (kind:ai.kind= .function:=by rfl)(plain:∀y∈ai.names,y.2≠ .cell:=by decide)(names:∀y∈ai.names,y.2= .local->ai.names.lookup y.1=some .local:=by decide+kernel)
 (free:∀y∈ai.names,y.2= .free->sc.names.lookup y.1=some .cell:=by decide+kernel)(at':∀p∈cp,N[p.1]?=some p.2/\sc.names.lookup p.2=some .cell/\ai.names.lookup p.2=some .free:=by decide+kernel):
 pF X ai (fJ X.env.cells ai.names []) cp:=by
 subst hs hN
 have hf:∀y∈ai.names,y.2= .free->∃c,X.env.cells.lookup y.1=some c:=fun y hy e=>hcell _ (free y hy e)
 refine⟨kind,plain,names,?_,wU hf (fun x c e=>by cases e),fun x h=> ?_,fun p hp=> ?_⟩
 ·show closureFor ai X.env=_
  simp only[closureFor]
  have:=zC (env:=X.env) (acc:=[]) hf
  exact(congrArg (fun z=>z>>=fun r=>pure r) this).trans (pure_bind _ _)
 ·have hm:∀k,(relabel ai X.env).names.lookup x=some k->(k= .cell\/ k= .free)->(x,NameKind.free)∈ai.names:=fun k e hk=>by
   have m:=PySem.mem_of_lookup e
   unfold relabel at m
   obtain⟨⟨n,k'⟩,hy,e'⟩:=List.mem_map.mp m
   have nc:=plain _ hy
   by_cases hc:(k'==NameKind.free&&X.env.scope.kind== .function&&X.env.kindOf n==some .cell)=true
   ·simp only[hc,if_true]at e'
    have e1:n=x:=congrArg (·.1) e'
    have:k'= .free:=by simp only[Bool.and_eq_true,beq_iff_eq]at hc;exact hc.1.1
    subst e1 this
    exact hy
   ·simp only[hc,if_false,Bool.false_eq_true]at e'
    have e1:n=x:=congrArg (·.1) e'
    have e2:k'=k:=congrArg (·.2) e'
    subst e1 e2
    rcases hk with z|z
    ·exact absurd z nc
    ·subst z;exact hy
  rcases h with h|h
  ·exact qU (hm _ h (.inl rfl))
  ·exact qU (hm _ h (.inr rfl))
 ·obtain⟨h1,h2,h3⟩:=at' p hp
  exact⟨h1,.inl h2,a2S h3⟩
def mU(X:Cx)(d:Addr):Prop:=(∀xs,X.H₀ d≠some (.tup xs))/\(∀o u,X.H₀ d≠some (.frz o u))/\∀ps,X.H₀ d≠some (.tbl ps)
section
variable{d:Addr}
theorem aD.retag{u u':HO}(I:aD X ae σ H s)(e:H d=some u)(nf:mU X d)(no:∀x,u≠ .own x)(nt:∀xs,u≠ .tup xs)(new:cX X.prog X.w (upd H d u') s.heap d u'):aD X ae σ (upd H d u') s:=by
 have hn:∀b,H b=none->upd H d u' b=none:=fun b n=>by rw[aI (bE e n).symm];exact n
 refine⟨I.ok,I.os,I.bare,⟨I.base.keep,I.base.slot,fun b o q n hx=>hn b (I.base.free b o q n hx),I.base.there,fun b xs q=> ?_,fun b o v q=> ?_,fun b ps q=> ?_⟩,I.loc,I.cell,hn _ I.free,fun x c q=>hn _ (I.freeC x c q),fun p hp=> ?_,fun b v q=> ?_,I.len⟩
 ·have:b≠d:=fun z=>nf.1 xs (z▸q)
  rw[aI this]
  exact I.base.tups b xs q
 ·have:b≠d:=fun z=>nf.2.1 o v (z▸q)
  rw[aI this]
  exact I.base.frzs b o v q
 ·have:b≠d:=fun z=>nf.2.2 ps (z▸q)
  rw[aI this]
  exact I.base.tbls b ps q
 ·obtain⟨a1,a2,a3,a4,a5⟩:=I.pin p hp
  exact⟨a1,hn _ a2,a3,a4,a5⟩
 ·by_cases hb:b=d
  ·subst hb
   rw[aJ]at q
   cases q
   exact new
  ·rw[aI hb]at q
   refine(I.hok b v q).stay (fun _ _ _ r=>r) (fun c r=> ?_) fun c xs r=> ?_
   ·rw[aI (jZ r e (fun z=>no _ z.symm))]
    exact r
   ·rw[aI (jZ r e (fun z=>nt _ z.symm))]
    exact r
theorem aD.nof{u:HO}(I:aD X ae σ H s)(e:H d=some u)(h1:∀xs,u≠ .tup xs)(h2:∀o v,u≠ .frz o v)(h3:∀ps,u≠ .tbl ps):mU X d:=by
 refine⟨fun xs q=> ?_,fun o v q=> ?_,fun ps q=> ?_⟩
 ·have:=(I.base.tups d xs q).symm.trans e
  exact h1 xs (Option.some.inj this).symm
 ·have:=(I.base.frzs d o v q).symm.trans e
  exact h2 o v (Option.some.inj this).symm
 ·obtain⟨m,q'⟩:=I.base.tbls d ps q
  have:=q'.symm.trans e
  exact h3 _ (Option.some.inj this).symm
theorem aD.freeze(I:aD X ae σ H s)(e:H d=some (.dK kvs)):mU X d/\∃o,s.heap.get? d=some o/\aD X ae σ (upd H d (.frz o (.dK kvs))) s:=by
 have nf:mU X d:=I.nof e (by intro _ z;cases z) (by intro _ _ z;cases z) (by intro _ z;cases z)
 have ok:cX X.prog X.w H s.heap d (.dK kvs):=I.hok d _ e
 obtain⟨z,hs,vs,rel,o,es,ep,ho,r⟩:=id ok
 exact⟨nf,o,ho,I.retag e nf (by intro _ z;cases z) (by intro _ z;cases z) ⟨ho,z,hs,vs,rel,o,es,ep,ho,r⟩⟩
theorem aD.thaw{o:Obj}(I:aD X ae σ H s)(nf:mU X d)(e:H d=some (.frz o (.dK kvs))):aD X ae σ (upd H d (.dK kvs)) s:=by
 obtain⟨_,q⟩:=(show cX X.prog X.w H s.heap d (.frz o (.dK kvs)) from I.hok d _ e)
 exact I.retag e nf (by intro _ z;cases z) (by intro _ z;cases z) q
end
noncomputable def qH (a:Addr) (o:Obj) (kvs:List (aB×V)):It:=
 ⟨fun i H=>H a=some (.frz o (.dK kvs))/\i<kvs.length,fun i H x H'=>H'=H/\∃p,kvs[i]?=some p/\x=kV p.1,fun i H=>H a=some (.frz o (.dK kvs))/\kvs.length<=i⟩
theorem a3y{o:Obj}{es:Array DictEntry}{ep:Nat}(ok:bZ P w H h)(e:H a=some (.frz o (.dK kvs)))(ho:o.data= .dict es ep):
 (a==sysModules)=false/\∃vs,KV kvs vs/\h.DictAt (fM P w) a vs ep:=by
 obtain⟨e1,z,hs,vs,rel,o',es',ep',ho',r1,r2,r3⟩:=(show cX P w H h a (.frz o (.dK kvs)) from ok a _ e)
 rw[e1]at ho'
 cases ho'
 have:=r2.symm.trans ho
 cases this
 exact⟨hs,vs,rel,o,_,e1,r1,r2,r3⟩
theorem a7o(a it:Addr)(o:Obj)(kvs:List (aB×V)){es:Array DictEntry}{ep:Nat}(hod:o.data= .dict es ep):oK P w K tg (qH a o kvs) [it] it (fun i h=>h.IsKeyIter it a i kvs.length ep) where
 mem:=by simp
 obj:=fun i h st b hb=>by
  have e:b=it:=by simpa using hb
  subst e
  obtain⟨o,e,c,d⟩:=st
  exact⟨o,e,fun v z=>by rw[d]at z;cases z⟩
 keep:=fun i h h' st k=>st.at fun o e=>k it (by simp) o e
 item:=by
  intro X hP hw hK hc i ae s σ H E I hf st hg
  subst hP hw hK
  obtain⟨ha,hi⟩:=hg
  obtain⟨_,vs,rel,dat⟩:=a3y I.hok ha hod
  have hl:kvs.length=vs.length:=Paired.length rel
  obtain⟨⟨k,x⟩,hx⟩:∃p,vs[i]?=some p:=⟨vs[i]'(by omega),by simp⟩
  obtain⟨f0,f1,f2,f3,f4,f5⟩:=hf it (by simp)
  rw[hl]at st
  refine wpAny_pyNext_dict_item st dat hx fun u h' hu st' sb=> ?_
  have I1:aD X ae σ H {s with heap:=h'}:=I.turned (t':=s.toks) (fun b o hb e=>sb.extBut b o hb e) f0 f1 f3 f4 f5
  obtain⟨o1,e1,c1,d1⟩:=id st'
  refine⟨u,rfl,uK (s:={s with heap:=h'}) e1 c1 d1 (by decide) ⟨kV k,H,I1,a6t hu,⟨rfl,?_⟩,by rw[hl];exact st',fun b hb=>(hf b hb).1⟩⟩
  refine⟨kvs[i],by simp[hi],?_⟩
  have e5:(kvs.map (·.1))[i]?=some k:=by rw[KV.fst rel,List.getElem?_map,hx];rfl
  rw[List.getElem?_map,List.getElem?_eq_getElem hi]at e5
  rw[<- Option.some.inj e5]
 done:=by
  intro X hP hw hK hc i ae s σ H E I hf st hg
  subst hP hw hK
  obtain⟨ha,hi⟩:=hg
  obtain⟨_,vs,rel,dat⟩:=a3y I.hok ha hod
  have hl:kvs.length=vs.length:=Paired.length rel
  obtain⟨f0,f1,f2,f3,f4,f5⟩:=hf it (by simp)
  rw[hl]at st
  exact wpAny_pyNext_dict_end (I.ok.hd hc) st dat (by simp;omega) fun h' eb=>⟨rfl,I.turned (t':=s.toks) (fun b o hb e=>eb b o hb e) f0 f1 f3 f4 f5⟩
 self:=fun _ _ _ _ _ st h=>wpAny_pyIter_keyiter st h
section
def a10(X:Cx)(tl:TE):TI:=fun σ H R=>tl σ H fun x H1=>∃a kvs,x= .ref a/\H1 a=some (.dK kvs)/\(mU X a->∀o,R (qH a o kvs) (upd H1 a (.frz o (.dK kvs))))
theorem a5B{l:Expr}(hl:PE X l tl):PI X tg l (a10 X tl):=by
 intro ae s σ H R I h
 refine aT (hl ae s σ H _ I h) ?_
 rintro v s1 ⟨x,H1,I1,r1,q1⟩
 obtain⟨a,kvs,e,ha,q⟩:=q1
 subst e
 cases r1
 obtain⟨nf,o,ho,I2⟩:=I1.freeze ha
 obtain⟨z,hs,vs,rel,o',es,ep,ho',r1,r2,r3⟩:=(show cX X.prog X.w H1 s1.heap a (.dK kvs) from I1.hok a _ ha)
 rw[ho]at ho'
 cases ho'
 have hl:kvs.length=vs.length:=Paired.length rel
 have dat:s1.heap.DictAt (fM X.prog X.w) a vs ep:=⟨o,es,ho,r1,r2,r3⟩
 refine wpAny_pyIter_dict hs dat ?_
 refine⟨s1.heap.objs.size,[s1.heap.objs.size],_,_,_,rfl,I2.kept (t':=s1.toks) fun b o e=>Heap.get?_push_of_some _ e,a7o a _ o kvs r2,⟨_,Heap.get?_push_size _ rfl,rfl,by rw[hl];rfl⟩,fun b hb=> ?_,q nf o⟩
 have e:b=s1.heap.objs.size:=by simpa using hb
 subst e
 exact I2.fpOk (Nat.le_refl _) (I2.hok.fresh (Nat.le_refl _))
noncomputable def a2N (X:Cx) (D:lD):lD where
 nx:=fun σ H=>∃a o kvs,mU X a/\H a=some (.frz o (.dK kvs))/\D.nx σ (upd H a (.dK kvs))
 rt:=fun v H=>∃a o kvs,mU X a/\H a=some (.frz o (.dK kvs))/\D.rt v (upd H a (.dK kvs))
 bk:=D.bk
 ct:=D.ct
def a6G(X:Cx)(tl:TE)(g:TG)(tb:TS):TS:=fun D σ H=>tFor (a10 X tl) g tb (a2N X D) σ H
theorem a1M{body:List Stmt}{tb:TS}{pos:Pos}(hp:PassesOwn (model X.prog X.w) X.A X.env X.xe)(hc:X.calm=true)(hl:PE X iter tl)(hg:PG X tg g)(hb:eS X body tb)
 (hs:∀x,foldedSetIterable iter X.env x=pure x:=by intro _;rfl):PS X (.For tg iter body [] pos) (a6G X tl g tb):=by
 intro ae s σ H D I h
 refine aT (kO hp hc (a5B hl) hg hb hs ae s σ H (a2N X D) I h) fun f s' q=> ?_
 cases f with
 |next=>obtain⟨σ',H',I',a,o,kvs,nf,e,q⟩:=q;exact⟨σ',_,I'.thaw nf e,q⟩
 |cont=>exact q
 |brk=>exact q
 |ret v=>obtain⟨x,σ',H',I',r,a,o,kvs,nf,e,q⟩:=q;exact⟨x,σ',_,I'.thaw nf e,r,q⟩
end
theorem a2o{ob:Obj}{tb:TS}{D:lD}(Pv:Nat->St->Hp->Prop)(h0:Pv 0 σ H)(hl:∀i σ H,i<=kvs.length->Pv i σ H->H a=some (.frz ob (.dK kvs)))
 (hs:∀i p σ H,kvs[i]?=some p->Pv i σ H->g (kV p.1) σ H fun σ2 H2=>tb {D with nx:=Pv (i+ 1),ct:=Pv (i+ 1),bk:=D.nx} σ2 H2)(hd:∀σ H,Pv kvs.length σ H->D.nx σ H):
 ∃W:Nat->Nat->St->Hp->Prop,(∃m,W 0 m σ H)/\∀i m σ H,W i m σ H->
  ((qH a ob kvs).stop i H/\D.nx σ H)\/ ((qH a ob kvs).go i H/\∃N:St->Hp->Prop,(∀σ' H',N σ' H'->∃m',m'<m/\W (i+ 1) m' σ' H')/\∀x H',(qH a ob kvs).yld i H x H'->g x σ H' fun σ2 H2=>tb {D with nx:=N,ct:=N,bk:=D.nx} σ2 H2):=by
 refine⟨fun i m σ H=>m=kvs.length- i/\i<=kvs.length/\Pv i σ H,⟨kvs.length,by simp,Nat.zero_le _,h0⟩,?_⟩
 rintro i m σ H ⟨rfl,hi,p⟩
 have q:=hl i σ H hi p
 by_cases hlt:i<kvs.length
 ·refine .inr ⟨⟨q,hlt⟩,Pv (i+ 1),fun σ' H' p'=>⟨kvs.length- (i+ 1),by omega,rfl,hlt,p'⟩,fun x H' y=> ?_⟩
  obtain⟨e,pr,hp,ex⟩:=y
  subst e ex
  exact hs i pr σ _ hp p
 ·have e:i=kvs.length:=by omega
  subst e
  exact .inl ⟨⟨q,Nat.le_refl _⟩,hd σ H p⟩
section
variable{st:Expr}{ts:TO}{p2 pos:Pos}
theorem cJ{st:Stmt}:PS X st (fun _ _ _=>False):=fun _ _ _ _ _ _ h=>h.elim
end
structure kC(mg:Str->Option Value)(af:Heap)(c P:Addr):Prop where
 hd:W.CodeHd af c P
 bt:af.BuiltinsAt mg P
theorem a8q(h:H a=some o):upd H a o=H:=by
 funext b
 unfold upd
 split
 ·rename_i e;subst e;exact h.symm
 ·rfl
section
theorem a2r:∀{xs:List Value} {l c:Nat} {a:Addr},TriplesOk xs->TriplesOk (xs++ [rawInt l,rawInt c,.ref a])
 | [],_,_,_,_=>trivial
 | .int _ _:: .int _ _::_::cT,_,_,_,t=>a2r (xs:=cT) t
theorem a5u{ps:Array Value}{l c:Nat}(t:TriplesOk ps.toList):TriplesOk (ps++ #[rawInt l,rawInt c,.ref a]).toList:=by
 rw[Array.toList_append]
 exact a2r t
end
structure a60(q:Program)(K:Fg)(z:Addr×Addr):Prop where
 ex:∃x:Str,((recsOf q).find? (fun e=>e.name==x)).isSome=true/\W.tabIn K x=some z
theorem a0G{ps:Array Value}(hK:W.noTabs K=true)(X:K.In h)(e:h.get? a=some (W.tabObj ps)):K.lookup a=none:=by
 cases q:K.lookup a with
 |none=>rfl
 |some o=>
  have e2:=X a o q
  rw[e]at e2
  cases e2
  have h2:=List.all_eq_true.mp hK (a,_) (W.mem_of_lookupK q)
  exact absurd (show false=true from h2) Bool.false_ne_true
structure ClsM(K:Fg)(C:Addr)(m:Str):Prop where
 ga:W.specialIn K (.ref C) "__getattribute__"=some (some (.builtin "type.__getattribute__"))
 ex:∃(mc:Value) (f:Addr),W.readsIn K C mc=true/\W.findCls K (.ref C) mc m=some (.val (.ref f))/\W.findIn K (.ref C) m=some (some (.ref f))
section
variable{k:Nat}{E:XK}{p pos:Pos}{o:Expr}{t:TA}
theorem a54{pl:Sem Bool}(he:PE X o (tC (.ref C)))(c:ClsM X.K C m)(G:aS X.prog X.w X.K X.mg X.base CX k C m ps sp)(hr:bT k X.A)(hx:gY CX X E)(ha:PA X (e::es) t)
 (hst:starEach (e::es) X.env=(false,eval e X.env)::starEach es X.env:=by rfl)(hpl:(backTo pos (starEach es X.env)).any (·.1)=false:=by rfl)
 (ht:eval (.Call (.Attribute o m apos) (e::es) [] pos) X.env=(do
  let ov<- eval o X.env
  standAt apos.atName
  let (f,first)<- holding [ov] (getMethod ov m pl)
  callWith pos f first (backTo pos (starEach (e::es) X.env)) (backToKw pos (keywordEach [] X.env))):=by rfl):
 PE X (.Call (.Attribute o m apos) (e::es) [] pos) (oM sp [] E t):=by
 obtain⟨f,fd,F,hm,hb⟩:=G.ex
 intro ae s σ H Q I h
 refine W.methodCall_KW (pl:=pl) (aT (he ae s σ H (fun v H1=>v= .ref C/\H1=H) I ⟨rfl,rfl⟩) ?_) ht
 rintro u s1 ⟨x,H1,I1,rx,q⟩
 obtain⟨rfl,rfl⟩:=q
 obtain rfl:u=Value.ref C:=rx
 obtain⟨mc,f',h1,h2,h3⟩:=c.ex
 have e1:=hm.at_
 rw[h3]at e1
 cases e1
 refine W.method_cls I1.kIn c.ga (W.cls_value I1.kIn h1 h2 rfl ?_)
 refine W.callWith_K (first:=[]) (h₀:=X.base) I.ok.mod.kin hm.kp (aT (ha pos ae _ σ _ _ (I1.tok _) h) fun us s2 ⟨vs,H2,I2,r,q2⟩=>⟨I2.kIn,?_⟩) hst hpl
 exact rP (us:=us) (vs:=vs) F hr hb .nil hx I2 r q2
end
structure vW(K:Fg)(mg:Str->Option Value)(x:Str)(st:Stmt)(z:Addr×Addr):Prop where
 ex:∃f fd,jJ K x x st f fd/\mg x=some (.ref f)/\fd.code= .ref z.1
 tab:W.tabIn K x=some z
section
theorem a7w{c p:Addr}{wo:Value}{wd:Option Addr}{fd:FuncData}{osl ws:Array (Option Value)}{vs:Array Value}(a:W.nsIn K mainGlobals x=some (some (.ref f)))
 (l:K.lookup f=some ⟨oc,od,.func fd,osl⟩)(hc:fd.code= .ref c)(w:K.lookup c=some ⟨wo,wd,.fields vs,ws⟩)(h:vs[11]?=some (.ref p)):W.tabIn K x=some (c,p):=by
 unfold W.tabIn
 rw[a]
 dsimp only
 rw[l]
 dsimp only
 rw[hc]
 dsimp only
 rw[w]
 dsimp only
 rw[h]
theorem a7W{st:Stmt}{c p:Addr}{wo:Value}{wd:Option Addr}{osl ws:Array (Option Value)}{kV:Value}{vs:Array Value}(X:K.In h)(G:h.Ns mainGlobals mg)(a:W.nsIn K mainGlobals x=some (some (.ref f)))
 (l:K.lookup f=some ⟨oc,od,.func (W.fnOf x x (jR st) (eZ st) (aO st) .none kV doc pm an (.ref c) ct),osl⟩)(hc:W.codeIn K (.ref c) x=true)(k:W.keepIn K (.ref f)=true)
 (w:K.lookup c=some ⟨wo,wd,.fields vs,ws⟩)(t:vs[11]?=some (.ref p)):vW K mg x st (c,p):=
 ⟨⟨f,_,tM l hc k,W.mg_of X G a,rfl⟩,a7w a l rfl w t⟩
end
section
theorem op_inD(hu:X.A.units+ 64<cLine):dE X (compareOp .In) (fun x y H Q=>∃d ds,Dt X.K H x d/\Dt X.K H y (.list ds)/\d.canLay0=true/\(PyData.list ds).canLay0=true/\d.depth<=62/\Q (.bl (ds.any fun z=>PyData.eqv z d)) H):=by
 intro ae s σ H x y v u Q I rx ry h
 obtain⟨d,ds,hx,hy,lx,ly,hd,q⟩:=h
 obtain⟨as,ra⟩:=Dt.reads I hx rx lx
 obtain⟨bs,rb⟩:=Dt.reads I hy ry ly
 exact SeqAt.in_list_reads rb ra ly lx (by have:=Nat.min_le_right (PyData.depthAll ds) d.depth;omega) ⟨.bl _,H,I,rfl,q⟩
theorem a6a(hu:X.A.units+ 64<cLine):dE X (compareOp .NotIn) (fun x y H Q=>∃d ds,Dt X.K H x d/\Dt X.K H y (.list ds)/\d.canLay0=true/\(PyData.list ds).canLay0=true/\d.depth<=62/\Q (.bl (!ds.any fun z=>PyData.eqv z d)) H):=by
 intro ae s σ H x y v u Q I rx ry h
 obtain⟨d,ds,hx,hy,lx,ly,hd,q⟩:=h
 obtain⟨as,ra⟩:=Dt.reads I hx rx lx
 obtain⟨bs,rb⟩:=Dt.reads I hy ry ly
 exact SeqAt.notIn_list_reads rb ra ly lx (by have:=Nat.min_le_right (PyData.depthAll ds) d.depth;omega) ⟨.bl _,H,I,rfl,q⟩
end
abbrev iG(p:Str×Str):PyData:=.tuple [.str p.1,.str p.2]
theorem xJ(p q:Str×Str):PyData.eqv (iG p) (iG q)=decide (p=q):=by
 obtain⟨a,b⟩:=p
 obtain⟨c,d⟩:=q
 show(a==c&&(b==d&&true))=decide ((a,b)=(c,d))
 rw[Bool.and_true]
 by_cases h1:a=c
 ·by_cases h2:b=d
  ·subst h1;subst h2
   simp
  ·rw[decide_eq_false (fun e=>h2 (Prod.mk.inj e).2),beq_eq_false_iff_ne.mpr h2,Bool.and_false]
 ·rw[decide_eq_false (fun e=>h1 (Prod.mk.inj e).1),beq_eq_false_iff_ne.mpr h1,Bool.false_and]
theorem a1T(p:Str×Str):∀ps:List (Str×Str),((ps.map iG).any fun z=>PyData.eqv z (iG p))=decide (p∈ps)
 | []=>rfl
 |q::ps=>by
  rw[List.map_cons,List.any_cons,a1T p ps,xJ]
  by_cases h:p=q
  ·subst h;simp
  ·rw[decide_eq_false (fun e=>h e.symm),Bool.false_or]
   simp[h]
noncomputable def fI (ps:List (Str×Str)):List (Str×Str):=ps.foldl (fun acc p=>if p∈acc then acc else acc++ [p]) []
theorem a4f(ps:List (Str×Str))(p:Str×Str):fI (ps++ [p])=if p∈fI ps then fI ps else fI ps++ [p]:=by
 unfold fI
 rw[List.foldl_append]
 rfl
theorem a2I:∀ps:List (Str×Str),(fI ps).length<=ps.length:=by
 suffices h:∀(ps acc:List (Str×Str)),(ps.foldl (fun acc p=>if p∈acc then acc else acc++ [p]) acc).length<=acc.length+ ps.length by
  intro ps
  have:=h ps []
  simpa [fI] using this
 intro ps
 induction ps with
 |nil=>intro acc;simp
 |cons p ps ih=>
  intro acc
  rw[List.foldl_cons]
  refine Nat.le_trans (ih _) ?_
  split
  ·simp
  ·simp;omega
theorem a2D:∀{ps:List (Str×Str)} {p:Str×Str},p∈fI ps->p∈ps:=by
 suffices h:∀(ps acc:List (Str×Str)) (p:Str×Str),p∈ps.foldl (fun acc p=>if p∈acc then acc else acc++ [p]) acc->p∈acc\/ p∈ps by
  intro ps p hp
  rcases h ps [] p hp with h|h
  ·cases h
  ·exact h
 intro ps
 induction ps with
 |nil=>intro acc p h;exact .inl h
 |cons q ps ih=>
  intro acc p h
  rw[List.foldl_cons]at h
  rcases ih _ p h with h|h
  ·split at h
   ·exact .inl h
   ·rcases List.mem_append.mp h with h|h
    ·exact .inl h
    ·exact .inr (by rw[List.mem_singleton.mp h];exact List.mem_cons_self)
  ·exact .inr (List.mem_cons_of_mem _ h)
def Fz(o:Obj):HO:=.frz o (.ext fun _=>True)
theorem zW{o:Obj}(e:h.get? a=some o):cX P w H h a (Fz o):=⟨e,trivial,⟨o,e⟩,fun _ _ _ _=>trivial⟩
theorem kZ{o:Obj}(x:bZ P w H h)(e:H a=some (Fz o)):h.get? a=some o:=(x a _ e).1
theorem a5O{o u:Obj}(e:some (Fz o)=some (Fz u)):o=u:=by
 have:=Option.some.inj e
 unfold Fz at this
 exact(HO.frz.inj this).1
def a1p(q:Str)(o:Obj):Prop:=∃vs t,o.data= .fields vs/\vs[1]?=some (.str q t)
def fU(P:Addr)(S:List Addr):HO:=.ext fun h=>∃ps:Array Value,h.get? P=some (W.tabObj ps)/\TriplesOk ps.toList/\∀pos cv,codeAmong pos ps.toList=some cv->∃c∈S,cv= .ref c
def iL(q:Str)(H:Hp)(P:Addr):Prop:=∃S,H P=some (fU P S)/\∀c∈S,∃o,H c=some (Fz o)/\a1p q o
def fY(q:Str)(params:Arguments)(body:Expr)(ai:Scope)(clos:List (Str×Addr))(H:Hp)(fa:Addr):Prop:=
 ∃pm c ctv o,H fa=some (Fz (W.kla_obj "<lambda>" q params body ai clos pm c ctv))/\H c=some (Fz o)/\a1p q o
theorem a2f{ps:Array Value}{S:List Addr}(e:h.get? a=some (W.tabObj ps))(t:TriplesOk ps.toList)(c:∀pos cv,codeAmong pos ps.toList=some cv->∃c∈S,cv= .ref c):cX P w H h a (fU a S):=
 ⟨⟨ps,e,t,c⟩,⟨_,e⟩,fun h1 h2 ⟨qs,e1,t1⟩ k=>⟨qs,k _ e1,t1⟩⟩
theorem a2R{pos:Pos}{l c:Nat}{a:Addr}{cv:Value}:∀{xs:List Value},TriplesOk xs->codeAmong pos (xs++ [rawInt l,rawInt c,.ref a])=some cv->codeAmong pos xs=some cv\/ cv= .ref a
 | [],_,h=>by
  right
  simp only[List.nil_append,rawInt,codeAmong]at h
  split at h
  ·exact(Option.some.inj h).symm
  ·cases h
 | .int x _:: .int y _::z::cT,t,h=>by
  simp only[List.cons_append,codeAmong]at h|-
  split at h
  ·rename_i e
   rw[if_pos e]
   exact .inl h
  ·rename_i e
   rw[if_neg e]
   exact a2R (xs:=cT) t h
theorem a1P{c:Addr}{o:Obj}(x:bZ P w H h)(hn:H c=none)(e:h.get? c=some o):bZ P w (upd H c (Fz o)) h:=fun b u q=>by
 by_cases hb:b=c
 ·subst hb;rw[aJ]at q;cases q;exact zW e
 ·rw[aI hb]at q
  exact(x b u q).stay (fun _ _ _ z=>z) (fun d z=>by rw[aI (bE z hn)];exact z) fun d xs z=>by rw[aI (bE z hn)];exact z
def a3l(P:Addr)(H H':Hp):Prop:=∀b o,b≠P->H b=some o->H' b=some o
def a5s(P:Addr)(q:Str)(params:Arguments)(body:Expr)(ai:Scope)(clos:List (Str×Addr)):TE:=fun _ H Q=>iL q H P/\∀a H',H a=none->a3l P H H'->iL q H' P->fY q params body ai clos H' a->Q (.ref a) H'
section
theorem yA{pos:Pos}{c P:Addr}(M:kC X.mg X.base c P)(hc:X.env.code= .ref c)(hcl:closureFor ai X.env=pure clos)(hdef:defaultsOf params X.env=([],[])):
 PE X (.Lambda params body ai pos) (a5s P (X.env.qual++ "<lambda>") params body ai clos):=by
 intro ae s σ H Q I h
 obtain⟨⟨S,hP,hS⟩,q⟩:=h
 obtain⟨⟨ps,e,t,tc⟩,_,_⟩:=I.hok P _ hP
 have hg:s.heap.Ns mainGlobals X.mg:=I.mod.glob.keeps I.bk
 have C:=M.hd.keeps I.bk
 have hb:s.heap.BuiltinsAt X.mg P:=let ⟨bm,o,b1,b2,b3,b4,b5,r⟩:=M.bt;⟨bm,o,b1,b2,b3,b4,I.bk _ _ b5,r⟩
 have hgP:mainGlobals≠P:=fun z=>by
  obtain⟨o,es,ep,e1,hd,_⟩:=hg
  rw[z,e]at e1;cases e1;cases hd
 refine W.kla_eval hdef ?_
 cases hf:codeAmong pos ps.toList with
 |none=>
  refine W.kla_makeFunction (mg:=X.mg) hcl I.ok.glob hg hc C e t hf hgP hb fun c' ctv h' tk hx hge hlt hrec htb=> ?_
  obtain⟨c1,oc,vs,tq,ec,goc,doc,dq⟩:=hrec
  obtain rfl:c'=c1:=by cases ec;rfl
  have nP:∀b,H b=none->b≠P:=fun b n z=>by rw[z,hP]at n;cases n
  have hPlt:P<s.heap.objs.size:=Heap.lt_size e
  have goc':(h'.push (W.kla_obj "<lambda>" (X.env.qual++ "<lambda>") params body ai clos ((X.mg "__name__").getD .none) c' ctv)).get? c'=some oc:=Heap.get?_push_of_some _ goc
  have cP:c'≠P:=Nat.ne_of_gt (Nat.lt_of_lt_of_le hPlt hge)
  have aP:h'.objs.size≠P:=Nat.ne_of_gt (Nat.lt_of_lt_of_le hPlt (Nat.le_of_lt (Nat.lt_of_le_of_lt hge hlt)))
  have ac:h'.objs.size≠c':=Nat.ne_of_gt hlt
  have fr:∀b,s.heap.objs.size<=b->H b=none:=fun b z=>I.hok.fresh z
  have hk:∀b u,b≠P->s.heap.get? b=some u->(h'.push (W.kla_obj "<lambda>" (X.env.qual++ "<lambda>") params body ai clos ((X.mg "__name__").getD .none) c' ctv)).get? b=some u:=fun b u nb eb=>Heap.get?_push_of_some _ (hx b u nb eb)
  have hok1:bZ X.prog X.w (upd H P (fU P (c'::S))) (h'.push (W.kla_obj "<lambda>" (X.env.qual++ "<lambda>") params body ai clos ((X.mg "__name__").getD .none) c' ctv)):=
   I.hok.write (x:=P) (e:=P) (by rw[hP];trivial) (.inl rfl) hk ⟨_,Heap.get?_push_of_some _ htb⟩ (a2f (Heap.get?_push_of_some _ htb) (a5u t) fun pos cv z=>by
    rw[Array.toList_append]at z
    rcases a2R t z with z|z
    ·obtain⟨d,hd,r⟩:=tc pos cv z
     exact⟨d,List.mem_cons_of_mem _ hd,r⟩
    ·exact⟨c',List.mem_cons_self,z⟩)
  have n1:upd H P (fU P (c'::S)) c'=none:=by rw[aI cP];exact fr _ hge
  have hok2:=a1P hok1 n1 goc'
  have n2:upd (upd H P (fU P (c'::S))) c' (Fz oc) h'.objs.size=none:=by rw[aI ac,aI aP];exact fr _ (Nat.le_of_lt (Nat.lt_of_le_of_lt hge hlt))
  have hok3:=a1P hok2 n2 (Heap.get?_push_size _ rfl)
  have sm:∀b,b≠P->H b≠none->upd (upd (upd H P (fU P (c'::S))) c' (Fz oc)) h'.objs.size (Fz (W.kla_obj "<lambda>" (X.env.qual++ "<lambda>") params body ai clos ((X.mg "__name__").getD .none) c' ctv)) b=H b:=fun b z1 z2=>by
   have y1:b≠h'.objs.size:=fun z=>z2 (by rw[z];exact fr _ (Nat.le_of_lt (Nat.lt_of_le_of_lt hge hlt)))
   have y2:b≠c':=fun z=>z2 (by rw[z];exact fr _ hge)
   rw[aI y1,aI y2,aI z1]
  have sv:∀b o,b≠P->H b=some o->upd (upd (upd H P (fU P (c'::S))) c' (Fz oc)) h'.objs.size (Fz (W.kla_obj "<lambda>" (X.env.qual++ "<lambda>") params body ai clos ((X.mg "__name__").getD .none) c' ctv)) b=some o:=fun b o z1 z2=>by
   rw[sm b z1 (by rw[z2];intro z;cases z)];exact z2
  have J:=I.step (h':=h'.push (W.kla_obj "<lambda>" (X.env.qual++ "<lambda>") params body ai clos ((X.mg "__name__").getD .none) c' ctv)) (g':=s.gens) (t':=tk) (d':=s.drawn) (ch:=[]) (fun _ z=>nomatch z)
   (fun b o _ _ _ eb n=>hk b o (nP b n) eb) (fun b o _ _ _ eb n=>⟨o.slots,hk b o (nP b n) eb⟩)
   (fun b o _ eb n=>by rw[aI (Nat.ne_of_lt (Nat.lt_of_lt_of_le (Heap.lt_size eb) (Nat.le_of_lt (Nat.lt_of_le_of_lt hge hlt)))),aI (Nat.ne_of_lt (Nat.lt_of_lt_of_le (Heap.lt_size eb) hge)),aI (nP b n)];exact n)
   (fun b o _ eb=>by
    by_cases z:b=P
    ·subst z;exact⟨_,Heap.get?_push_of_some _ htb⟩
    ·exact⟨o,hk b o z eb⟩)
   (fun b xs z=>sv b _ (fun y=>by rw[y,hP]at z;cases z) z) (fun b o u z=>sv b _ (fun y=>by rw[y,hP]at z;cases z) z) (fun b ps z=>⟨#[],by rw[sv b _ (fun y=>by rw[y,hP]at z;cases z) z];simp⟩)
   (fun m ⟨o,es,ep,ho,r⟩=>⟨o,es,ep,hk _ o (nP _ I.free) ho,r⟩) hok3 I.bare
  refine⟨.ref h'.objs.size,_,J,rfl,q _ _ (fr _ (Nat.le_of_lt (Nat.lt_of_le_of_lt hge hlt))) (fun b o z1 z2=>sv b o z1 z2) ⟨c'::S,?_,fun d hd=> ?_⟩ ⟨_,c',ctv,oc,aJ,?_,vs,tq,doc,dq⟩⟩
  ·rw[aI (Ne.symm aP),aI (Ne.symm cP),aJ]
  ·rcases List.mem_cons.mp hd with rfl|hd
   ·exact⟨oc,by rw[aI (Ne.symm ac),aJ],vs,tq,doc,dq⟩
   ·obtain⟨o,e1,e2⟩:=hS d hd
    exact⟨o,sv d _ (fun y=>by rw[y,hP]at e1;cases e1) e1,e2⟩
  ·rw[aI (Ne.symm ac),aJ]
 |some cv=>
  obtain⟨d,hd,rfl⟩:=tc _ _ hf
  obtain⟨od,e1,e2⟩:=hS d hd
  refine W.kla_makeFunctionHit (mg:=X.mg) hcl I.ok.glob hg hc C e t hf hb fun ctv h' tk hk hsz=> ?_
  have fr:H h'.objs.size=none:=I.hok.fresh hsz
  have sv:∀b o,H b=some o->upd H h'.objs.size (Fz (W.kla_obj "<lambda>" (X.env.qual++ "<lambda>") params body ai clos ((X.mg "__name__").getD .none) d ctv)) b=some o:=fun b o z=>by
   rw[aI (bE z fr)];exact z
  refine⟨.ref h'.objs.size,_,I.laid (a:=h'.objs.size) (o:=Fz (W.kla_obj "<lambda>" (X.env.qual++ "<lambda>") params body ai clos ((X.mg "__name__").getD .none) d ctv)) (fun b o eb=>Heap.get?_push_of_some _ (hk b o eb)) hsz (zW (Heap.get?_push_size _ rfl)),rfl,
   q _ _ fr (fun b o _ z=>sv b o z) ⟨S,sv _ _ hP,fun d' hd'=> ?_⟩ ⟨_,d,ctv,od,aJ,sv _ _ e1,e2⟩⟩
  obtain⟨o,e3,e4⟩:=hS d' hd'
  exact⟨o,sv _ _ e3,e4⟩
end
abbrev eG:=Addr->Option Obj
noncomputable def cM (f:eG) (H:Hp):Hp:=fun b=>match f b with
 |some o=>some (Fz o)
 |none=>H b
noncomputable def unl (f:eG) (H:Hp):Hp:=fun b=>match f b with
 |some _=>none
 |none=>H b
theorem kK{f:eG}{o:Obj}(e:f b=some o):cM f H b=some (Fz o):=by unfold cM;rw[e]
theorem dO{f:eG}(e:f b=none):cM f H b=H b:=by unfold cM;rw[e]
theorem kG{f:eG}{o:Obj}(e:f b=some o):unl f H b=none:=by unfold unl;rw[e]
theorem cZ{f:eG}(e:f b=none):unl f H b=H b:=by unfold unl;rw[e]
theorem wS{f:eG}(h:∀b o,f b=some o->H b=none):unl f (cM f H)=H:=by
 funext b
 cases e:f b with
 |none=>rw[cZ e,dO e]
 |some o=>rw[kG e,h b o e]
section
variable{f:eG}{fs:List Addr}
theorem yN(x:bZ P w H h)(hf:∀b o,f b=some o->H b=none/\h.get? b=some o):bZ P w (cM f H) h:=fun b u q=>by
 have keep:∀c v,H c=some v->cM f H c=some v:=fun c v z=>by
  cases e:f c with
  |none=>rw[dO e];exact z
  |some o=>rw[(hf c o e).1]at z;cases z
 cases e:f b with
 |none=>
  rw[dO e]at q
  exact(x b u q).stay (fun _ _ _ z=>z) (fun c z=>keep c _ z) fun c xs z=>keep c _ z
 |some o=>
  rw[kK e]at q
  cases q
  exact zW (hf b o e).2
theorem a2F(x:bZ P w H h)(hf:∀b o,f b=some o->H b=some (Fz o)):bZ P w (unl f H) h:=fun b u q=>by
 cases e:f b with
 |some o=>rw[kG e]at q;cases q
 |none=>
  rw[cZ e]at q
  refine(x b u q).stay (fun _ _ _ z=>z) (fun c z=> ?_) fun c xs z=> ?_
  ·cases e2:f c with
   |none=>rw[cZ e2];exact z
   |some o=>rw[hf c o e2]at z;cases z
  ·cases e2:f c with
   |none=>rw[cZ e2];exact z
   |some o=>rw[hf c o e2]at z;cases z
theorem a0L(hf:∀b o,f b=some o->H b=none/\h.get? b=some o)(u:Un fs [] (cM f H) H' h h')(hok:bZ P w H' h'):Un fs [] H (unl f H') h h'/\bZ P w (unl f H') h':=by
 have at':∀b o,f b=some o->H' b=some (Fz o):=fun b o e=>u.frzs b o _ (kK e)
 have nf:∀b v,H b=some v->f b=none:=fun b v z=>by
  cases e:f b with
  |none=>rfl
  |some o=>rw[(hf b o e).1]at z;cases z
 refine⟨⟨fun b o e n hb hx=> ?_,fun b o e n hb hx=> ?_,fun b o e n hx=> ?_,fun b o e hx=>u.there b o e hx,fun b xs z=> ?_,fun b o v z=> ?_,fun b ps z=> ?_⟩,a2F hok at'⟩
 ·cases e2:f b with
  |none=>exact u.keep b o e (by rw[dO e2];exact n) hb hx
  |some o2=>
   have:=(hf b o2 e2).2
   rw[e]at this
   cases this
   exact kZ hok (at' b o e2)
 ·cases e2:f b with
  |none=>exact u.slot b o e (by rw[dO e2];exact n) hb hx
  |some o2=>
   have:=(hf b o2 e2).2
   rw[e]at this
   cases this
   exact⟨o.slots,kZ hok (at' b o e2)⟩
 ·cases e2:f b with
  |none=>rw[cZ e2];exact u.free b o e (by rw[dO e2];exact n) hx
  |some o2=>exact kG e2
 ·rw[cZ (nf b _ z)];exact u.tups b xs (by rw[dO (nf b _ z)];exact z)
 ·rw[cZ (nf b _ z)];exact u.frzs b o v (by rw[dO (nf b _ z)];exact z)
 ·rw[cZ (nf b _ z)];exact u.tbls b ps (by rw[dO (nf b _ z)];exact z)
theorem a8r(hf:∀b o,f b=some o->H b=some (Fz o))(hok0:bZ P w H h)(hfs:∀b∈fs,H b=none)(u:Un fs [] (unl f H) H' h h')(hok:bZ P w H' h'):Un fs [] H (cM f H') h h'/\bZ P w (cM f H') h':=by
 have fr:∀b o,f b=some o->H' b=none/\h'.get? b=some o:=fun b o e=>by
  have g:=kZ hok0 (hf b o e)
  exact⟨u.free b o g (kG e) (by simp),u.keep b o g (kG e) (fun z=>by have:=hfs b z;rw[hf b o e]at this;cases this) (by simp)⟩
 have nf:∀b,H b=none->f b=none:=fun b z=>by
  cases e:f b with
  |none=>rfl
  |some o=>rw[hf b o e]at z;cases z
 have nz:∀b v,H b=some v->(∀o,v≠Fz o)->f b=none:=fun b v z ne=>by
  cases e:f b with
  |none=>rfl
  |some o=>rw[hf b o e]at z;exact absurd (Option.some.inj z).symm (ne o)
 refine⟨⟨fun b o e n hb hx=>u.keep b o e (by rw[cZ (nf b n)];exact n) hb hx,fun b o e n hb hx=>u.slot b o e (by rw[cZ (nf b n)];exact n) hb hx,fun b o e n hx=> ?_,fun b o e hx=>u.there b o e hx,fun b xs z=> ?_,fun b o v z=> ?_,fun b ps z=> ?_⟩,yN hok fr⟩
 ·rw[dO (nf b n)];exact u.free b o e (by rw[cZ (nf b n)];exact n) hx
 ·have e:=nz b _ z (fun o q=>by cases q)
  rw[dO e];exact u.tups b xs (by rw[cZ e];exact z)
 ·cases e:f b with
  |none=>rw[dO e];exact u.frzs b o v (by rw[cZ e];exact z)
  |some o2=>rw[kK e,<- hf b o2 e];exact z
 ·have e:=nz b _ z (fun o q=>by cases q)
  rw[dO e];exact u.tbls b ps (by rw[cZ e];exact z)
end
structure Lent(X:Cx)(σ:St)(H:Hp)(f:eG):Prop where
 free:∀b o,f b=some o->H b=none
 cell:∀x c,X.env.cells.lookup x=some c->∃o v,f c=some o/\o.data= .cell v
 val:∀(i:Nat) x v,X.N[i]?=some x->σ[i]?=some (some v)->X.env.scope.names.lookup x=some .cell->∃c o u,X.env.cells.lookup x=some c/\f c=some o/\o.data= .cell (some u)/\bA v u
 inj:∀x y c,X.env.cells.lookup x=some c->X.env.cells.lookup y=some c->x=y
theorem a4h(I:aD X ae σ H s)(hfn:∀x,X.fn x=true):∃f:eG,Lent X σ H f/\(∀b o,f b=some o->H b=none/\s.heap.get? b=some o/\X.base.get? b=none/\b∉fS X.stack):=by
 classical
 let f:eG:=fun b=>if(∃x,X.env.cells.lookup x=some b) then s.heap.get? b else none
 have fe:∀{b o},f b=some o->(∃x,X.env.cells.lookup x=some b)/\s.heap.get? b=some o:=fun{b o} e=>by
  by_cases z:∃x,X.env.cells.lookup x=some b
  ·exact⟨z,by rw[show f b=s.heap.get? b from if_pos z]at e;exact e⟩
  ·rw[show f b=none from if_neg z]at e;cases e
 have ff:∀{x c},X.env.cells.lookup x=some c->f c=s.heap.get? c:=fun{x c} e=>if_pos ⟨x,e⟩
 refine⟨f,⟨fun b o e=> ?_,fun x c e=> ?_,fun i x v e1 e2 e3=> ?_,I.ok.inj⟩,fun b o e=> ?_⟩
 ·obtain⟨⟨x,z⟩,_⟩:=fe e
  exact I.freeC x b z
 ·obtain⟨v,o,ho,hd⟩:=I.cell x c e
  exact⟨o,v,by rw[ff e];exact ho,hd⟩
 ·obtain⟨m,_,hl⟩:=I.loc
  obtain⟨u,r,l⟩:=hl i x v e1 e2 (.inr (.inl e3))
  rcases l with⟨k,_⟩|⟨_,c,ec,o,ho,hd⟩
  ·have k':X.env.scope.names.lookup x=some .local:=k
   rw[e3]at k';cases k'
  ·exact⟨c,o,u,ec,by rw[ff ec];exact ho,hd,r⟩
 ·obtain⟨⟨x,z⟩,g⟩:=fe e
  refine⟨I.freeC x b z,g,?_,fun hb=> ?_⟩
  ·exact Heap.get?_none_of_le (Nat.le_trans I.ok.bsz (I.ok.cab x b (hfn x) z))
  ·rcases List.mem_cons.mp (I.stkSub b hb)with e2|hb
   ·exact I.cne x b z e2
   ·obtain⟨_,ob,ho,_⟩:=I.ok.funs.mem hb
    exact absurd (Nat.lt_of_lt_of_le (Heap.lt_size ho) (I.ok.cab x b (hfn x) z)) (Nat.lt_irrefl _)
theorem a1i{k:Nat}{fd:FuncData}{Q:VK}(hfn:∀x,X.fn x=true)(F:fA X.prog X.w X.K X.mg X.base aE k fa fd ps sp)(hr:bT k X.A)(hb:iA X.K fd ps [])
 (I:aD X ae σ H s)(r:aX vs us)(h:∀f,Lent X σ H f->sp vs (cM f H) (fun v H'=>Q v (unl f H')) E0):wpAny (model X.prog X.w) X.A (call (.ref fa) us) (EP X ae σ Q) X.xe s:=by
 obtain⟨f,L,hf⟩:=a4h I hfn
 have q:=h f L
 have hl:(us++ []).length=ps.length:=by rw[List.append_nil,<- r.length];exact F.len _ _ _ _ q
 have e0:jX X.prog X.w X.K X.mg X.base X.A X.stack s (cM f H):=by
  have e:=I.env0
  refine⟨e.frames,e.mod,fun b o z=>⟨(e.bs b o z).1,?_⟩,e.bsz,e.funs,fun b z=> ?_,yN e.hok fun b o z=>⟨(hf b o z).1,(hf b o z).2.1⟩,e.bare⟩
  ·cases q2:f b with
   |none=>rw[dO q2];exact(e.bs b o z).2
   |some ob=>rw[(hf b ob q2).2.2.1]at z;cases z
  ·cases q2:f b with
   |none=>rw[dO q2];exact e.frf b z
   |some ob=>exact absurd z (hf b ob q2).2.2.2
 have bd:=hb s us I.kIn hl
 rw[List.append_nil]at bd
 refine wpAny_call (codeAny_mono (F.run X.A X.stack s (cM f H) ⟨us,[]⟩ us vs _ E0 hr e0 bd r q) fun r s' hq=> ?_)
 cases r with
 |error e=>exact False.elim hq
 |ok fl=>
  cases fl with
  |ret u=>
   obtain⟨v,H',os,bare,un,hok,rv,qv⟩:=hq
   obtain⟨u1,u2⟩:=a0L (fun b o z=>⟨(hf b o z).1,(hf b o z).2.1⟩) un hok
   exact I.after ⟨v,_,os,bare,u1,u2,rv,qv⟩
  |next=>exact False.elim hq
  |brk=>exact False.elim hq
  |cont=>exact False.elim hq
def a7J(X:Cx)(C:Addr)(m:Str)(sp:Sp)(ta:TE)(t:TA):TE:=fun σ H Q=>ta σ H fun x H1=>∃a dx fs,x= .ref a/\H1 a=some (.ins C dx fs)/\fs.lookup m=none/\
 t σ H1 fun vs H2=>∀f,Lent X σ H2 f->sp (x::vs) (cM f H2) (fun v H'=>Q v (unl f H')) E0
section
variable{k:Nat}{p pos:Pos}{o:Expr}{t:TA}
theorem a8t{pl:Sem Bool}(he:PE X o ta)(c:cI X.K C)(G:aS X.prog X.w X.K X.mg X.base aE k C m ps sp)(hr:bT k X.A)(ha:PA X (e::es) t)(hfn:∀x,X.fn x=true:=by exact fun _=>rfl)
 (hst:starEach (e::es) X.env=(false,eval e X.env)::starEach es X.env:=by rfl)(hpl:(backTo pos (starEach es X.env)).any (·.1)=false:=by rfl)
 (ht:eval (.Call (.Attribute o m apos) (e::es) [] pos) X.env=(do
  let ov<- eval o X.env
  standAt apos.atName
  let (f,first)<- holding [ov] (getMethod ov m pl)
  callWith pos f first (backTo pos (starEach (e::es) X.env)) (backToKw pos (keywordEach [] X.env))):=by rfl):
 PE X (.Call (.Attribute o m apos) (e::es) [] pos) (a7J X C m sp ta t):=by
 obtain⟨f,fd,F,hm,hb⟩:=G.ex
 intro ae s σ H Q I h
 refine W.methodCall_KW (pl:=pl) (aT (he ae s σ H _ I h) ?_) ht
 rintro u s1 ⟨x,H1,I1,rx,a,dx,fs,ex,ea,l,q⟩
 subst ex
 obtain rfl:u=Value.ref a:=rx
 refine oU I1 ea c hm l ?_
 refine W.callWith_K (first:=[.ref a]) (h₀:=X.base) I.ok.mod.kin hm.kp (aT (ha pos ae s1 σ H1 _ I1 q) fun us s2 ⟨vs,H2,I2,r,q2⟩=>⟨I2.kIn,?_⟩) hst hpl
 exact a1i (us:=.ref a::us) (vs:=.ref a::vs) hfn F hr hb I2 (.cons rfl r) q2
end
structure eO(P:Program)(w:World)(K:Fg)(mg:Str->Option Value)(af:Heap)(k:Nat)(fa:Addr)(sp:Sp):Prop where
 fn:∀vs H Q E,sp vs H Q E->∃c d fd sl,H fa=some (Fz ⟨c,d,.func fd,sl⟩)
 run:∀(A:Around) (ag:List Env) (s:Shared) (H:Hp) (us:List Value) (vs:List V) (Q:VK) (E:XK),bT k A->jX P w K mg af A ag s H->aX vs us->sp vs H Q E->
  codeAny (model P w) A (.call (.ref fa) ⟨us,[]⟩) (CR aE ag P w H s Q E) s
theorem eO.mono{k:Nat}(F:eO P w K mg af j fa sp)(h:j<=k):eO P w K mg af k fa sp:=
 ⟨F.fn,fun A ag s H us vs Q E hr=>F.run A ag s H us vs Q E (hr.mono h)⟩
theorem eO.imp{k:Nat}{sp':Sp}(F:eO P w K mg af k fa sp)(h:∀vs H Q E,sp' vs H Q E->sp vs H Q E):eO P w K mg af k fa sp':=
 ⟨fun vs H Q E z=>F.fn vs H Q E (h _ _ _ _ z),fun A ag s H us vs Q E hr e0 r z=>F.run A ag s H us vs Q E hr e0 r (h _ _ _ _ z)⟩
def a4k(P:Program)(w:World)(K:Fg)(mg:Str->Option Value)(af:Heap)(k:Nat)(i:Nat)(t:TA):TE:=fun σ H Q=>∃fa sp,σ[i]?=some (some (.ref fa))/\eO P w K mg af k fa sp/\t σ H fun vs H1=>sp vs H1 Q E0
section
variable{k:Nat}{p pos:Pos}{t:TA}
theorem a7m(i:Nat)(hr:bT k X.A)(ha:PA X (e::es) t)(hN:X.N[i]?=some x:=by rfl)(hv:sZ X.env.scope x:=by first|exact Or.inl rfl|exact Or.inr (Or.inl rfl)|exact Or.inr (Or.inr rfl))(hd:(x==("__debug__":Str))=false:=by decide)
 (hcd:(x==("__classdict__":Str))=false:=by decide)(he:starEach (e::es) X.env=(false,eval e X.env)::starEach es X.env:=by rfl)(hpl:(backTo pos (starEach es X.env)).any (·.1)=false:=by rfl):
 PE X (.Call (.Name x p) (e::es) [] pos) (a4k X.prog X.w X.K X.mg X.base k i t):=by
 intro ae s σ H Q I h
 obtain⟨fa,sp,e1,F,h⟩:=h
 refine wpAny_Call_Name_kw (aT (a0H hN hv hd hcd ae s σ H (fun v H1=>v= .ref fa/\H1=H) I ⟨_,e1,rfl,rfl⟩) ?_)
 rintro u s1 ⟨v,H1,I1,rv,q⟩
 obtain⟨rfl,rfl⟩:=q
 obtain rfl:u=Value.ref fa:=rv
 show wpAny _ _ (callWith pos (.ref fa) [] (backTo pos (starEach (e::es) X.env)) []) _ _ _
 rw[he]
 refine W.callWith_of (P:=fun h=>∃c d fd sl,h.get? fa=some ⟨c,d,.func fd,sl⟩) (by show((false||(backTo pos (starEach es X.env)).any (·.1))||false)=false;rw[hpl];rfl)
  (fun h ⟨c,d,fd,sl,z⟩=>⟨.frame,.inl rfl,(W.Looks.ld (part:=none) z).andThen .now⟩) (Calls.evalArgs_plain ?_)
 have ha':=ha pos ae s1 σ H1 _ I1 h
 rw[he]at ha'
 refine aT ha' ?_
 rintro us s2 ⟨vs,H2,I2,r,q2⟩
 obtain⟨c,d,fd,sl,z⟩:=F.fn _ _ _ _ q2
 refine⟨⟨c,d,fd,sl,kZ I2.hok z⟩,?_⟩
 refine wpAny_call (codeAny_mono (F.run X.A X.stack s2 H2 us vs Q E0 hr I2.env0 r q2) fun r s' hq=> ?_)
 cases r with
 |error e=>exact False.elim hq
 |ok fl=>
  cases fl with
  |ret u=>exact I2.after hq
  |next=>exact False.elim hq
  |brk=>exact False.elim hq
  |cont=>exact False.elim hq
end
theorem a3p{α:Type}{x:Str}{u:α}:∀{l:List (Str×α)},(l.map (·.1)).Nodup->(x,u)∈l->l.lookup x=some u
 |(y,v)::r,nd,h=>by
  rw[List.map_cons,List.nodup_cons]at nd
  rw[List.lookup_cons]
  rcases List.mem_cons.mp h with e|h2
  ·cases e;rw[beq_self_eq_true]
  ·have:(x==y)=false:=by
    cases z:x==y with
    |false=>rfl
    |true=>
     have:x=y:=by simpa using z
     subst this
     exact absurd (show x∈r.map (·.1) from List.mem_map.mpr ⟨(x,u),h2,rfl⟩) nd.1
   rw[this]
   exact a3p nd.2 h2
theorem a5Q(nd:ps.Nodup)(hl:us.length=ps.length)(h1:ps[i]?=some x)(h2:us[i]?=some u):(ps.zip us).reverse.lookup x=some u:=by
 refine a3p ?_ ?_
 ·rw[List.map_reverse]
  refine List.pairwise_reverse.mpr ?_
  rw[List.map_fst_zip (by omega)]
  exact nd.imp Ne.symm
 ·rw[List.mem_reverse]
  have:(ps.zip us)[i]?=some (x,u):=by rw[List.getElem?_zip_eq_some];exact⟨h1,h2⟩
  exact List.mem_of_getElem? this
noncomputable def rJ (P:Program) (w:World) (K:Fg) (mg:Str->Option Value) (af:Heap) (N:List Str) (q:Str) (ai:Scope) (fa:Addr) (cd:Value) (clos:List (Str×Addr)) (A:Around) (ag:List Env) (s:Shared) (H:Hp):Cx where
 prog:=P
 w:=w
 K:=K
 mg:=mg
 base:=af
 A:=A.deeper (W.envX q ai s.heap.objs.size fa cd clos)
 N:=N
 s₀:=s
 H₀:=H
 env:=W.envX q ai s.heap.objs.size fa cd clos
 outer:=ag
 stack:=W.envX q ai s.heap.objs.size fa cd clos::ag
 ex:=[]
 calm:=true
 fn:=fun _=>false
 pn:=[]
 xe:=fun _ _=>False
def nS(fa:Addr)(f:eG)(q:Str)(params:Arguments)(body:Expr)(ai:Scope)(clos:List (Str×Addr))(n:Nat)(spB:List V->Hp->VK->Prop):Sp:=fun vs H Q _=>
 vs.length=n/\fY q params body ai clos H fa/\(∀b o,f b=some o->H b=some (Fz o))/\spB vs (unl f H) fun v H'=>(∀b o,f b=some o->H' b=none)->Q v (cM f H')
theorem a7S{H₁:Hp}{f:eG}{cv:List V}{k:Nat}{spB:List V->Hp->VK->Prop}(L:Lent X σ H₁ f)
 (hcell:∀x,X.env.scope.names.lookup x=some .cell->∃c,X.env.cells.lookup x=some c)
 (hcv:cp.map (fun p=>σ[p.1]?)=cv.map fun v=>some (some v))
 (hcp:∀p∈cp,X.N[p.1]?=some p.2/\X.env.scope.names.lookup p.2=some .cell/\ai.names.lookup p.2=some .free)
 (free:∀y∈ai.names,y.2= .free->X.env.scope.names.lookup y.1=some .cell)
 (kind:ai.kind= .function)(co:ai.isCoroutine=false)(gen:ai.isGenerator=false)(nocell:∀y∈ai.names,y.2≠ .cell)(par:∀x∈ps,ai.names.lookup x=some .local)(nd:(ps++ cp.map (·.2)).Nodup)
 (hb:∀(pm ctv:Value) (c:Addr) (clos:List (Str×Addr)) (us:List Value),us.length=ps.length->bindArgs (W.kla_fn "<lambda>" q params body ai clos pm (.ref c) ctv) ⟨us,[]⟩=pure (ps.zip us))
 (hbody:∀(cd:Value) (A:Around) (ag:List Env) (s:Shared) (H:Hp) (vs:List V) (Q:VK),bT k (A.deeper (W.envX q ai s.heap.objs.size fa cd (fJ X.env.cells ai.names [])))->spB vs H Q->
  ∃t,PE (rJ X.prog X.w X.K X.mg X.base (ps++ cp.map (·.2)) q ai fa cd (fJ X.env.cells ai.names []) A ag s H) body t/\t ((vs++ cv).map some) H Q):
 eO X.prog X.w X.K X.mg X.base (k+ 1) fa (nS fa f q params body ai (fJ X.env.cells ai.names []) ps.length spB):=by
 have sub:=wU (cells:=X.env.cells) (names:=ai.names) (acc:=[]) (fun y hy e=>hcell _ (free y hy e)) (fun x c e=>by cases e)
 refine⟨fun vs H Q E ⟨_,⟨pm,c,ctv,o,e1,_⟩,_⟩=>⟨_,_,_,_,e1⟩,fun A ag s H us vs Q E hr e0 r ⟨hl,⟨pm,c,ctv,o,e1,e2,ws,tq,e3,e4⟩,hf,hsp⟩=> ?_⟩
 have hus:us.length=ps.length:=by rw[<- r.length];exact hl
 have hcd:s.heap.CodeRec (.ref c) q:=⟨c,o,ws,tq,rfl,kZ e0.hok e2,e3,e4⟩
 have lim:s.heap.NoLimit:=e0.mod.nolimit.keeps fun b o e=>(e0.bs b o e).1
 refine W.kla_callFunE hr.depth (kZ e0.hok e1) rfl co gen rfl hcd ?_
 rw[hb pm ctv c _ us hus]
 refine wpAny_pure (wpAny_newFunctionEnv nocell (fun y hy=>par y.1 (List.of_mem_zip hy).1) (fun h₁ hns hsb=>⟨lim.fresh _ hsb,?_⟩) kind)
 show codeAny _ _ (.expr body (W.envX q ai s.heap.objs.size fa (.ref c) (fJ X.env.cells ai.names []))) _ _
 have hk:∀b o,s.heap.get? b=some o->h₁.get? b=some o:=fun b o e=>hsb.extBut b o (Nat.ne_of_lt (Heap.lt_size e)) (Heap.get?_push_of_some _ e)
 obtain⟨t,ht,hq⟩:=hbody (.ref c) A ag s (unl f H) vs _ (hr.deeper _) hsp
 have hok':bZ X.prog X.w (unl f H) s.heap:=a2F e0.hok hf
 have hl2:(vs++ cv).length=(ps++ cp.map (·.2)).length:=by
  rw[List.length_append,List.length_append,List.length_map,hl]
  have:=congrArg List.length hcv
  rw[List.length_map,List.length_map]at this
  omega
 have cl:∀x c,(fJ X.env.cells ai.names []).lookup x=some c->∃o v,f c=some o/\o.data= .cell v/\h₁.get? c=some o:=fun x c e=>by
  obtain⟨o,v,h1,h2⟩:=L.cell x c (sub x c e)
  exact⟨o,v,h1,h2,hk _ _ (kZ e0.hok (hf c o h1))⟩
 have unN:∀b,H b=none->unl f H b=none:=fun b z=>by
  cases e:f b with
  |none=>rw[cZ e];exact z
  |some o=>exact kG e
 have I:aD (rJ X.prog X.w X.K X.mg X.base (ps++ cp.map (·.2)) q ai fa (.ref c) (fJ X.env.cells ai.names []) A ag s (unl f H)) [] ((vs++ cv).map some) (unl f H) {s with heap:=h₁,toks:=s.toks+ (ps.zip us).length}:=by
  have noA:∀b:Addr,b∉(rJ X.prog X.w X.K X.mg X.base (ps++ cp.map (·.2)) q ai fa (.ref c) (fJ X.env.cells ai.names []) A ag s (unl f H)).ex:=fun b z=>absurd (show b∈([]:List Addr) from z) (by simp)
  refine⟨⟨e0.mod,kind,rfl,rfl,Nat.le_refl _,fun y z c h1 h2=>L.inj y z c (sub _ _ h1) (sub _ _ h2),fun y hy=> ?_,(fun y c z _=>by cases z),fun _=>hr.hd,Around.frames_deeper e0.frames,.inr ⟨rfl,rfl⟩,fun b z=>absurd z (noA b),fun b o z=>⟨(e0.bs b o z).1,unN b (e0.bs b o z).2⟩,e0.bsz,fun b _ _=>noA b,fun b z=>absurd z (noA b),e0.funs,fun b z=>unN b (e0.frf b z)⟩,
   rfl,e0.bare,Un.kept hk,⟨_,hns,fun i y v h1 h2 h3=> ?_⟩,fun y c h=> ?_,hok'.fresh (Nat.le_refl _),fun y c h=> ?_,fun p hp=>absurd (show p∈([]:List (Addr×Obj)) from hp) (by simp),hok'.kept hk,by rw[List.length_map];exact hl2⟩
  ·have hy':ai.names.lookup y=some .cell\/ ai.names.lookup y=some .free:=hy
   rcases hy' with hy'|hy'
   ·exact absurd rfl (nocell _ (PySem.mem_of_lookup hy'))
   ·exact qU (PySem.mem_of_lookup hy')
  ·rw[List.getElem?_map]at h2
   have h2':(vs++ cv)[i]?=some v:=by
    cases z:(vs++ cv)[i]? with
    |none=>rw[z]at h2;cases h2
    |some v'=>rw[z]at h2;cases h2;rfl
   by_cases hi:i<ps.length
   ·have h1':ps[i]?=some y:=by
     have:(ps++ cp.map (·.2))[i]?=some y:=h1
     rw[List.getElem?_append_left hi]at this
     exact this
    rw[List.getElem?_append_left (by omega)]at h2'
    obtain⟨u,hu,ru⟩:=r.get h2'
    exact⟨u,ru,.inl ⟨par y (List.mem_of_getElem? h1'),a5Q (List.nodup_append.mp nd).1 hus h1' hu⟩⟩
   ·have h1':(cp.map (·.2))[i- ps.length]?=some y:=by
     have:(ps++ cp.map (·.2))[i]?=some y:=h1
     rw[List.getElem?_append_right (by omega)]at this
     exact this
    rw[List.getElem?_append_right (by omega),hl]at h2'
    rw[List.getElem?_map]at h1'
    cases hp:cp[i- ps.length]? with
    |none=>rw[hp]at h1';cases h1'
    |some p=>
     rw[hp]at h1'
     cases h1'
     have h4:σ[p.1]?=some (some v):=by
      have:=congrArg (fun l=>l[i- ps.length]?) hcv
      simp only[List.getElem?_map,hp,h2',Option.map_some]at this
      exact Option.some.inj this
     obtain⟨g1,g2,g3⟩:=hcp p (List.mem_of_getElem? hp)
     obtain⟨c',o',u,k1,k2,k3,k4⟩:=L.val p.1 p.2 v g1 h4 g2
     obtain⟨c2,k5⟩:=qU (cells:=X.env.cells) (acc:=[]) (PySem.mem_of_lookup g3)
     have k6:=sub _ _ k5
     rw[k1]at k6
     cases k6
     exact⟨u,k4,.inr ⟨.inr g3,c',k5,o',hk _ _ (kZ e0.hok (hf c' o' k2)),k3⟩⟩
  ·obtain⟨o,v,_,z1,z2⟩:=cl y c h
   exact⟨v,o,z2,z1⟩
  ·obtain⟨o,v,z,_⟩:=cl y c h
   exact kG z
 refine W.kla_codeExpr (wpAny_mono (ht [] _ _ _ _ I hq) (?_) fun e s' hs=>False.elim hs)
 rintro u s' ⟨v,H',J,rv,qv⟩
 obtain⟨u1,u2⟩:=a8r hf e0.hok e0.frf (show Un (fS ag) [] (unl f H) H' s.heap s'.heap from J.base) J.hok
 exact⟨v,cM f H',J.os,J.bare,u1,u2,rv,qv fun b o e=>J.base.free b o (kZ e0.hok (hf b o e)) (kG e) (by simp[rJ])⟩
abbrev sJ(tabs:List (Addr×Addr))(H:Hp):Prop:=∀z∈tabs,H z.2=some (fU z.2 [])
abbrev sG(tabs:List (Addr×Addr))(H:Hp):Prop:=∀z∈tabs,∃S,H z.2=some (fU z.2 S)
theorem a5X{mb:Str->Option Value}{k:Nat}{fd:FuncData}{s₁:Shared}{vs:List Value}{ns:List Int}{tabs:List (Addr×Addr)}
 (KX:K.In s₁.heap)(hns:s₁.heap.Ns mainGlobals mg)(hb:s₁.heap.Ns builtinsNs mb)(hbb:∀x:Str,x≠ "__name__" ->mb x=bootBuiltins x)(hlim:s₁.heap.NoLimit)(hg:s₁.gens= #[])
 (ha:s₁.heap.get? a=some {cls:=.type "list",data:=.seq vs.toArray})(hi:IntsAre vs ns)(hl:ns.length<=sizeLine)(hr:bT k callerA)
 (hT:∀z∈tabs,W.CodeHd s₁.heap z.1 z.2/\s₁.heap.get? z.2=some (W.tabObj #[])/\K.lookup z.2=none)
 (hbm:∃bm ob,mg "__builtins__"=some (.ref bm)/\bm≠builtinsNs/\s₁.heap.get? bm=some ob/\ob.cls= .type "module" /\ob.dict=some builtinsNs/\ob.data= .plain)
 (F:∀af:Heap,K.In af->af.Ns mainGlobals mg->(∀z∈tabs,kC mg af z.1 z.2)->fA P w K mg af CX k fa fd [x] sp)(hbind:∀(s:Shared) (u:Value),BindsTo s fd ⟨[u],[]⟩ [(x,u)])
 (hsp:∀H:Hp,sJ tabs H->aM K H a (ns.map V.int)->sp [.ref a] H (fun v H'=>v= .bl true/\sG tabs H') fun _ _ _=>False)
 (hCX:∀H e s',CX [] H s₁ (fun _ _ _=>False) e s'->False):
 codeAny (model P w) callerA (.call (.ref fa) ⟨[.ref a],[]⟩) (fun r s'=>r= .ok (.ret (.bool true))/\OldK s₁.heap s'.heap/\s'.os=s₁.os/\AllBare s'.gens) s₁:=by
 have rv:=a1s hi
 have lenV:=hi.length
 have neT:∀z∈tabs,z.2≠a:=fun z hz e=>by
  have e1:=(hT z hz).2.1
  rw[e,ha]at e1
  cases e1
 have core:∀H:Hp,sJ tabs H->(∀b,H b=none\/ (b=a/\K.lookup a=none/\∃o xs,H b=some (.frz o (.lst xs)))\/ ∃z∈tabs,b=z.2)->aM K H a (ns.map V.int)->bZ P w H s₁.heap->
  codeAny (model P w) callerA (.call (.ref fa) ⟨[.ref a],[]⟩) (fun r s'=>r= .ok (.ret (.bool true))/\OldK s₁.heap s'.heap/\s'.os=s₁.os/\AllBare s'.gens) s₁:=by
  intro H hTb hO hS hok
  have base_of:∀{b:Addr} {o:Obj},s₁.heap.get? b=some o->H b=none->(kN s₁.heap H).get? b=some o:=fun e n=>a8C e n
  have free:∀{b:Addr} {o:Obj},s₁.heap.get? b=some o->o≠{cls:=.type "list",data:=.seq vs.toArray} ->o≠W.tabObj #[] ->H b=none:=fun{b o} e n1 n2=>by
   rcases hO b with z|⟨rfl,_,_⟩|⟨z,hz,rfl⟩
   ·exact z
   ·rw[ha]at e;exact absurd (Option.some.inj e).symm n1
   ·rw[(hT z hz).2.1]at e;exact absurd (Option.some.inj e).symm n2
  have noA:∀{b:Addr} {o:Obj} {es:Array DictEntry} {ep:Nat},s₁.heap.get? b=some o->o.data= .dict es ep->H b=none:=fun{b o es ep} e d=>
   free e (fun z=>by rw[z]at d;cases d) (fun z=>by rw[z]at d;cases d)
  have nsK:∀{b:Addr} {m:Str->Option Value},s₁.heap.Ns b m->(kN s₁.heap H).Ns b m:=fun{b m} ⟨o,es,ep,e,d,r⟩=>⟨o,es,ep,base_of e (noA e d),d,r⟩
  have hKb:K.In (kN s₁.heap H):=fun b o e=>base_of (KX b o e) (by
   rcases hO b with z|⟨rfl,z,_⟩|⟨z,hz,rfl⟩
   ·exact z
   ·rw[z]at e;cases e
   ·rw[(hT z hz).2.2]at e;cases e)
  have hM:Mod K mg (kN s₁.heap H):=⟨hKb,nsK hns,⟨mb,nsK hb,hbb⟩,let ⟨mc,h1,h2⟩:=hlim;⟨mc,nsK h1,h2⟩⟩
  have e0:jX P w K mg (kN s₁.heap H) callerA [] s₁ H:=⟨rfl,hM,fun b o e=>a8d e,Nat.le_of_eq (a5h _ _),trivial,fun b hb=>absurd (show b∈([]:List Addr) from hb) (by simp),hok,.of_eq hg⟩
  have hMk:∀z∈tabs,kC mg (kN s₁.heap H) z.1 z.2:=fun z hz=>by
   obtain⟨⟨o,ws,file,tf,flags,tg,inF,text,tt,e1,e2,r⟩,e3,_⟩:=hT z hz
   obtain⟨bm,ob,b1,b2,b3,b4,b5,b6⟩:=hbm
   refine⟨⟨o,ws,file,tf,flags,tg,inF,text,tt,base_of e1 (free e1 (fun q=>by rw[q]at e2;exact absurd (Value.type.inj e2) (by decide)) (fun q=>by rw[q]at e2;cases e2)),e2,r⟩,bm,ob,b1,b2,fun q=> ?_,fun q=> ?_,base_of b3 (free b3 (fun q=>by rw[q]at b4;exact absurd (Value.type.inj b4) (by decide)) (fun q=>by rw[q]at b4;cases b4)),b4,b5,b6⟩
   ·obtain⟨o',es,ep,e',d',_⟩:=hns
    rw[q,e']at b3;cases b3;rw[d']at b6;cases b6
   ·rw[q,e3]at b3;cases b3;cases b4
  refine codeAny_mono ((F _ hKb (nsK hns) hMk).run callerA [] s₁ H ⟨[.ref a],[]⟩ [.ref a] [.ref a] _ _ hr e0 (hbind s₁ (.ref a)) (.cons rfl .nil) (hsp H hTb hS)) fun r s' h=> ?_
  cases r with
  |error e=>exact(hCX H e s' h).elim
  |ok fl=>
   cases fl with
   |next=>exact False.elim h
   |brk=>exact False.elim h
   |cont=>exact False.elim h
   |ret u=>
    obtain⟨v,H',os,bare,un,hok',r',q⟩:=h
    obtain⟨q',hT'⟩:v= .bl true/\sG tabs H':=q
    subst q'
    obtain rfl:u=Value.bool true:=r'
    refine⟨rfl,⟨fun b o e=> ?_,fun b o e=>un.there b o e (by simp)⟩,os,bare⟩
    rcases hO b with z|⟨rfl,_,ob,xs,z⟩|⟨z,hz,rfl⟩
    ·exact .inl (un.keep b o e z (by intro z;exact absurd (show b∈([]:List Addr) from z) (by simp)) (by simp))
    ·have z2:=un.frzs b ob _ z
     obtain⟨e1,_⟩:=hok b _ z
     obtain⟨e2,_⟩:=hok' b _ z2
     rw[e]at e1;cases e1
     exact .inl e2
    ·obtain⟨S4,z4⟩:=hT' z hz
     obtain⟨⟨ps,e4,_⟩,_⟩:=hok' z.2 _ z4
     have e3:=(hT z hz).2.1
     rw[e3]at e
     cases e
     exact .inr (.inl ⟨((hT z hz).1.tab e3).isCodeTable,rfl,#[],ps,rfl,by rw[e4,Array.empty_append]⟩)
 have hTok:∀(H:Hp) (z:Addr×Addr),z∈tabs->cX P w H s₁.heap z.2 (fU z.2 []):=fun H z hz=>a2f (hT z hz).2.1 trivial fun pos cv e=>by cases e
 classical
 let Ht:Hp:=fun b=>if b∈tabs.map (·.2) then some (fU b []) else none
 have hHt:sJ tabs Ht:=fun z hz=>if_pos (List.mem_map_of_mem hz)
 have ofHt:∀b u,Ht b=some u->∃z∈tabs,b=z.2/\u=fU z.2 []:=fun b u e=>by
  by_cases hb:b∈tabs.map (·.2)
  ·have e':=(if_pos hb).symm.trans e
   obtain⟨z,hz,rfl⟩:=List.mem_map.mp hb
   exact⟨z,hz,rfl,(Option.some.inj e').symm⟩
  ·have e':=(if_neg hb).symm.trans e
   cases e'
 cases hk:K.lookup a with
 |some o=>
  have e:=KX a o hk
  rw[ha]at e
  cases e
  refine core Ht hHt (fun b=> ?_) (.inr ⟨_,vs.toArray,_,hk,rfl,rfl,rfl,by rw[List.size_toArray,lenV];exact hl,by simpa using rv⟩) (fun b u z=> ?_)
  ·cases q:Ht b with
   |none=>exact .inl rfl
   |some u=>obtain⟨z,hz,e,_⟩:=ofHt b u q;exact .inr (.inr ⟨z,hz,e⟩)
  ·obtain⟨y,hy,rfl,rfl⟩:=ofHt b u z
   exact hTok _ y hy
 |none=>
  refine core (fun b=>if b=a then some (.frz {cls:=.type "list",data:=.seq vs.toArray} (.lst (ns.map V.int))) else Ht b) (fun z hz=> ?_) (fun b=> ?_) (.inl (.inr ⟨{cls:=.type "list",data:=.seq vs.toArray},if_pos rfl⟩)) (fun b u z=> ?_)
  ·exact(if_neg (neT z hz)).trans (hHt z hz)
  ·by_cases hb:b=a
   ·exact .inr (.inl ⟨hb,hk,_,_,if_pos hb⟩)
   ·cases q:Ht b with
    |none=>exact .inl (if_neg hb)
    |some u=>obtain⟨z,hz,e,_⟩:=ofHt b u q;exact .inr (.inr ⟨z,hz,e⟩)
  ·by_cases hb:b=a
   ·have z':=(if_pos hb).symm.trans z
    cases z'
    subst hb
    exact⟨ha,by rw[List.length_map];exact hl,vs,_,rv,ha⟩
   ·have z':=(if_neg hb).symm.trans z
    obtain⟨y,hy,rfl,rfl⟩:=ofHt b u z'
    exact hTok _ y hy
def a4S(P:Program)(w:World)(K:Fg)(mg:Str->Option Value)(af:Heap)(k:Nat)(m:Str)(ta:TE)(t:TA):TE:=fun σ H Q=>ta σ H fun x H1=>∃a C dx fs fa sp,x= .ref a/\H1 a=some (.ins C dx fs)/\cI K C/\cH K C m/\fs.lookup m=some (.ref fa)/\eO P w K mg af k fa sp/\t σ H1 fun vs H2=>sp vs H2 Q E0
section
variable{k:Nat}{p pos:Pos}{o:Expr}{t:TA}
theorem a5m{pl:Sem Bool}(he:PE X o ta)(hr:bT k X.A)(ha:PA X (e::es) t)
 (hst:starEach (e::es) X.env=(false,eval e X.env)::starEach es X.env:=by rfl)(hpl:(backTo pos (starEach es X.env)).any (·.1)=false:=by rfl)
 (ht:eval (.Call (.Attribute o m apos) (e::es) [] pos) X.env=(do
  let ov<- eval o X.env
  standAt apos.atName
  let (f,first)<- holding [ov] (getMethod ov m pl)
  callWith pos f first (backTo pos (starEach (e::es) X.env)) (backToKw pos (keywordEach [] X.env))):=by rfl):
 PE X (.Call (.Attribute o m apos) (e::es) [] pos) (a4S X.prog X.w X.K X.mg X.base k m ta t):=by
 intro ae s σ H Q I h
 refine W.methodCall_KW (pl:=pl) (aT (he ae s σ H _ I h) ?_) ht
 rintro u s1 ⟨x,H1,I1,rx,a,C,dx,fs,fa,sp,ex,ea,c,n,l,F,q⟩
 subst ex
 obtain rfl:u=Value.ref a:=rx
 obtain⟨mA,O,_,_,_,_⟩:=sE I1.hok ea
 obtain⟨od,J,_⟩:=O.look
 refine W.method_usual (r:=none) I1.kIn J (W.plainGet_of (c.get m)).1 (W.plainGet_of (c.get m)).2 n rfl ?_
 refine a1U I1 ea c n l fun u2 s2 I2 ru=> ?_
 obtain rfl:u2=Value.ref fa:=ru
 show wpAny _ _ (callWith pos (.ref fa) [] (backTo pos (starEach (e::es) X.env)) []) _ _ _
 rw[hst]
 refine W.callWith_of (P:=fun h=>∃c d fd sl,h.get? fa=some ⟨c,d,.func fd,sl⟩) (by show((false||(backTo pos (starEach es X.env)).any (·.1))||false)=false;rw[hpl];rfl)
  (fun h ⟨c,d,fd,sl,z⟩=>⟨.frame,.inl rfl,(W.Looks.ld (part:=none) z).andThen .now⟩) (Calls.evalArgs_plain ?_)
 have ha':=ha pos ae s2 σ H1 _ I2 q
 rw[hst]at ha'
 refine aT ha' ?_
 rintro us s3 ⟨vs,H2,I3,r,q2⟩
 obtain⟨c,d,fd,sl,z⟩:=F.fn _ _ _ _ q2
 refine⟨⟨c,d,fd,sl,kZ I3.hok z⟩,?_⟩
 refine wpAny_call (codeAny_mono (F.run X.A X.stack s3 H2 us vs Q E0 hr I3.env0 r q2) fun r s' hq=> ?_)
 cases r with
 |error e=>exact False.elim hq
 |ok fl=>
  cases fl with
  |ret u=>exact I3.after hq
  |next=>exact False.elim hq
  |brk=>exact False.elim hq
  |cont=>exact False.elim hq
end
structure a7M where
 nx:St->Hp->Prop
 rt:V->St->Hp->Prop
abbrev TSR:=a7M->St->Hp->Prop
structure PEw(X:Cx)(e:Expr)(t:TE):Prop where
 run:PE X e t
structure PAw(X:Cx)(es:List Expr)(t:TA):Prop where
 run:PA X es t
structure PTw(X:Cx)(e:Expr)(t:TT):Prop where
 run:PT X e t
structure PSw(X:Cx)(st:Stmt)(t:TS):Prop where
 run:PS X st t
structure PSsw(X:Cx)(st:List Stmt)(t:TS):Prop where
 run:eS X st t
def a8T(R:Addr->Sp->Prop)(m:Str)(E:XK)(ta:TE)(t:TA):TE:=fun σ H Q=>ta σ H fun x H1=>∃C sp a dx fs,R C sp/\x= .ref a/\H1 a=some (.ins C dx fs)/\fs.lookup m=none/\t σ H1 fun vs H2=>sp (x::vs) H2 Q E
def a4p(X:Cx)(R:Addr->Sp->Prop)(m:Str)(ta:TE)(t:TA):TE:=fun σ H Q=>ta σ H fun x H1=>∃C sp a dx fs,R C sp/\x= .ref a/\H1 a=some (.ins C dx fs)/\fs.lookup m=none/\
 t σ H1 fun vs H2=>∀f,Lent X σ H2 f->sp (x::vs) (cM f H2) (fun v H'=>Q v (unl f H')) E0
section
variable{k:Nat}{R:Addr->Sp->Prop}{E:XK}{pos:Pos}{o:Expr}{t:TA}
theorem yQ{pl:Sem Bool}(he:PE X o ta)(hR:∀C sp,R C sp->cI X.K C/\aS X.prog X.w X.K X.mg X.base CX k C m ps sp)(hr:bT k X.A)(hx:gY CX X E)(ha:PA X (e::es) t)
 (hst:starEach (e::es) X.env=(false,eval e X.env)::starEach es X.env:=by rfl)(hpl:(backTo pos (starEach es X.env)).any (·.1)=false:=by rfl)
 (ht:eval (.Call (.Attribute o m apos) (e::es) [] pos) X.env=(do
  let ov<- eval o X.env
  standAt apos.atName
  let (f,first)<- holding [ov] (getMethod ov m pl)
  callWith pos f first (backTo pos (starEach (e::es) X.env)) (backToKw pos (keywordEach [] X.env))):=by rfl):
 PE X (.Call (.Attribute o m apos) (e::es) [] pos) (a8T R m E ta t):=by
 intro ae s σ H Q I h
 refine W.methodCall_KW (pl:=pl) (aT (he ae s σ H _ I h) ?_) ht
 rintro u s1 ⟨x,H1,I1,rx,C,sp,a,dx,fs,hC,ex,ea,l,q⟩
 obtain⟨c,G⟩:=hR C sp hC
 obtain⟨f,fd,F,hm,hb⟩:=G.ex
 subst ex
 obtain rfl:u=Value.ref a:=rx
 refine oU I1 ea c hm l ?_
 refine W.callWith_K (first:=[.ref a]) (h₀:=X.base) I.ok.mod.kin hm.kp (aT (ha pos ae s1 σ H1 _ I1 q) fun us s2 ⟨vs,H2,I2,r,q2⟩=>⟨I2.kIn,?_⟩) hst hpl
 exact rP (us:=.ref a::us) (vs:=.ref a::vs) F hr hb .nil hx I2 (.cons rfl r) (by rw[List.append_nil];exact q2)
theorem a57{pl:Sem Bool}(he:PE X o ta)(hR:∀C sp,R C sp->cI X.K C/\aS X.prog X.w X.K X.mg X.base aE k C m ps sp)(hr:bT k X.A)(ha:PA X (e::es) t)(hfn:∀x,X.fn x=true:=by exact fun _=>rfl)
 (hst:starEach (e::es) X.env=(false,eval e X.env)::starEach es X.env:=by rfl)(hpl:(backTo pos (starEach es X.env)).any (·.1)=false:=by rfl)
 (ht:eval (.Call (.Attribute o m apos) (e::es) [] pos) X.env=(do
  let ov<- eval o X.env
  standAt apos.atName
  let (f,first)<- holding [ov] (getMethod ov m pl)
  callWith pos f first (backTo pos (starEach (e::es) X.env)) (backToKw pos (keywordEach [] X.env))):=by rfl):
 PE X (.Call (.Attribute o m apos) (e::es) [] pos) (a4p X R m ta t):=by
 intro ae s σ H Q I h
 refine W.methodCall_KW (pl:=pl) (aT (he ae s σ H _ I h) ?_) ht
 rintro u s1 ⟨x,H1,I1,rx,C,sp,a,dx,fs,hC,ex,ea,l,q⟩
 obtain⟨c,G⟩:=hR C sp hC
 obtain⟨f,fd,F,hm,hb⟩:=G.ex
 subst ex
 obtain rfl:u=Value.ref a:=rx
 refine oU I1 ea c hm l ?_
 refine W.callWith_K (first:=[.ref a]) (h₀:=X.base) I.ok.mod.kin hm.kp (aT (ha pos ae s1 σ H1 _ I1 q) fun us s2 ⟨vs,H2,I2,r,q2⟩=>⟨I2.kIn,?_⟩) hst hpl
 exact a1i (us:=.ref a::us) (vs:=.ref a::vs) hfn F hr hb I2 (.cons rfl r) q2
end
theorem aS.le{k:Nat}(G:aS P w K mg af CX j C m ps sp)(h:j<=k):aS P w K mg af CX k C m ps sp:=by
 obtain⟨f,fd,F,hm,hb⟩:=G.ex
 exact⟨f,fd,F.mono h,hm,hb⟩
theorem a7P:typeLookup (.type "list_reverseiterator") "__len__"=pure none:=by rw[typeLookup_type,builtinLookup_eq_fast];kernel_rfl
theorem a6i:typeLookup (.type "list_reverseiterator") "__length_hint__"=pure (some (.builtin "list_reverseiterator.__length_hint__")):=by rw[typeLookup_type,builtinLookup_eq_fast];kernel_rfl
section
theorem a5D{r:Addr}{Q:Bool->Shared->Prop}(hT:s.TypeIs (.ref r) "list_reverseiterator")(h:Q false s):wpAny (model prog w) A (Builtin.List.listLengthHint (.ref r)) Q E s:=by
 unfold Builtin.List.listLengthHint
 refine wpAny_bind (wpAny_specialOf hT a7P ?_)
 show wpAny _ A (specialOf (Value.ref r) (Str.ofString "__length_hint__")>>=_) _ _ _
 refine wpAny_bind (wpAny_specialOf hT a6i ?_)
 generalize hid:("list_reverseiterator.__length_hint__":String)=id0
 wp_delta
 rw[show splitId id0=some ("list_reverseiterator","__length_hint__") from by subst hid;decide+kernel]
 subst hid
 refine wpAny_bind (wpAny_isInstance (b:=true) hT (by rw[isSubtype_type];kernel_rfl) ?_)
 exact wpAny_pure h
theorem a7d{R:Result->Shared->Prop}(hh:A.handled=none){I S:Addr}{items:Array Value}(hne:l≠I)(hit:s.heap.IsRevIter I l ((items.size:Int)- 1))(hl:s.heap.IsList l items)(hSI:S≠I)(hSl:S≠l)
 (hS:s.heap.get? S=some {cls:=.type "list",data:=.seq #[]})(hn:items.size<=sizeLine)
 (hR:∀h' tk acc' c',(∀b o,b≠S->b≠I->s.heap.get? b=some o->h'.get? b=some o)->h'.get? S=some {cls:=.type "list",dict:=none,data:=.seq acc' c',slots:= #[]} ->ItemsOf (fun i v=>items[items.size- 1- i]?=some v) acc' items.size->R (.ok (.ret .none)) {s with heap:=h',toks:=tk}):
 wpAny (model prog w) A.in1 (Builtin.«list.__init__» ⟨[.ref S,.ref I],[]⟩)
  (fun fin s'=>match fin with| .done f=>R (.ok f) s'| .again c'=>c'.quiet=true/\codeAny (model prog w) A c' R s') (fun e s'=>R (.error e) s') s:=by
 have W:=Walks.listRev (prog:=prog) (w:=w) (A:=A.in1) hh I l hne items
 have hSf:S∉ [I,l]:=by simp only[List.mem_cons,List.not_mem_nil,or_false,not_or];exact⟨hSI,hSl⟩
 have e0:(items.size:Int)- 1- ((0:Nat):Int)=(items.size:Int)- 1:=by omega
 show wpAny _ A.in1 (do let old<- Builtin.List.listItems (.ref S);Builtin.List.listUpdate (.ref S) (fun _=> #[]);letGo old.toList.reverse;Builtin.List.listExtendWith (.ref S) (.ref I) .none) _ _ s
 refine wpAny_bind ?_
 unfold Builtin.List.listItems
 refine wpAny_bind (wpAny_seqItems hS rfl (wpAny_pure ?_))
 show wpAny _ A.in1 (updateSeq S (fun _=> #[])>>=fun _=>letGo (#[]:Array Value).toList.reverse>>=fun _=>Builtin.List.listExtendWith (.ref S) (.ref I) .none) _ _ s
 refine wpAny_bind (wpAny_updateSeq hS rfl ?_)
 have hS₂:=Heap.get?_update_self (Obj.mapSeq (fun _=>(#[]:Array Value))) hS rfl
 have oth:∀b o,b≠S->s.heap.get? b=some o->(s.heap.update S (Obj.mapSeq (fun _=>(#[]:Array Value)))).get? b=some o:=
  fun b o hb e=>(Heap.get?_update_other _ _ (Ne.symm hb)).trans e
 refine wpAny_bind (wpAny_letGo ?_)
 have hit2:=hit.at (h':=s.heap.update S (Obj.mapSeq (fun _=>(#[]:Array Value)))) fun o e=>oth I o hSI.symm e
 have hl2:=hl.at (h':=s.heap.update S (Obj.mapSeq (fun _=>(#[]:Array Value)))) fun o e=>oth l o hSl.symm e
 unfold Builtin.List.listExtendWith
 refine wpAny_bind (wpAny_typeOf hit2.typeIs ?_)
 have h1:Builtin.List.listSameRef (.ref S) (.ref I)=false:=by simp[Builtin.List.listSameRef,hSI]
 have h2:(Value.type "list_reverseiterator"==Value.type "list")=false:=by decide
 have h3:(Value.type "list_reverseiterator"==Value.type "tuple")=false:=by decide
 simp only[h1,h2,h3,Bool.or_false,Bool.false_eq_true,if_false]
 refine wpAny_bind (wpAny_pyIter_revIter hit2 ?_)
 refine wpAny_bind (wpAny_holding (a5D hit2.typeIs ?_))
 rw[if_neg (by decide)]
 refine wpAny_pure ⟨plainId_quiet F.plain_extend_loop _,codeAny_extend_loopS W.toS hn S hSf .none items.size 0 _ #[] _ rfl (Nat.zero_le _) ⟨Nat.zero_le _,by rw[e0];exact hit2,hl2⟩ hS₂ (ItemsOf.nil _) fun s' acc' c' hm hS' hacc=> ?_⟩
 rw[Moved.eq_with hm]
 refine hR s'.heap s'.toks acc' c' (fun b o hb hbI e=>hm.heap b o (fun hmem=> ?_) (oth b o hb e)) hS' hacc
 rcases List.mem_cons.mp hmem with e'|hmem
 ·exact hb e'
 ·exact hbI (List.mem_singleton.mp hmem)
theorem a38(hh:A.handled=none){I:Addr}{items:Array Value}(hne:l≠I)(hit:s.heap.IsRevIter I l ((items.size:Int)- 1))(hl:s.heap.IsList l items)(hn:items.size<=sizeLine)
 (hQ:∀h' tk acc' c',(∀b o,b≠I->s.heap.get? b=some o->h'.get? b=some o)->h'.get? s.heap.objs.size=some {cls:=.type "list",dict:=none,data:=.seq acc' c',slots:= #[]} ->ItemsOf (fun i v=>items[items.size- 1- i]?=some v) acc' items.size->Q (.ref s.heap.objs.size) {s with heap:=h',toks:=tk}):
 wpAny (model prog w) A (call (.type "list") [.ref I]) Q E s:=by
 refine callType_codes (Q₁:=fun obj s₁=>obj= .ref s.heap.objs.size/\s₁={s with heap:=s.heap.push {cls:=.type "list",data:=.seq #[]}}) F.called_list (F.typeCall_list_1 _) F.entry_list_init
  (code_list_new _ ⟨rfl,rfl⟩) fun obj s₁ h₁=> ?_
 obtain⟨rfl,rfl⟩:=h₁
 have hS:(s.heap.push {cls:=.type "list",data:=.seq #[]}).get? s.heap.objs.size=some {cls:=.type "list",data:=.seq #[]}:=Heap.get?_push_size _ rfl
 have ltI:I<s.heap.objs.size:=let ⟨o,ho,_⟩:=hit;Heap.lt_size ho
 have ltl:l<s.heap.objs.size:=let ⟨o,ho,_⟩:=hl;Heap.lt_size ho
 refine⟨⟨_,hS,rfl⟩,F.args_list_init_2 _ _,a7d (A:=A.in1) hh hne (hit.at fun o e=>Heap.get?_push_of_some _ e) (hl.at fun o e=>Heap.get?_push_of_some _ e) (Nat.ne_of_gt ltI) (Nat.ne_of_gt ltl) hS hn fun h' tk acc' c' hk hS' hacc=> ?_⟩
 exact⟨rfl,hQ h' tk acc' c' (fun b o hb e=>hk b o (Nat.ne_of_lt (Heap.lt_size e)) hb (Heap.get?_push_of_some _ e)) hS' hacc⟩
end
def a4z(K:Fg)(te:TE):TE:=fun σ H Q=>te σ H fun x H1=>∃p ys,x= .ref p/\aM K H1 p ys/\∀l,H1 l=none->Q (.ref l) (upd H1 l (.lst ys.reverse))
section
variable{x':Str}{p p' pos:Pos}
theorem a6C(hc:X.calm=true)(he:PE X e te)(hg:Gl X x)(hm:X.mg x=none)(hv:bootBuiltins x=some (.type "list"))(hg':Gl X x')(hm':X.mg x'=none)(hv':bootBuiltins x'=some (.type "reversed"))
 (hn:x≠ "__name__":=by decide)(hdb:(x==("__debug__":Str))=false:=by decide)(hn':x'≠ "__name__":=by decide)(hdb':(x'==("__debug__":Str))=false:=by decide)
 (h1:starEach [e] X.env= [(false,eval e X.env)]:=by rfl)(h2:starEach [.Call (.Name x' p') [e] [] pos'] X.env= [(false,eval (.Call (.Name x' p') [e] [] pos') X.env)]:=by rfl):
 PE X (.Call (.Name x p) [.Call (.Name x' p') [e] [] pos'] [] pos) (a4z X.K te):=by
 intro ae s σ H Q I h
 refine wpAny_Call_Name_kw (nE I hg hm hv ?_ hn hdb)
 refine PyProof.Rows.callWith_type1 ?_ h2 rfl
 rw[h2]
 refine Calls.spliced_cons ?_
 refine wpAny_Call_Name_kw (nE I hg' hm' hv' ?_ hn' hdb')
 refine PyProof.Rows.callWith_type1 ?_ h1 rfl
 rw[h1]
 refine Calls.spliced_cons (aT (he ae s σ H _ I h) ?_)
 rintro u s1 ⟨v,H1,I1,rv,q,ys,ex,hq,k⟩
 subst ex
 cases rv
 refine Calls.spliced_nil ?_
 obtain⟨its,r',pl,hz⟩:=I1.list hq
 have hlen:=r'.length
 refine call_reversed_list pl.isList ?_
 refine Calls.spliced_nil ?_
 have hsz:its.toArray.size=its.length:=by simp
 have kp1:∀b o,s1.heap.get? b=some o->(s1.heap.push (revObj q ((its.toArray.size:Int)- 1))).get? b=some o:=fun b o e=>Heap.get?_push_of_some _ e
 have I2:aD X ae σ H1 {s1 with heap:=s1.heap.push (revObj q ((its.toArray.size:Int)- 1))}:=I1.kept (t':=s1.toks) kp1
 have hD:(s1.heap.push (revObj q ((its.toArray.size:Int)- 1))).get? s1.heap.objs.size=some (revObj q ((its.toArray.size:Int)- 1)):=Heap.get?_push_size _ rfl
 have hit:(s1.heap.push (revObj q ((its.toArray.size:Int)- 1))).IsRevIter s1.heap.objs.size q ((its.toArray.size:Int)- 1):=⟨_,hD,rfl,rfl⟩
 have ltq:q<s1.heap.objs.size:=by obtain⟨o,ho,_⟩:=pl.isList;exact Heap.lt_size ho
 refine a38 (s:={s1 with heap:=s1.heap.push (revObj q ((its.toArray.size:Int)- 1))}) (I2.ok.hd hc) (Nat.ne_of_lt ltq) hit (pl.isList.at fun o e=>kp1 q o e) (by rw[hsz];omega) fun h' tk acc c hk hS hI=> ?_
 have its':acc.toList.length=ys.reverse.length:=by rw[Array.length_toList,hI.1,hsz,List.length_reverse];omega
 have hvals:aX ys.reverse acc.toList:=a0z its' fun j y u e1 e2=>by
  rw[Array.getElem?_toList]at e2
  have e3:=hI.2 j u e2
  have hj:j<ys.length:=by
   have:=(List.getElem?_eq_some_iff.mp e1).1
   simpa using this
  rw[List.getElem?_reverse hj]at e1
  have e4:its[its.length- 1- j]?=some u:=by simpa using e3
  rw[<- hlen]at e4
  obtain⟨u',e5,r5⟩:=aX.get r' e1
  rw[e4]at e5
  cases e5
  exact r5
 let s2:Shared:={s1 with heap:=s1.heap.push (revObj q ((its.toArray.size:Int)- 1))}
 have I2':aD X ae σ (upd H1 s2.heap.objs.size (.lst ys.reverse)) {s2 with heap:=s2.heap.push {cls:=.type "list",dict:=none,data:=.seq acc c,slots:= #[]},toks:=tk}:=by
  refine I2.laid (t':=tk) (o:=.lst ys.reverse) (fun b o e=>Heap.get?_push_of_some _ e) (Nat.le_refl _) ?_
  exact⟨by rw[List.length_reverse];exact hz,acc.toList,c,hvals,by rw[Array.toArray_toList];exact Heap.get?_push_size _ rfl⟩
 have ltD:s1.heap.objs.size<s2.heap.objs.size:=Heap.lt_size hD
 have I3:aD X ae σ (upd H1 s2.heap.objs.size (.lst ys.reverse)) {s1 with heap:=h',toks:=tk}:=by
  refine aD.turned (s:={s2 with heap:=s2.heap.push {cls:=.type "list",dict:=none,data:=.seq acc c,slots:= #[]},toks:=tk}) (it:=s1.heap.objs.size) I2' (fun b o hb e=> ?_) (by rw[aI (Nat.ne_of_lt ltD)];exact I1.hok.fresh (Nat.le_refl _)) ?_ (.inr I1.sz) ?_ ?_
  ·by_cases z:b=s2.heap.objs.size
   ·subst z
    rw[show (s2.heap.push {cls:=.type "list",dict:=none,data:=.seq acc c,slots:= #[]}).get? s2.heap.objs.size=some {cls:=.type "list",dict:=none,data:=.seq acc c,slots:= #[]} from Heap.get?_push_size _ rfl]at e
    rw[<- e]
    exact hS
   ·rcases Heap.get?_push_cases e with⟨z',_⟩|e
    ·exact absurd z' z
    ·exact hk b o hb e
  ·obtain⟨m,⟨o,_,_,ho,_⟩,_⟩:=I1.loc
   exact Nat.ne_of_gt (Heap.lt_size ho)
  ·intro y c e
   obtain⟨v,o,ho,_⟩:=I1.cell y c e
   exact Nat.ne_of_lt (Heap.lt_size ho)
  ·intro pr hp
   exact Nat.ne_of_lt (Heap.lt_size (I1.pin pr hp).1)
 exact⟨.ref s2.heap.objs.size,_,I3,rfl,k _ (I2.hok.fresh (Nat.le_refl _))⟩
end
structure PPw(X:Cx)(pos:Pos)(keys:List (Option Expr))(values:List Expr)(trs:List (TE×TE)):Prop where
 run:PPs X pos keys values trs
structure KDict(P:Params)(K:Fg)(p:Addr):Prop where
 ex:∃(es:Array DictEntry) (n:Nat),K.lookup p=some ⟨.type "dict",none,.dict es n,#[]⟩ /\W.KeysLit P es.toList
 lo:(p==sysModules)=false
structure FnV(P:Program)(w:World)(K:Fg)(mg:Str->Option Value)(af:Heap)(k:Nat)(fa:Addr)(sp:Sp):Prop where
 kp:W.keepIn K (.ref fa)=true
 run:∀(A:Around) (ag:List Env) (s:Shared) (H:Hp) (us:List Value) (vs:List V) (Q:VK) (E:XK),bT k A->jX P w K mg af A ag s H->K.In s.heap->aX vs us->sp vs H Q E->
  codeAny (model P w) A (.call (.ref fa) ⟨us,[]⟩) (CR aE ag P w H s Q E) s
theorem oW(z:Str):∀zs:List Str,iH (.str z) (zs.map V.str)=decide (z∈zs)
 | []=>rfl
 |y::r=>by
  have ih:=oW z r
  unfold iH at ih|-
  rw[List.map_cons,List.any_cons,ih]
  have e:kX (.str y) (.str z)=decide (y=z):=by
   by_cases h:y=z<;>simp[kX,h]
  rw[e,<- Bool.decide_or]
  congr 1
  rw[List.mem_cons]
  exact propext ⟨fun h=>h.imp Eq.symm id,fun h=>h.imp Eq.symm id⟩
theorem nV:∀zs:List Str,(zs.map V.str).all lX=true
 | []=>rfl
 |y::r=>by
  rw[List.map_cons,List.all_cons,nV r]
  rfl
structure kF(K:Fg)(mg:Str->Option Value)(cls m qual:Str)(st:Stmt)(z:Addr×Addr):Prop where
 ex:∃C f fd,mg cls=some (.ref C)/\jJ K m qual st f fd/\W.findIn K (.ref C) m=some (some (.ref f))/\W.isFn K (.ref f)=true/\fd.code= .ref z.1
 hd:W.codeHdIn K z.1 z.2=true
section
theorem a4A{cls:Str}{st:Stmt}{c p:Addr}{osl:Array (Option Value)}{kV:Value}(X:K.In h)(G:h.Ns mainGlobals mg)(n:W.nsIn K mainGlobals cls=some (some (.ref C)))(a:W.findIn K (.ref C) m=some (some (.ref f)))(i:W.isFn K (.ref f)=true)
 (l:K.lookup f=some ⟨oc,od,.func (W.fnOf m qual (jR st) (eZ st) (aO st) .none kV doc pm an (.ref c) ct),osl⟩)(hc:W.codeIn K (.ref c) qual=true)(k:W.keepIn K (.ref f)=true)(hd:W.codeHdIn K c p=true):kF K mg cls m qual st (c,p):=
 ⟨⟨C,f,_,W.mg_of X G n,tM l hc k,a,i,rfl⟩,hd⟩
theorem kF.known{cls:Str}{st:Stmt}{k:Nat}{z:Addr×Addr}(D:kF K mg cls m qual st z)(hC:mg cls=some (.ref C))(S:bD N ps (aO st))
 (hb:∀(kV doc pm:Value) (an:Option Addr) (ah ct:Value) (us:List Value),us.length=ps.length->bindArgs (W.fnOf m qual (jR st) (eZ st) (aO st) .none kV doc pm an ah ct) ⟨us,[]⟩=pure (ps.zip us))
 (len:∀vs H Q E,sp vs H Q E->vs.length=ps.length)
 (hbody:∀(f:Addr) (A:Around) (ag:List Env) (s:Shared) (H:Hp) (vs:List V) (Q:VK) (E:XK),bT k (A.deeper (envOfC qual (aO st) s.heap.objs.size f (.ref z.1)))->sp vs H Q E->
  ∃t,eS (eJ aE P w K mg af N qual (aO st) f (.ref z.1) A ag s H E).nox (eZ st) t/\t {nx:=fun _ H'=>Q .non H',rt:=Q} (start N vs) H):aS P w K mg af aE (k+ 1) C m ps sp:=by
 obtain⟨C',f,fd,hC',F,ha,hi,hc⟩:=D.ex
 rw[hC]at hC'
 cases hC'
 refine⟨f,fd,?_,⟨ha,hi,F.kp⟩,F.binds hb⟩
 obtain⟨oc,od,kV,doc,pm,an,ah,ct,osl,rfl,lk,hcd⟩:=F.ex
 have e:ah= .ref z.1:=hc
 subst e
 refine a0C lk hcd S len fun A ag s H vs Q E hr hsp=> ?_
 obtain⟨t,h,q⟩:=hbody f A ag s H vs Q E hr hsp
 exact⟨t,h.nox,q⟩
end
theorem a5y{l:W.OpenLaw}{n k:Nat}{q:Program}{loose:List Str}{XP:(Str->Option Value)->Heap->Prop}{YP:World->Heap->Prop}{d:DefRec}{K:Params->Fg}{CX:World->eY}{sp:World->List (Addr×Addr)->Sp}
 (hn:l.most=some n)(hn2:n<=sizeLine)(hdf:d.params.defaults= [])(hr:bT k callerA)
 (hY:∀(w:World) (h:Heap),YP w h->(K w.params).In h)
 (F:∀(w:World) (mg:Str->Option Value) (fa:Addr) (h:Heap),YP w h->(K w.params).In h->h.Ns mainGlobals mg->mg d.name=some (.ref fa)->
  W.noTabs (K w.params)=true/\∃tabs:List (Addr×Addr),(∀z∈tabs,a60 q (K w.params) z\/ (W.codeHdIn (K w.params) z.1 z.2=true/\h.get? z.2=some (W.tabObj #[])))/\∃fd:FuncData,(∀(s:Shared) (u:Value),BindsTo s fd ⟨[u],[]⟩ [(x,u)])/\
   ∀af:Heap,(K w.params).In af->af.Ns mainGlobals mg->(∀z∈tabs,kC mg af z.1 z.2)->fA l.prog w (K w.params) mg af (CX w) k fa fd [x] (sp w tabs))
 (hsp:∀(w:World) (tabs:List (Addr×Addr)) (H:Hp) (a:Addr) (ns:List Int),ns.length<=n->sJ tabs H->aM (K w.params) H a (ns.map V.int)->sp w tabs [.ref a] H (fun v H'=>v= .bl true/\sG tabs H') fun _ _ _=>False)
 (hCX:∀(w:World) (H:Hp) (s:Shared) (e:Value) (s':Shared),CX w [] H s (fun _ _ _=>False) e s'->False):
 W.WalkO q loose XP YP l.row.toRowW d [] (fun f vs=>PySem.call f vs):=by
 refine Att.attach_call hn hdf fun w s₀ s₁ mg mb fa o pm cd doc a vs ns G Y ho hd hcd hmg hobj hints hlen hg=> ?_
 have KX:=hY w _ Y
 obtain⟨hnT,tabs,hTb,fd,hb,hF⟩:=F w mg fa _ Y KX G.T.g hmg
 refine a5X KX G.T.g G.T.b G.T.builtins G.T.nolimit hg hobj hints (Nat.le_trans hlen hn2) hr (fun z hz=> ?_) G.T.bmain hF hb (fun H hO hS=>hsp w tabs H a ns hlen hO hS) fun H e s'=>hCX w H s₁ e s'
 rcases hTb z hz with t|⟨t1,t2⟩
 ·obtain⟨y,h1,h2⟩:=t.ex
  obtain⟨d',h1⟩:=Option.isSome_iff_exists.mp h1
  obtain⟨t1,t2⟩:=W.tab_of G.T KX h1 h2
  exact⟨t1,t2,a0G hnT KX t2⟩
 ·exact⟨W.codeHd_of_K KX t1,t2,a0G hnT KX t2⟩
theorem a17:jA X (.builtin "isinstance") (fun xs H Q=>∃x T t k,xs= [x,.ty T] /\gC X.K H x t/\W.kitOne X.K t (.type T)=some k/\Q (.bl k) H):=by
 intro ae s σ H xs us Q I r h
 obtain⟨x,T,t,k,rfl,ty,e,q⟩:=h
 cases r with
 |cons r1 rr=>
  cases rr with
  |cons r2 rr=>
   cases rr
   cases r2
   exact a8V I r1 ty e fun tk=>⟨.bl k,H,I.tok tk,rfl,q⟩
structure tX(X:Cx)(σ:St)(H:Hp)(f:eG):Prop extends Lent X σ H f where
 only:∀b o,f b=some o->∃v,o.data= .cell v
theorem a5j(I:aD X ae σ H s)(hfn:∀x,X.fn x=true):∃f:eG,tX X σ H f/\(∀b o,f b=some o->H b=none/\s.heap.get? b=some o/\X.base.get? b=none/\b∉fS X.stack):=by
 classical
 let f:eG:=fun b=>if(∃x,X.env.cells.lookup x=some b) then s.heap.get? b else none
 have fe:∀{b o},f b=some o->(∃x,X.env.cells.lookup x=some b)/\s.heap.get? b=some o:=fun{b o} e=>by
  by_cases z:∃x,X.env.cells.lookup x=some b
  ·exact⟨z,by rw[show f b=s.heap.get? b from if_pos z]at e;exact e⟩
  ·rw[show f b=none from if_neg z]at e;cases e
 have ff:∀{x c},X.env.cells.lookup x=some c->f c=s.heap.get? c:=fun{x c} e=>if_pos ⟨x,e⟩
 refine⟨f,⟨⟨fun b o e=> ?_,fun x c e=> ?_,fun i x v e1 e2 e3=> ?_,I.ok.inj⟩,fun b o e=> ?_⟩,fun b o e=> ?_⟩
 ·obtain⟨⟨x,z⟩,_⟩:=fe e
  exact I.freeC x b z
 ·obtain⟨v,o,ho,hd⟩:=I.cell x c e
  exact⟨o,v,by rw[ff e];exact ho,hd⟩
 ·obtain⟨m,_,hl⟩:=I.loc
  obtain⟨u,r,l⟩:=hl i x v e1 e2 (.inr (.inl e3))
  rcases l with⟨k,_⟩|⟨_,c,ec,o,ho,hd⟩
  ·have k':X.env.scope.names.lookup x=some .local:=k
   rw[e3]at k';cases k'
  ·exact⟨c,o,u,ec,by rw[ff ec];exact ho,hd,r⟩
 ·obtain⟨⟨x,z⟩,g⟩:=fe e
  obtain⟨v,o',ho,hd⟩:=I.cell x b z
  rw[g]at ho
  exact⟨v,Option.some.inj ho▸hd⟩
 ·obtain⟨⟨x,z⟩,g⟩:=fe e
  refine⟨I.freeC x b z,g,?_,fun hb=> ?_⟩
  ·exact Heap.get?_none_of_le (Nat.le_trans I.ok.bsz (I.ok.cab x b (hfn x) z))
  ·rcases List.mem_cons.mp (I.stkSub b hb)with e2|hb
   ·exact I.cne x b z e2
   ·obtain⟨_,ob,ho,_⟩:=I.ok.funs.mem hb
    exact absurd (Nat.lt_of_lt_of_le (Heap.lt_size ho) (I.ok.cab x b (hfn x) z)) (Nat.lt_irrefl _)
theorem a7R{k:Nat}{fd:FuncData}{Q:VK}(hfn:∀x,X.fn x=true)(F:fA X.prog X.w X.K X.mg X.base aE k fa fd ps sp)(hr:bT k X.A)(hb:iA X.K fd ps [])
 (I:aD X ae σ H s)(r:aX vs us)(h:∀f,tX X σ H f->sp vs (cM f H) (fun v H'=>Q v (unl f H')) E0):wpAny (model X.prog X.w) X.A (call (.ref fa) us) (EP X ae σ Q) X.xe s:=by
 obtain⟨f,L,hf⟩:=a5j I hfn
 have q:=h f L
 have hl:(us++ []).length=ps.length:=by rw[List.append_nil,<- r.length];exact F.len _ _ _ _ q
 have e0:jX X.prog X.w X.K X.mg X.base X.A X.stack s (cM f H):=by
  have e:=I.env0
  refine⟨e.frames,e.mod,fun b o z=>⟨(e.bs b o z).1,?_⟩,e.bsz,e.funs,fun b z=> ?_,yN e.hok fun b o z=>⟨(hf b o z).1,(hf b o z).2.1⟩,e.bare⟩
  ·cases q2:f b with
   |none=>rw[dO q2];exact(e.bs b o z).2
   |some ob=>rw[(hf b ob q2).2.2.1]at z;cases z
  ·cases q2:f b with
   |none=>rw[dO q2];exact e.frf b z
   |some ob=>exact absurd z (hf b ob q2).2.2.2
 have bd:=hb s us I.kIn hl
 rw[List.append_nil]at bd
 refine wpAny_call (codeAny_mono (F.run X.A X.stack s (cM f H) ⟨us,[]⟩ us vs _ E0 hr e0 bd r q) fun r s' hq=> ?_)
 cases r with
 |error e=>exact False.elim hq
 |ok fl=>
  cases fl with
  |ret u=>
   obtain⟨v,H',os,bare,un,hok,rv,qv⟩:=hq
   obtain⟨u1,u2⟩:=a0L (fun b o z=>⟨(hf b o z).1,(hf b o z).2.1⟩) un hok
   exact I.after ⟨v,_,os,bare,u1,u2,rv,qv⟩
  |next=>exact False.elim hq
  |brk=>exact False.elim hq
  |cont=>exact False.elim hq
def a74(X:Cx)(sp:Sp)(t:TA):TE:=fun σ H Q=>t σ H fun vs H1=>∀f,tX X σ H1 f->sp vs (cM f H1) (fun v H'=>Q v (unl f H')) E0
section
variable{k:Nat}{p pos:Pos}{o:Expr}{t:TA}{E:XK}
theorem a7s(G:bG X.prog X.w X.K X.mg X.base aE k x ps sp)(hr:bT k X.A)(ha:PA X (e::es) t)(hg:Gl X x:=by rfl)(hfn:∀x,X.fn x=true:=by exact fun _=>rfl)(hdb:(x==("__debug__":Str))=false:=by decide)
 (he:starEach (e::es) X.env=(false,eval e X.env)::starEach es X.env:=by rfl)(hpl:(backTo pos (starEach es X.env)).any (·.1)=false:=by rfl):PE X (.Call (.Name x p) (e::es) [] pos) (a74 X sp t):=by
 obtain⟨f,fd,F,hm,hk,hb⟩:=G.ex
 intro ae s σ H Q I h
 refine wpAny_Call_Name_kw (sI I hg hm ?_ hdb)
 refine W.callWith_K (h₀:=X.base) I.ok.mod.kin hk (aT (ha pos ae s σ H _ I h) fun us s1 ⟨vs,H1,I1,r,q⟩=>⟨I1.kIn,?_⟩) he hpl
 exact a7R hfn F hr hb I1 r q
theorem a69(G:eU X.prog X.w X.K X.mg X.base CX k C ps sp)(hr:bT (k+ 1) X.A)(hm:X.mg x=some (.ref C))(hx:gY CX X E)(hg:Gl X x:=by rfl)(hdb:(x==("__debug__":Str))=false:=by decide):
 PE X (.Call (.Name x p) [] [] pos) (vA C sp [] E kP):=by
 obtain⟨f,fd,F,M,hb⟩:=G.ex
 exact a5p M F hr hg hm hb .nil hx hdb
end
def a66(r r' r'':R2)(ta tb tc td:TE):TE:=fun σ H Q=>ta σ H fun x H1=>tb σ H1 fun y H2=>r x y H2 fun z H3=>∃k,z= .bl k/\
 (if k=true then tc σ H3 fun w' H4=>r' y w' H4 fun z H5=>∃k,z= .bl k/\(if k=true then td σ H5 fun v' H6=>r'' w' v' H6 Q else Q (.bl false) H5) else Q (.bl false) H3)
section
variable{a b c d:Expr}{td:TE}{pos:Pos}
theorem a55{op op' op'':CmpOp}{r' r'':R2}(ho:dE X (compareOp op) r)(ho':dE X (compareOp op') r')(ho'':dE X (compareOp op'') r'')(ha:PE X a ta)(hb:PE X b tb)(hc:PE X c tc)(hd:PE X d td)
 (hm:lastMarks [op,op',op''] [b,c,d]=false:=by with_unfolding_all rfl):PT X (.Compare a [op,op',op''] [b,c,d] pos) (a0e (a66 r r' r'' ta tb tc td)):=by
 intro ae s σ H Q I h
 refine isTrue_chain (aT (ha ae s σ H _ I h) fun v s1 ⟨x,H1,I1,r1,q1⟩=>test_link (aT (hb ae s1 σ H1 _ I1 q1) fun u s2 ⟨y,H2,I2,r2,q2⟩=>
  aT (ho ae s2 σ H2 x y v u _ I2 r1 r2 q2) fun e s3 ⟨z,H3,I3,r3,k,ek,q3⟩=> ?_)) hm
 subst ek
 cases r3
 refine wpAny_truthy_bool ?_
 cases k with
 |false=>
  obtain⟨k',e',q'⟩:=q3
  cases e'
  exact ite_ff ⟨H3,I3,q'⟩
 |true=>
  refine ite_tt (test_link (aT (hc ae s3 σ H3 _ I3 q3) fun w' s4 ⟨z',H4,I4,r4,q4⟩=>aT (ho' ae s4 σ H4 y z' u w' _ I4 r2 r4 q4) fun d' s5 ⟨z2,H5,I5,r5,k2,e2,q5⟩=> ?_))
  subst e2
  cases r5
  refine wpAny_truthy_bool ?_
  cases k2 with
  |false=>
   obtain⟨k',e',q'⟩:=q5
   cases e'
   exact ite_ff ⟨H5,I5,q'⟩
  |true=>
   refine ite_tt (test_last (aT (hd ae s5 σ H5 _ I5 q5) fun w'' s6 ⟨z'',H6,I6,r6,q6⟩=>aT (ho'' ae s6 σ H6 z' z'' w' w'' _ I6 r4 r6 q6) fun d'' s7 ⟨z3,H7,I7,r7,k3,e3,q7⟩=> ?_))
   subst e3
   cases r7
   exact wpAny_truthy_bool ⟨H7,I7,q7⟩
end
def SetO(P:Program)(w:World)(D:Addr)(S:Str->Bool)(n:Nat):HO:=.ext fun h=>h.SetOf (strKind P w) D S n
end L2
namespace L2
open PySem PySem.W PyProof.Rows
noncomputable def bJ {α:Type} (lt:Nat->Nat->Bool):KasT α->α
 | .ret a=>a
 | .ask i j k=>bJ lt (k (lt i j))
theorem oY{α β:Type}{lt:Nat->Nat->Bool}{f:α->KasT β}:∀t:KasT α,bJ lt (t.bind f)=bJ lt (f (bJ lt t))
 | .ret a=>rfl
 | .ask i j k=>oY (k (lt i j))
def OkK{α:Type}(n:Nat)(R:α->Prop):KasT α->Prop
 | .ret a=>R a
 | .ask i j k=>i<n/\j<n/\∀b,OkK n R (k b)
theorem OkK.bind{α β:Type}{n:Nat}{f:α->KasT β}{R:α->Prop}{R':β->Prop}:∀{t:KasT α},OkK n R t->(∀a,R a->OkK n R' (f a))->OkK n R' (t.bind f)
 | .ret a,h,hf=>hf a h
 | .ask i j k,⟨h1,h2,h3⟩,hf=>⟨h1,h2,fun b=>OkK.bind (h3 b) hf⟩
theorem OkK.wp{α:Type}{n:Nat}{R:α->Prop}{lt:Nat->Nat->Bool}{cmp:Nat->Nat->(Bool->Shared->Prop)->Shared->Prop}{J:Shared->Prop}(hc:∀i j C s,i<n->j<n->J s->(∀s',J s'->C (lt i j) s')->cmp i j C s){Q:α->Shared->Prop}:∀{t:KasT α} {s:Shared},OkK n R t->J s->(∀s',J s'->Q (bJ lt t) s')->t.kasWp cmp Q s
 | .ret a,s,_,j,q=>q s j
 | .ask i j k,s,⟨h1,h2,h3⟩,js,q=>hc i j _ s h1 h2 js fun s' js'=>OkK.wp hc (h3 _) js' q
theorem nH{p:Array Nat}(h:i<=j)(hj:j<=p.size)(k:Nat):(kas_rev p i j).getD k 0=if i<=k/\k<j then p.getD (i+ j- 1- k) 0 else p.getD k 0:=by
 have e:=getElem?_mirror (i:=i) hj ((j- i)/ 2) (by omega) k
 unfold kas_rev
 rw[Array.getD_eq_getD_getElem?,e,Array.getD_eq_getD_getElem?,Array.getD_eq_getD_getElem?]
 by_cases h1:i<=k/\k<j
 ·rw[if_pos h1]
  by_cases h2:(i<=k/\k<i+ (j- i)/ 2)\/ (j- (j- i)/ 2<=k/\k<j)
  ·rw[if_pos h2]
  ·rw[if_neg h2]
   have:i+ j- 1- k=k:=by omega
   rw[this]
 ·rw[if_neg h1,if_neg (by omega)]
theorem a3B(p:Array Nat)(i j:Nat):(kas_rev p i j).size=p.size:=mirror_size _ _ _ _
theorem a78(p:Array Nat)(i j:Nat):(kas_rev p i j).Perm p:=mirror_perm _ _ _ _
theorem a2w{p:Array Nat}{k l:Nat}(h:l<=k)(hk:k<p.size)(x:Nat):(bubble p k (k- l)).getD x 0=if x=l then p.getD k 0 else if l<x/\x<=k then p.getD (x- 1) 0 else p.getD x 0:=by
 have e:=getElem?_bubble hk (k- l) (by omega) x
 rw[Array.getD_eq_getD_getElem?,e,show k- (k- l)=l by omega]
 simp only[Array.getD_eq_getD_getElem?]
 split
 ·rfl
 ·split<;>rfl
def Bl(n:Nat)(p:Array Nat):Prop:=p.size=n/\∀k,p.getD k 0<n
theorem Bl.rev{n:Nat}{p:Array Nat}(h:Bl n p)(hij:i<=j)(hj:j<=n):Bl n (kas_rev p i j):=by
 refine⟨by rw[a3B];exact h.1,fun k=> ?_⟩
 rw[nH hij (by rw[h.1];exact hj)]
 split<;>exact h.2 _
theorem Bl.bub{n:Nat}{p:Array Nat}(h:Bl n p){k l:Nat}(hl:l<=k)(hk:k<n):Bl n (bubble p k (k- l)):=by
 refine⟨by rw[bubble_size];exact h.1,fun x=> ?_⟩
 rw[a2w hl (by rw[h.1];exact hk)]
 split
 ·exact h.2 _
 ·split<;>exact h.2 _
theorem mM{n:Nat}{p:Array Nat}(h:Bl n p):∀(f m:Nat),OkK n (fun r=>m<=r/\r<=m+ f) (kas_asc p f m)
 |0,m=>⟨Nat.le_refl _,Nat.le_refl _⟩
 |f+ 1,m=>by
  refine⟨h.2 _,h.2 _,fun b=> ?_⟩
  cases b with
  |true=>exact⟨Nat.le_refl _,by omega⟩
  |false=>
   show OkK n _ (kas_asc p f (m+ 1))
   have:=mM h f (m+ 1)
   refine OkK.mono (fun r hr=> ?_) this
   omega
where OkK.mono {α:Type} {n:Nat} {R R':α->Prop} (hR:∀a,R a->R' a):∀{t:KasT α},OkK n R t->OkK n R' t
 | .ret a,h=>hR a h
 | .ask i j k,⟨h1,h2,h3⟩=>⟨h1,h2,fun b=>OkK.mono hR (h3 b)⟩
theorem tU{n:Nat}:∀(f:Nat) (p:Array Nat) (m q:Nat),Bl n p->q+ 1<=m->m+ f<=n->OkK n (fun r=>Bl n r.1/\r.2.2+ 1<=r.2.1/\m<=r.2.1/\r.2.1<=n) (kas_desc f p m q)
 |0,p,m,q,h,hq,hm=>⟨h,hq,Nat.le_refl _,by omega⟩
 |f+ 1,p,m,q,h,hq,hm=>by
  refine⟨h.2 _,h.2 _,fun b=> ?_⟩
  cases b with
  |true=>
   show OkK n _ (if q>0 then kas_desc f (kas_rev p (m- (q+ 1)) m) (m+ 1) 0 else kas_desc f p (m+ 1) 0)
   by_cases h0:q>0
   ·rw[if_pos h0]
    exact mM.OkK.mono (fun r hr=>⟨hr.1,hr.2.1,by omega,hr.2.2.2⟩) (tU f _ (m+ 1) 0 (h.rev (by omega) (by omega)) (by omega) (by omega))
   ·rw[if_neg h0]
    exact mM.OkK.mono (fun r hr=>⟨hr.1,hr.2.1,by omega,hr.2.2.2⟩) (tU f p (m+ 1) 0 h (by omega) (by omega))
  |false=>
   refine⟨h.2 _,h.2 _,fun b=> ?_⟩
   cases b with
   |true=>exact⟨h,hq,Nat.le_refl _,(show m<=n by omega)⟩
   |false=>exact mM.OkK.mono (fun r hr=>⟨hr.1,hr.2.1,by omega,hr.2.2.2⟩) (tU f p (m+ 1) (q+ 1) h (by omega) (by omega))
theorem a18{n m:Nat}{p:Array Nat}(h:Bl n p)(hm:m<=n):OkK n (fun r=>Bl n r.2/\r.1<=n) (kas_tail3 m n p):=
 OkK.bind (mM (h.rev (Nat.zero_le _) hm) _ _) fun r hr=>⟨h.rev (Nat.zero_le _) hm,(show r<=n by omega)⟩
theorem a0T{n m:Nat}{p:Array Nat}(h:Bl n p)(hm:m+ 1<=n):OkK n (fun r=>Bl n r.2/\r.1<=n) (kas_descPart m n p):=by
 refine OkK.bind (tU (n- (m+ 1)) p (m+ 1) 0 h (by omega) (by omega)) fun r hr=> ?_
 obtain⟨h1,h2,h3,h4⟩:=hr
 show OkK n _ (if r.2.2>0 then _ else _)
 split
 ·exact a18 (h1.rev (by omega) h4) h4
 ·exact a18 h1 h4
theorem a4q{n:Nat}{p:Array Nat}(h:Bl n p)(h1:1<=n):OkK n (fun r=>Bl n r.2/\r.1<=n) (kas_count n p):=by
 refine OkK.bind (mM h (n- 1) 1) fun m hm=> ?_
 show OkK n _ (if(m==n)=true then _ else _)
 by_cases e:m=n
 ·rw[if_pos (by simp[e])]
  exact⟨h,(show m<=n by omega)⟩
 rw[if_neg (by simp[e])]
 split
 ·refine⟨h.2 _,h.2 _,fun b=> ?_⟩
  cases b with
  |true=>exact⟨h,(show m<=n by omega)⟩
  |false=>exact a0T (h.rev (Nat.zero_le _) (by omega)) (by omega)
 ·exact a0T h (by omega)
theorem xK{n k:Nat}{p:Array Nat}(h:Bl n p):∀(f l r:Nat),l<=r->OkK n (fun x=>l<=x/\x<=r) (kas_place p k f l r)
 |0,l,r,hl=>⟨Nat.le_refl _,hl⟩
 |f+ 1,l,r,hl=>by
  show OkK n _ (if l>=r then _ else _)
  by_cases e:l>=r
  ·rw[if_pos e];exact⟨Nat.le_refl _,hl⟩
  rw[if_neg e]
  refine⟨h.2 _,h.2 _,fun b=> ?_⟩
  cases b with
  |true=>exact mM.OkK.mono (fun x hx=>by omega) (xK h f l ((l+ r)/ 2) (by omega))
  |false=>exact mM.OkK.mono (fun x hx=>by omega) (xK h f ((l+ r)/ 2+ 1) r (by omega))
theorem a2s{n:Nat}:∀(f:Nat) (p:Array Nat) (k:Nat),Bl n p->k+ f<=n->OkK n (Bl n) (kas_bin f p k)
 |0,p,k,h,_=>h
 |f+ 1,p,k,h,hk=>OkK.bind (xK h k 0 k (Nat.zero_le _)) fun l hl=>a2s f _ (k+ 1) (h.bub hl.2 (by omega)) (by omega)
theorem a5f{n:Nat}(h:0<n):Bl n (List.toArray (List.range n)):=by
 refine⟨by simp,fun k=> ?_⟩
 rw[Array.getD_eq_getD_getElem?]
 by_cases hk:k<n
 ·simp[hk]
 ·simp[hk];exact h
theorem a52{n:Nat}(h:0<n):OkK n (Bl n) (kas_sort n):=by
 refine OkK.bind (a4q (a5f h) h) fun r hr=> ?_
 show OkK n _ (if r.1<n then _ else _)
 split
 ·exact a2s _ _ _ hr.1 (by omega)
 ·exact hr.1
section
variable{lt:Nat->Nat->Bool}
structure fH(lt:Nat->Nat->Bool):Prop where
 as:∀{i j},lt i j=true->lt j i=false
 tr:∀{i j k},lt j i=false->lt k j=false->lt k i=false
def SK(lt:Nat->Nat->Bool)(i j:Nat):Prop:=lt j i=false/\(lt i j=true\/ i<j)
theorem fH.lt_le(O:fH lt){a b c:Nat}(h1:lt a b=true)(h2:lt c b=false):lt a c=true:=by
 cases e:lt a c with
 |true=>rfl
 |false=>
  have:=O.tr h2 e
  rw[h1]at this;cases this
theorem fH.le_lt(O:fH lt){a b c:Nat}(h1:lt b a=false)(h2:lt b c=true):lt a c=true:=by
 cases e:lt a c with
 |true=>rfl
 |false=>
  have:=O.tr e h1
  rw[h2]at this;cases this
structure Pf(n:Nat)(p:Array Nat)(a:Nat):Prop where
 sz:p.size=n
 pm:p.Perm (List.toArray (List.range n))
 un:∀k,a<=k->k<n->p.getD k 0=k
 pr:∀k,k<a->p.getD k 0<a
def Sd(lt:Nat->Nat->Bool)(p:Array Nat)(a:Nat):Prop:=∀i j,i<j->j<a->SK lt (p.getD i 0) (p.getD j 0)
def Dd(lt:Nat->Nat->Bool)(p:Array Nat)(a:Nat):Prop:=∀i j,i<j->j<a->SK lt (p.getD j 0) (p.getD i 0)
theorem Pf.up{n a:Nat}{p:Array Nat}(h:Pf n p a){b:Nat}(hab:a<=b)(hb:b<=n):Pf n p b:=by
 refine⟨h.sz,h.pm,fun k h1 h2=>h.un k (by omega) h2,fun k hk=> ?_⟩
 rcases Nat.lt_or_ge k a with h1|h1
 ·have:=h.pr k h1;omega
 ·rw[h.un k h1 (by omega)];exact hk
theorem Pf.rev{n a:Nat}{p:Array Nat}(h:Pf n p a)(ha:a<=n)(hi:i<=a):Pf n (kas_rev p i a) a:=by
 refine⟨by rw[a3B];exact h.sz,(a78 _ _ _).trans h.pm,fun k h1 h2=> ?_,fun k hk=> ?_⟩
 ·rw[nH hi (by rw[h.sz];exact ha),if_neg (by omega)]
  exact h.un k h1 h2
 ·rw[nH hi (by rw[h.sz];exact ha)]
  split
  ·exact h.pr _ (by omega)
  ·exact h.pr _ hk
theorem a0f{p:Array Nat}:∀(f m:Nat),m<=bJ lt (kas_asc p f m)/\bJ lt (kas_asc p f m)<=m+ f/\(∀k,m<=k->k<bJ lt (kas_asc p f m)->lt (p.getD k 0) (p.getD (k- 1) 0)=false)/\(bJ lt (kas_asc p f m)<m+ f->lt (p.getD (bJ lt (kas_asc p f m)) 0) (p.getD (bJ lt (kas_asc p f m)- 1) 0)=true)
 |0,m=>⟨Nat.le_refl _,Nat.le_refl _,fun k h1 h2=>absurd h2 (Nat.not_lt.mpr h1),fun h=>absurd h (Nat.lt_irrefl _)⟩
 |f+ 1,m=>by
  have e:bJ lt (kas_asc p (f+ 1) m)=bJ lt (if lt (p.getD m 0) (p.getD (m- 1) 0)=true then KasT.ret m else kas_asc p f (m+ 1)):=rfl
  rw[e]
  by_cases h:lt (p.getD m 0) (p.getD (m- 1) 0)=true
  ·rw[if_pos h]
   exact⟨Nat.le_refl _,(show m<=m+ (f+ 1)by omega),fun k h1 h2=>absurd h2 (Nat.not_lt.mpr h1),fun _=>h⟩
  ·rw[if_neg h]
   obtain⟨h1,h2,h3,h4⟩:=a0f (p:=p) f (m+ 1)
   refine⟨by omega,by omega,fun k a b=> ?_,fun a=>h4 (by omega)⟩
   rcases Nat.lt_or_ge m k with c|c
   ·exact h3 k (by omega) b
   ·have:k=m:=by omega
    rw[this]
    cases e2:lt (p.getD m 0) (p.getD (m- 1) 0)with
    |false=>rfl
    |true=>exact absurd e2 h
theorem Sd.asc(O:fH lt){n:Nat}{p:Array Nat}{a:Nat}(hp:Pf n p a)(h:Sd lt p a)(h1:1<=a):∀m,a<=m->m<=n->(∀k,a<=k->k<m->lt (p.getD k 0) (p.getD (k- 1) 0)=false)->Sd lt p m:=by
 intro m hm
 obtain⟨d,rfl⟩:=Nat.exists_eq_add_of_le hm
 clear hm
 induction d with
 |zero=>exact fun _ _=>h
 |succ d ih=>
  intro hn hs i j hij hj
  have ihm:=ih (by omega) fun k x y=>hs k x (by omega)
  rw[show a+ (d+ 1)=(a+ d)+ 1 by omega]at hs hn hj
  have hm:a<=a+ d:=by omega
  generalize a+ d=m at ihm hs hn hj hm
  rcases Nat.lt_or_ge j m with c|c
  ·exact ihm i j hij c
  ·have ej:j=m:=by omega
   subst ej
   have hl:=hs j hm (by omega)
   have hpm:=(hp.up hm (by omega)).pr i (by omega)
   have ej:=hp.un j hm (by omega)
   refine⟨?_,.inr (by rw[ej];exact hpm)⟩
   rcases Nat.lt_or_ge i (j- 1)with d|d
   ·exact O.tr (ihm i (j- 1) d (by omega)).1 hl
   ·have:i=j- 1:=by omega
    rw[this];exact hl
structure Dn(lt:Nat->Nat->Bool)(n:Nat)(p:Array Nat)(m q:Nat):Prop where
 qm:q+ 1<=m
 mn:m<=n
 f:Pf n p (m- (q+ 1))
 d:Dd lt p (m- q)
 e:∀k,m- q<=k->k<m->lt k (k- 1)=false/\lt (k- 1) k=false
theorem Dn.eq(O:fH lt){n:Nat}{p:Array Nat}{m q:Nat}(D:Dn lt n p m q):∀t,m- (q+ 1)<=t->t<m->lt t (m- (q+ 1))=false/\lt (m- (q+ 1)) t=false:=by
 intro t ht
 obtain⟨d,rfl⟩:=Nat.exists_eq_add_of_le ht
 clear ht
 induction d with
 |zero=>
  intro _
  have:lt (m- (q+ 1)) (m- (q+ 1))=false:=by
   cases e:lt (m- (q+ 1)) (m- (q+ 1))with
   |false=>rfl
   |true=>have:=O.as e;rw[e]at this;exact this
  exact⟨this,this⟩
 |succ d ih=>
  intro htm
  have h1:=ih (by omega)
  have qm:=D.qm
  have h2:=D.e (m- (q+ 1)+ (d+ 1)) (by omega) htm
  rw[show m- (q+ 1)+ (d+ 1)- 1=m- (q+ 1)+ d by omega]at h2
  exact⟨O.tr h1.1 h2.1,O.tr h2.2 h1.2⟩
theorem Dn.flush(O:fH lt){n:Nat}{p:Array Nat}{m q:Nat}(D:Dn lt n p m q){p':Array Nat}(hp:p'=if q>0 then kas_rev p (m- (q+ 1)) m else p):Pf n p' m/\Dd lt p' m/\lt (p'.getD (m- 1) 0) (m- 1)=false/\lt (m- 1) (p'.getD (m- 1) 0)=false:=by
 have qm:=D.qm
 have mn:=D.mn
 have fm:=D.f.up (show m- (q+ 1)<=m by omega) mn
 by_cases h0:q>0
 ·rw[if_pos h0]at hp
  subst hp
  have g:∀k,(kas_rev p (m- (q+ 1)) m).getD k 0=if m- (q+ 1)<=k/\k<m then p.getD (m- (q+ 1)+ m- 1- k) 0 else p.getD k 0:=nH (by omega) (by rw[D.f.sz];exact mn)
  have u:∀k,m- (q+ 1)<=k->k<m->(kas_rev p (m- (q+ 1)) m).getD k 0=m- (q+ 1)+ m- 1- k:=fun k h1 h2=>by
   rw[g,if_pos ⟨h1,h2⟩,D.f.un _ (by omega) (by omega)]
  refine⟨fm.rev mn (by omega),fun i j hij hj=> ?_,?_⟩
  ·rcases Nat.lt_or_ge j (m- (q+ 1))with c|c
   ·rw[g,if_neg (by omega),g,if_neg (by omega)]
    exact D.d i j hij (by omega)
   ·rw[u j c hj]
    rcases Nat.lt_or_ge i (m- (q+ 1))with d|d
    ·rw[g,if_neg (by omega)]
     have s:=D.d i (m- (q+ 1)) d (by omega)
     rw[D.f.un (m- (q+ 1)) (Nat.le_refl _) (by omega)]at s
     have pi:=D.f.pr i d
     have l:lt (m- (q+ 1)) (p.getD i 0)=true:=by
      rcases s.2 with x|x
      ·exact x
      ·omega
     have e:=D.eq O (m- (q+ 1)+ m- 1- j) (by omega) (by omega)
     exact⟨O.as (O.le_lt e.2 l),.inl (O.le_lt e.2 l)⟩
    ·rw[u i d (by omega)]
     have e1:=D.eq O (m- (q+ 1)+ m- 1- j) (by omega) (by omega)
     have e2:=D.eq O (m- (q+ 1)+ m- 1- i) (by omega) (by omega)
     exact⟨O.tr e1.2 e2.1,.inr (by omega)⟩
  ·rw[u (m- 1) (by omega) (by omega),show m- (q+ 1)+ m- 1- (m- 1)=m- (q+ 1)by omega]
   have e:=D.eq O (m- 1) (by omega) (by omega)
   exact⟨e.2,e.1⟩
 ·rw[if_neg h0]at hp
  subst hp
  have q0:q=0:=by omega
  subst q0
  have d:=D.d
  rw[Nat.sub_zero]at d
  have um:=D.f.un (m- 1) (by omega) (by omega)
  rw[um]
  have e:=D.eq O (m- 1) (by omega) (by omega)
  exact⟨fm,d,e.1,e.2⟩
theorem vK(O:fH lt){n:Nat}:∀(f:Nat) (p:Array Nat) (m q:Nat),Dn lt n p m q->m+ f=n->Dn lt n (bJ lt (kas_desc f p m q)).1 (bJ lt (kas_desc f p m q)).2.1 (bJ lt (kas_desc f p m q)).2.2
 |0,p,m,q,D,_=>D
 |f+ 1,p,m,q,D,hf=>by
  have qm:=D.qm
  have mn:=D.mn
  have um:=D.f.un m (by omega) (by omega)
  have ul:=D.f.un (m- 1) (by omega) (by omega)
  have e:bJ lt (kas_desc (f+ 1) p m q)=bJ lt (if lt (p.getD m 0) (p.getD (m- 1) 0)=true then(if q>0 then kas_desc f (kas_rev p (m- (q+ 1)) m) (m+ 1) 0 else kas_desc f p (m+ 1) 0) else .ask (p.getD (m- 1) 0) (p.getD m 0) fun d=>if d=true then .ret (p,m,q) else kas_desc f p (m+ 1) (q+ 1)):=rfl
  rw[e,um,ul]
  by_cases h:lt m (m- 1)=true
  ·rw[if_pos h]
   have key:∀p',(p'=if q>0 then kas_rev p (m- (q+ 1)) m else p)->Dn lt n p' (m+ 1) 0:=fun p' hp=>by
    obtain⟨a1,a2,a3,a4⟩:=D.flush O hp
    refine⟨by omega,by omega,by rw[Nat.zero_add,Nat.add_sub_cancel];exact a1,fun i j hij hj=> ?_,fun k h1 h2=>by omega⟩
    rcases Nat.lt_or_ge j m with c|c
    ·exact a2 i j hij c
    ·have ej:j=m:=by omega
     subst ej
     rw[a1.un j (Nat.le_refl _) (by omega)]
     have l0:lt j (p'.getD (j- 1) 0)=true:=O.lt_le h a3
     have l:lt j (p'.getD i 0)=true:=by
      rcases Nat.lt_or_ge i (j- 1)with d|d
      ·exact O.lt_le l0 (a2 i (j- 1) d (by omega)).1
      ·have:i=j- 1:=by omega
       rw[this];exact l0
     exact⟨O.as l,.inl l⟩
   by_cases h0:q>0
   ·rw[if_pos h0]
    exact vK O f _ (m+ 1) 0 (key _ (by rw[if_pos h0])) (by omega)
   ·rw[if_neg h0]
    exact vK O f _ (m+ 1) 0 (key _ (by rw[if_neg h0])) (by omega)
  ·rw[if_neg h]
   have e2:bJ lt (.ask (m- 1) m fun d=>if d=true then KasT.ret (p,m,q) else kas_desc f p (m+ 1) (q+ 1))=bJ lt (if lt (m- 1) m=true then KasT.ret (p,m,q) else kas_desc f p (m+ 1) (q+ 1)):=rfl
   rw[e2]
   by_cases h2:lt (m- 1) m=true
   ·rw[if_pos h2];exact D
   ·rw[if_neg h2]
    refine vK O f p (m+ 1) (q+ 1) ⟨by omega,by omega,by rw[show m+ 1- (q+ 1+ 1)=m- (q+ 1)by omega];exact D.f,by rw[show m+ 1- (q+ 1)=m- q by omega];exact D.d,fun k a b=> ?_⟩ (by omega)
    rcases Nat.lt_or_ge k m with c|c
    ·exact D.e k (by omega) c
    ·have:k=m:=by omega
     rw[this]
     exact⟨Bool.eq_false_iff.mpr h,Bool.eq_false_iff.mpr h2⟩
theorem a6O(O:fH lt){n m:Nat}{p:Array Nat}(hp:Pf n p m)(hd:Dd lt p m)(h1:1<=m)(hm:m<=n):Pf n (bJ lt (kas_tail3 m n p)).2 (bJ lt (kas_tail3 m n p)).1/\Sd lt (bJ lt (kas_tail3 m n p)).2 (bJ lt (kas_tail3 m n p)).1/\1<=(bJ lt (kas_tail3 m n p)).1/\(bJ lt (kas_tail3 m n p)).1<=n:=by
 unfold kas_tail3
 rw[oY]
 have f:=hp.rev hm (Nat.zero_le _)
 have s:Sd lt (kas_rev p 0 m) m:=fun i j hij hj=>by
  rw[nH (Nat.zero_le _) (by rw[hp.sz];exact hm),if_pos ⟨Nat.zero_le _,by omega⟩,nH (Nat.zero_le _) (by rw[hp.sz];exact hm),if_pos ⟨Nat.zero_le _,hj⟩]
  exact hd _ _ (by omega) (by omega)
 obtain⟨a1,a2,a3,_⟩:=a0f (lt:=lt) (p:=kas_rev p 0 m) (n- m) m
 show Pf n (kas_rev p 0 m) (bJ lt (kas_asc (kas_rev p 0 m) (n- m) m))/\Sd lt (kas_rev p 0 m) (bJ lt (kas_asc (kas_rev p 0 m) (n- m) m))/\_
 exact⟨f.up a1 (by omega),s.asc O f h1 _ a1 (by omega) a3,(show 1<=bJ lt (kas_asc (kas_rev p 0 m) (n- m) m)by omega),(show bJ lt (kas_asc (kas_rev p 0 m) (n- m) m)<=n by omega)⟩
theorem a1w(O:fH lt){n m:Nat}{p:Array Nat}(D:Dn lt n p (m+ 1) 0)(hm:m+ 1<=n):Pf n (bJ lt (kas_descPart m n p)).2 (bJ lt (kas_descPart m n p)).1/\Sd lt (bJ lt (kas_descPart m n p)).2 (bJ lt (kas_descPart m n p)).1/\1<=(bJ lt (kas_descPart m n p)).1/\(bJ lt (kas_descPart m n p)).1<=n:=by
 unfold kas_descPart
 rw[oY]
 have D':=vK O (n- (m+ 1)) p (m+ 1) 0 D (by omega)
 generalize bJ lt (kas_desc (n- (m+ 1)) p (m+ 1) 0)=r at D'
 obtain⟨p',m',q'⟩:=r
 have D':Dn lt n p' m' q':=D'
 have e:(if q'>0 then kas_tail3 m' n (kas_rev p' (m'- (q'+ 1)) m') else kas_tail3 m' n p')=kas_tail3 m' n (if q'>0 then kas_rev p' (m'- (q'+ 1)) m' else p'):=by split<;>rfl
 show Pf n (bJ lt (if q'>0 then kas_tail3 m' n (kas_rev p' (m'- (q'+ 1)) m') else kas_tail3 m' n p')).2 _/\_
 rw[e]
 obtain⟨a1,a2,_⟩:=D'.flush O rfl
 exact a6O O a1 a2 (by have:=D'.qm;omega) D'.mn
theorem a6P{n:Nat}:Pf n (List.toArray (List.range n)) 0:=by
 refine⟨by simp,Array.Perm.refl _,fun k _ hk=> ?_,fun k hk=>by omega⟩
 rw[Array.getD_eq_getD_getElem?]
 simp[hk]
theorem a5S(O:fH lt){n:Nat}(h1:1<=n):Pf n (bJ lt (kas_count n (List.toArray (List.range n)))).2 (bJ lt (kas_count n (List.toArray (List.range n)))).1/\Sd lt (bJ lt (kas_count n (List.toArray (List.range n)))).2 (bJ lt (kas_count n (List.toArray (List.range n)))).1/\1<=(bJ lt (kas_count n (List.toArray (List.range n)))).1/\(bJ lt (kas_count n (List.toArray (List.range n)))).1<=n:=by
 unfold kas_count
 rw[oY]
 have f0:Pf n (List.toArray (List.range n)) 0:=a6P
 generalize List.toArray (List.range n)=p at f0
 have f1:=f0.up (show 0<=1 by decide) h1
 have s1:Sd lt p 1:=fun i j hij hj=>by omega
 obtain⟨a1,a2,a3,a4⟩:=a0f (lt:=lt) (p:=p) (n- 1) 1
 generalize bJ lt (kas_asc p (n- 1) 1)=m at a1 a2 a3 a4
 have sm:=s1.asc O f1 (Nat.le_refl _) m a1 (by omega) a3
 have fm:=f1.up a1 (by omega)
 have g:∀k,k<n->p.getD k 0=k:=fun k hk=>f0.un k (Nat.zero_le _) hk
 by_cases e:m=n
 ·rw[if_pos (by simp[e])]
  exact⟨fm,sm,a1,(show m<=n by omega)⟩
 rw[if_neg (by simp[e])]
 have hl:=a4 (by omega)
 rw[g m (by omega),g (m- 1) (by omega)]at hl
 by_cases hm:m>1
 ·rw[if_pos hm]
  have e2:∀T,bJ lt (.ask (p.getD 0 0) (p.getD (m- 1) 0) fun c=>if c=true then KasT.ret (m,p) else T)=bJ lt (if lt (p.getD 0 0) (p.getD (m- 1) 0)=true then KasT.ret (m,p) else T):=fun T=>rfl
  rw[e2,g 0 (by omega),g (m- 1) (by omega)]
  by_cases hc:lt 0 (m- 1)=true
  ·rw[if_pos hc]
   exact⟨fm,sm,a1,(show m<=n by omega)⟩
  ·rw[if_neg hc]
   have hc:lt 0 (m- 1)=false:=Bool.eq_false_iff.mpr hc
   have all:∀k,k<m->lt k 0=false/\lt 0 k=false:=fun k hk=>by
    have l0:lt k 0=false:=by
     rcases Nat.eq_zero_or_pos k with h0|h0
     ·subst h0
      cases e:lt 0 0 with
      |false=>rfl
      |true=>have:=O.as e;rw[e]at this;exact this
     ·have:=(sm 0 k h0 hk).1
      rw[g k (by omega),g 0 (by omega)]at this
      exact this
    refine⟨l0,?_⟩
    rcases Nat.lt_or_ge k (m- 1)with d|d
    ·have:=(sm k (m- 1) d (by omega)).1
     rw[g k (by omega),g (m- 1) (by omega)]at this
     exact O.tr this hc
    ·have:k=m- 1:=by omega
     rw[this];exact hc
   have gr:∀k,k<m->(kas_rev p 0 m).getD k 0=m- 1- k:=fun k hk=>by
    rw[nH (Nat.zero_le _) (by rw[f0.sz];omega),if_pos ⟨Nat.zero_le _,hk⟩,g _ (by omega)]
    omega
   have fr:=fm.rev (by omega) (Nat.zero_le m)
   refine a1w O ⟨by omega,by omega,by rw[Nat.zero_add,Nat.add_sub_cancel];exact fr,fun i j hij hj=> ?_,fun k h1 h2=>by omega⟩ (by omega)
   rcases Nat.lt_or_ge j m with c|c
   ·rw[gr j c,gr i (by omega)]
    have e1:=all (m- 1- j) (by omega)
    have e2:=all (m- 1- i) (by omega)
    exact⟨O.tr e1.2 e2.1,.inr (by omega)⟩
   ·have ej:j=m:=by omega
    subst ej
    rw[fr.un j (Nat.le_refl _) (by omega),gr i (by omega)]
    have e1:=all (j- 1) (by omega)
    have e2:=all (j- 1- i) (by omega)
    have l:lt j (j- 1- i)=true:=O.lt_le (O.lt_le hl e1.2) e2.1
    exact⟨O.as l,.inl l⟩
 ·rw[if_neg hm]
  have em:m=1:=by omega
  subst em
  refine a1w O ⟨by omega,by omega,f1,fun i j hij hj=> ?_,fun k h1 h2=>by omega⟩ (by omega)
  have ei:i=0:=by omega
  have ej:j=1:=by omega
  subst ei ej
  rw[g 1 (by omega),g 0 (by omega)]
  exact⟨O.as hl,.inl hl⟩
theorem yU(O:fH lt){p:Array Nat}{k:Nat}(hs:Sd lt p k):∀(f l r:Nat),l<=r->r<=k->r- l<=f->(∀j,j<l->lt (p.getD k 0) (p.getD j 0)=false)->(∀j,r<=j->j<k->lt (p.getD k 0) (p.getD j 0)=true)->
 bJ lt (kas_place p k f l r)<=k/\(∀j,j<bJ lt (kas_place p k f l r)->lt (p.getD k 0) (p.getD j 0)=false)/\∀j,bJ lt (kas_place p k f l r)<=j->j<k->lt (p.getD k 0) (p.getD j 0)=true
 |0,l,r,h1,h2,h3,h4,h5=>by
  have:l=r:=by omega
  subst this
  exact⟨h2,h4,h5⟩
 |f+ 1,l,r,h1,h2,h3,h4,h5=>by
  have e:bJ lt (kas_place p k (f+ 1) l r)=bJ lt (if l>=r then KasT.ret l else .ask (p.getD k 0) (p.getD ((l+ r)/ 2) 0) fun c=>if c=true then kas_place p k f l ((l+ r)/ 2) else kas_place p k f ((l+ r)/ 2+ 1) r):=rfl
  rw[e]
  by_cases hlr:l>=r
  ·rw[if_pos hlr]
   have:l=r:=by omega
   subst this
   exact⟨h2,h4,h5⟩
  rw[if_neg hlr]
  have e2:bJ lt (.ask (p.getD k 0) (p.getD ((l+ r)/ 2) 0) fun c=>if c=true then kas_place p k f l ((l+ r)/ 2) else kas_place p k f ((l+ r)/ 2+ 1) r)=bJ lt (if lt (p.getD k 0) (p.getD ((l+ r)/ 2) 0)=true then kas_place p k f l ((l+ r)/ 2) else kas_place p k f ((l+ r)/ 2+ 1) r):=rfl
  rw[e2]
  by_cases hc:lt (p.getD k 0) (p.getD ((l+ r)/ 2) 0)=true
  ·rw[if_pos hc]
   refine yU O hs f l ((l+ r)/ 2) (by omega) (by omega) (by omega) h4 fun j a b=> ?_
   rcases Nat.lt_or_ge ((l+ r)/ 2) j with d|d
   ·exact O.lt_le hc (hs _ j d b).1
   ·have:j=(l+ r)/ 2:=by omega
    rw[this];exact hc
  ·rw[if_neg hc]
   have hc:lt (p.getD k 0) (p.getD ((l+ r)/ 2) 0)=false:=Bool.eq_false_iff.mpr hc
   refine yU O hs f ((l+ r)/ 2+ 1) r (by omega) h2 (by omega) (fun j a=> ?_) h5
   rcases Nat.lt_or_ge j ((l+ r)/ 2)with d|d
   ·cases e3:lt (p.getD k 0) (p.getD j 0)with
    |false=>rfl
    |true=>
     have:=O.lt_le e3 (hs j ((l+ r)/ 2) d (by omega)).1
     rw[hc]at this;cases this
   ·have:j=(l+ r)/ 2:=by omega
    rw[this];exact hc
theorem a3D(O:fH lt){n:Nat}:∀(f:Nat) (p:Array Nat) (k:Nat),Pf n p k->Sd lt p k->k+ f=n->Pf n (bJ lt (kas_bin f p k)) n/\Sd lt (bJ lt (kas_bin f p k)) n
 |0,p,k,hp,hs,hk=>by
  have:k=n:=by omega
  subst this
  exact⟨hp,hs⟩
 |f+ 1,p,k,hp,hs,hk=>by
  have e:bJ lt (kas_bin (f+ 1) p k)=bJ lt (kas_bin f (bubble p k (k- bJ lt (kas_place p k k 0 k))) (k+ 1)):=oY _
  rw[e]
  obtain⟨b1,b2,b3⟩:=yU O hs k 0 k (Nat.zero_le _) (Nat.le_refl _) (by omega) (fun j h=>by omega) (fun j h1 h2=>by omega)
  generalize bJ lt (kas_place p k k 0 k)=l at b1 b2 b3
  have g:∀x,(bubble p k (k- l)).getD x 0=if x=l then p.getD k 0 else if l<x/\x<=k then p.getD (x- 1) 0 else p.getD x 0:=a2w b1 (by rw[hp.sz];omega)
  have uk:=hp.un k (Nat.le_refl _) (by omega)
  refine a3D O f _ (k+ 1) ⟨by rw[bubble_size];exact hp.sz,(bubble_perm _ _ _).trans hp.pm,fun x h1 h2=> ?_,fun x hx=> ?_⟩ (fun i j hij hj=> ?_) (by omega)
  ·rw[g,if_neg (by omega),if_neg (by omega)]
   exact hp.un x (by omega) h2
  ·rw[g]
   split
   ·rw[uk];omega
   ·split
    ·have:=hp.pr (x- 1) (by omega);omega
    ·have:=hp.pr x (by omega);omega
  ·rw[g i,g j]
   by_cases c1:i=l
   ·rw[if_pos c1,if_neg (by omega),if_pos (by omega)]
    have l1:=b3 (j- 1) (by omega) (by omega)
    exact⟨O.as l1,.inl l1⟩
   rw[if_neg c1]
   by_cases c2:j=l
   ·rw[if_pos c2,if_neg (by omega)]
    have:=hp.pr i (by omega)
    exact⟨b2 i (by omega),.inr (by rw[uk];exact this)⟩
   rw[if_neg c2]
   by_cases c3:l<i/\i<=k
   ·rw[if_pos c3,if_pos (by omega)]
    exact hs (i- 1) (j- 1) (by omega) (by omega)
   rw[if_neg c3]
   by_cases c4:l<j/\j<=k
   ·rw[if_pos c4]
    rcases Nat.lt_or_ge i (j- 1)with d|d
    ·exact hs i (j- 1) d (by omega)
    ·omega
   ·rw[if_neg c4]
    exact hs i j hij (by omega)
theorem a85(O:fH lt){n:Nat}(h:0<n):(bJ lt (kas_sort n)).size=n/\(bJ lt (kas_sort n)).Perm (List.toArray (List.range n))/\Sd lt (bJ lt (kas_sort n)) n:=by
 unfold kas_sort
 rw[oY]
 obtain⟨a1,a2,a3,a4⟩:=a5S O h
 generalize bJ lt (kas_count n (List.toArray (List.range n)))=r at a1 a2 a3 a4
 by_cases hr:r.1<n
 ·rw[if_pos hr]
  have:max r.1 1=r.1:=by omega
  rw[this]
  obtain⟨b1,b2⟩:=a3D O (n- r.1) r.2 r.1 a1 a2 (by omega)
  exact⟨b1.sz,b1.pm,b2⟩
 ·rw[if_neg hr]
  have:r.1=n:=by omega
  rw[this]at a1 a2
  exact⟨a1.sz,a1.pm,a2⟩
end
end L2
namespace L2
open PySem PySem.Spec PySem.W PyProof.Rows
section
structure tS(prog:Program)(w:World)(A:Around)(s:Shared)(vs:List Value)(κ:SortKind)(lt:Nat->Nat->Bool):Prop where
 kind:2<=vs.length->∀(h':Heap) (tk:Nat),(∀b o,s.heap.get? b=some o->h'.get? b=some o)->∀Q':SortKind->Shared->Prop,(∀tk',Q' κ {s with heap:=h',toks:=tk'})->wpAny (model prog w) A (keyKind' vs.toArray) Q' (fun _ _=>False) {s with heap:=h',toks:=tk}
 ask:∀(h':Heap) (tk:Nat),(∀b o,s.heap.get? b=some o->h'.get? b=some o)->∀(i j:Nat) (C:Bool->Shared->Prop),i<vs.length->j<vs.length->(∀tk',C (lt i j) {s with heap:=h',toks:=tk'})->kas_ask prog w A κ vs i j C {s with heap:=h',toks:=tk}
theorem a4i{vs:List Value}{n:Nat}{κ:SortKind}{lt:Nat->Nat->Bool}{P:PySem.Fin->Shared->Prop}(ho:s.heap.get? a=some (seqObj "list" vs.toArray n))(h64:vs.length<64)(O:fH lt){h0:Heap}(k0:∀b o,h0.get? b=some o->b≠a/\s.heap.get? b=some o)(C:tS prog w A {s with heap:=h0} vs κ lt)
 (hP:∀(h':Heap) (tk:Nat) (p:Array Nat) (e:Nat),p.size=vs.length->p.Perm (List.toArray (List.range vs.length))->Sd lt p vs.length->h'.get? a=some (seqObj "list" (List.toArray (p.toList.map fun i=>vs.getD i Value.none)) e)->(∀b o,b≠a->s.heap.get? b=some o->h'.get? b=some o)->P (.done (.ret .none)) {s with heap:=h',toks:=tk}):
 wpAny (model prog w) A (Builtin.«list.sort» ⟨[.ref a],[]⟩) P E s:=by
 have ha:a<s.heap.objs.size:=Heap.lt_size ho
 have s1:=Heap.SameBut.update s.heap a (Obj.mapSeq fun _=>(#[]:Array Value))
 obtain⟨e1,ho1⟩:∃e1,(s.heap.update a (Obj.mapSeq fun _=>(#[]:Array Value))).get? a=some (seqObj "list" #[] e1):=⟨_,get?_update_seq ho fun _=> #[]⟩
 have keep:∀b o,b≠a->s.heap.get? b=some o->(((s.heap.update a (Obj.mapSeq fun _=>(#[]:Array Value))).push (seqObj "tuple" vs.toArray 0)).push (seqObj "list" #[] 0)).get? b=some o:=fun b o n q=>Heap.get?_push_of_some _ (Heap.get?_push_of_some _ ((s1.2 b n).trans q))
 have oa:(((s.heap.update a (Obj.mapSeq fun _=>(#[]:Array Value))).push (seqObj "tuple" vs.toArray 0)).push (seqObj "list" #[] 0)).get? a=some (seqObj "list" #[] e1):=Heap.get?_push_of_some _ (Heap.get?_push_of_some _ ho1)
 rw[list_sort_plain]
 refine wpAny_bind (listItems_at ho rfl ?_)
 refine wpAny_bind (listUpdate_at ho rfl ?_ (by rw[List.size_toArray,sizeLine_eq];omega) (Nat.zero_le _))
 refine wpAny_bind (seqEpoch_at ho1 rfl ?_)
 refine wpAny_bind (wpAny_newTuple ?_ (by show vs.length<=_;rw[sizeLine_eq];omega))
 refine wpAny_bind (wpAny_newList ?_ (Nat.zero_le _))
 refine wpAny_holding ?_
 show wpAny (model prog w) A _ P E {s with heap:=((s.heap.update a (Obj.mapSeq fun _=>(#[]:Array Value))).push (seqObj "tuple" vs.toArray 0)).push (seqObj "list" #[] 0)}
 generalize ((s.heap.update a (Obj.mapSeq fun _=>(#[]:Array Value))).push (seqObj "tuple" vs.toArray 0)).push (seqObj "list" #[] 0)=h1 at keep oa|-
 dsimp only
 have fin:∀(st':SortSt) (tk:Nat) (p:Array Nat),p.size=vs.length->p.Perm (List.toArray (List.range vs.length))->Sd lt p vs.length->(arrOf st').map (·.2)=List.toArray (p.toList.map fun i=>vs.getD i Value.none)->failedOf st'=none->
  wpAny (model prog w) A (do
   let touched:=(<- seqEpoch a) !=e1
   Builtin.List.listUpdate (.ref a) fun _=>(arrOf st').map (·.2)
   if let some e:=failedOf st' then rule "list.sort.comparison-raised";throw e
   if touched then rule "list.sort.modified";raiseError "ValueError" "list modified during sort"
   ret .none) P E {s with heap:=h1,toks:=tk}:=fun st' tk p z1 z2 z3 hout hf=>by
  have hsz:(List.toArray (p.toList.map fun i=>vs.getD i Value.none)).size=vs.length:=by rw[List.size_toArray,List.length_map,Array.length_toList,z1]
  rw[hout]
  have s2:=Heap.SameBut.update h1 a (Obj.mapSeq fun _=>List.toArray (p.toList.map fun i=>vs.getD i Value.none))
  obtain⟨c2,hc2⟩:∃c2,(h1.update a (Obj.mapSeq fun _=>List.toArray (p.toList.map fun i=>vs.getD i Value.none))).get? a=some (seqObj "list" (List.toArray (p.toList.map fun i=>vs.getD i Value.none)) c2):=⟨_,get?_update_seq oa fun _=>List.toArray (p.toList.map fun i=>vs.getD i Value.none)⟩
  refine wpAny_bind (seqEpoch_at (s:={s with heap:=h1,toks:=tk}) oa rfl ?_)
  refine wpAny_bind (listUpdate_at (s:={s with heap:=h1,toks:=tk}) oa rfl ?_ (Nat.zero_le _) (Nat.le_trans (Nat.le_of_eq hsz) (by rw[sizeLine_eq];omega)))
  rw[hf]
  simp only[bne_self_eq_false,Bool.false_eq_true,if_false]
  refine wpAny_pure (hP _ tk p c2 z1 z2 z3 hc2 fun b o n q=>(s2.2 b n).trans (keep b o n q))
 by_cases h2:vs.toArray.size<2
 ·rw[if_pos h2,if_pos h2]
  have hl:vs.length<2:=by rw[List.size_toArray]at h2;exact h2
  refine wpAny_bind (wpAny_pure ?_)
  refine wpAny_bind (wpAny_pure ?_)
  refine fin _ s.toks (List.toArray (List.range vs.length)) (by simp) (Array.Perm.refl _) (fun i j hij hj=>by omega) ?_ rfl
  show((vs.toArray.zip vs.toArray).map (·.2))=_
  match vs,hl with
  | [],_=>simp
  | [v],_=>simp
 ·rw[if_neg h2,if_neg h2]
  have h2:2<=vs.length:=by rw[List.size_toArray]at h2;omega
  have kk:∀b o,h0.get? b=some o->h1.get? b=some o:=fun b o q=>keep b o (k0 b o q).1 (k0 b o q).2
  refine wpAny_bind (wpAny_mono (C.kind h2 h1 s.toks kk (fun κ' s'=>κ'=κ/\∃tk,s'={s with heap:=h1,toks:=tk}) fun tk'=>⟨rfl,tk',rfl⟩) ?_ fun _ _ e=>e.elim)
  rintro κ' s' ⟨rfl,tk,rfl⟩
  have est:SortSt.mk' κ' (vs.toArray.zip vs.toArray) #[] 7 none=kas_st κ' (pairsOf vs) (List.toArray (List.range vs.length)):=by
   have e:=kas_range (pairsOf vs)
   rw[pairsOf_size]at e
   show SortSt.mk' κ' (pairsOf vs) #[] 7 none=SortSt.mk' κ' ((List.toArray (List.range vs.length)).map (kas_item (pairsOf vs))) #[] 7 none
   rw[e]
  have ask:(kas_sort vs.length).kasWp (kas_ask prog w A κ' vs) (fun p s'=>p=bJ lt (kas_sort vs.length)/\∃tk,s'={s with heap:=h1,toks:=tk}) {s with heap:=h1,toks:=tk}:=by
   refine OkK.wp (J:=fun s'=>∃tk,s'={s with heap:=h1,toks:=tk}) (lt:=lt) (n:=vs.length) (fun i j C' s' hi hj js hC=> ?_) (a52 (by omega)) ⟨tk,rfl⟩ fun s' js=>⟨rfl,js⟩
   obtain⟨tk2,rfl⟩:=js
   exact C.ask h1 tk2 kk i j C' hi hj fun tk3=>hC _ ⟨tk3,rfl⟩
  rw[kas_ask_eq]at ask
  have run:=kas_runs (E:=E) (Q:=fun _ st' s'=>∃p:Array Nat,p.size=vs.length/\arrOf st'=p.map (kas_item (pairsOf vs))/\failedOf st'=none/\p=bJ lt (kas_sort vs.length)/\∃tk,s'={s with heap:=h1,toks:=tk})
   h2 h64 (fun p' st' s' a1 a2 a3 a4=>⟨p',a1,a2,a3,a4⟩) ask
  rw[<- est]at run
  refine wpAny_bind (wpAny_mono run ?_ fun _ _ e=>e)
  rintro⟨⟨⟩,st'⟩ s' ⟨p,hp,har,hf,hrun,tk3,rfl⟩
  have hout:(arrOf st').map (·.2)=List.toArray (p.toList.map fun i=>vs.getD i Value.none):=by
   apply Array.toList_inj.mp
   rw[har,Array.map_map,Array.toList_map]
   exact List.map_congr_left fun i _=>by show(kas_item (pairsOf vs) i).2=_;rw[kas_item_eq]
  obtain⟨b1,b2,b3⟩:=a85 O (n:=vs.length) (by omega)
  exact fin st' tk3 p hp (by rw[hrun];exact b2) (by rw[hrun];exact b3) hout hf
theorem a8K{vs:List Value}{κ:SortKind}{lt:Nat->Nat->Bool}(hl:s.heap.IsList l vs.toArray)(h64:vs.length<64)(O:fH lt)(C:tS prog w A.in1.in1 s vs κ lt)
 (hQ:∀(h':Heap) (tk:Nat) (p:Array Nat) (D:Addr) (e:Nat),s.heap.objs.size<=D->p.size=vs.length->p.Perm (List.toArray (List.range vs.length))->Sd lt p vs.length->h'.get? D=some (seqObj "list" (List.toArray (p.toList.map fun i=>vs.getD i Value.none)) e)->(∀b o,s.heap.get? b=some o->h'.get? b=some o)->Q (.ref D) {s with heap:=h',toks:=tk}):
 wpAny (model prog w) A (call (.builtin "sorted") [.ref l]) Q E s:=by
 refine Calls.call_function_entry kind_sorted plain_sorted entry_sorted (args_sorted1 _) ?_
 unfold Builtin.«sorted»
 refine wpAny_bind (m:=checkCount "sorted" 1 1 _) (wpAny_pure ?_)
 refine wpAny_bind (collect_list hl ?_ (by rw[sizeLine_eq];omega))
 refine wpAny_bind (wpAny_newList ?_ (by rw[sizeLine_eq];omega))
 have hsz:((s.heap.push (seqObj "list" #[] 0)).update s.heap.objs.size (Obj.mapSeq (· ++ vs.toArray))).objs.size=s.heap.objs.size+ 1:=by
  rw[Heap.size_update,size_push']
 have hoL:(((s.heap.push (seqObj "list" #[] 0)).update s.heap.objs.size (Obj.mapSeq (· ++ vs.toArray))).push (seqObj "list" vs.toArray 0)).get? (s.heap.objs.size+ 1)=some (seqObj "list" vs.toArray 0):=by
  rw[<- hsz];exact Heap.get?_push_size _ rfl
 have keep:∀b o,s.heap.get? b=some o->(((s.heap.push (seqObj "list" #[] 0)).update s.heap.objs.size (Obj.mapSeq (· ++ vs.toArray))).push (seqObj "list" vs.toArray 0)).get? b=some o:=fun b o q=>by
  have hlt:b<s.heap.objs.size:=Heap.lt_size q
  rw[Heap.get?_push_ne _ _ _ (by rw[hsz];exact Nat.ne_of_lt (Nat.lt_succ_of_lt hlt)),Heap.get?_update_ne _ _ _ _ (Nat.ne_of_lt hlt),Heap.get?_push_ne _ _ _ (Nat.ne_of_lt hlt)]
  exact q
 show wpAny _ _ _ _ _ {s with heap:=((s.heap.push (seqObj "list" #[] 0)).update s.heap.objs.size (Obj.mapSeq (· ++ vs.toArray))).push (seqObj "list" vs.toArray 0)}
 rw[hsz]
 generalize ((s.heap.push (seqObj "list" #[] 0)).update s.heap.objs.size (Obj.mapSeq (· ++ vs.toArray))).push (seqObj "list" vs.toArray 0)=h1 at hoL keep|-
 refine wpAny_bind (wpAny_holding (wpAny_call_entry slot_list_sort ⟨_,hoL,rfl⟩ entry_list_sort ?body (args_list_sort _)))
 case body=>
  refine a4i (s:={s with heap:=h1}) (h0:=s.heap) hoL h64 O (fun b o q=>⟨Nat.ne_of_lt (Nat.lt_succ_of_lt (Heap.lt_size q)),keep b o q⟩) C fun h' tk p e z1 z2 z3 z4 z5=> ?_
  exact⟨_,rfl,wpAny_pure ⟨_,rfl,hQ h' tk p _ e (Nat.le_succ _) z1 z2 z3 z4 fun b o q=>z5 b o (Nat.ne_of_lt (Nat.lt_succ_of_lt (Heap.lt_size q))) (keep b o q)⟩⟩
end
noncomputable def ltI (ns:List Int) (i j:Nat):Bool:=decide (ns.getD i 0<ns.getD j 0)
section
theorem zS:∀{ys:List V} {us:List Value} {i:Nat},aX ys us->i<ys.length->bA (ys.getD i .non) (us.getD i Value.none)
 |_,_,0,.cons h _,_=>h
 |_,_,i+ 1,.cons _ t,h=>by simpa using zS t (Nat.lt_of_succ_lt_succ h)
theorem a3M{ys:List V}{us:List Value}(r:aX ys us):∀{is:List Nat},(∀i∈is,i<ys.length)->aX (is.map fun i=>ys.getD i .non) (is.map fun i=>us.getD i Value.none)
 | [],_=> .nil
 |i::is,h=> .cons (zS r (h i List.mem_cons_self)) (a3M r fun j hj=>h j (List.mem_cons_of_mem _ hj))
theorem a2a{p:Array Nat}{n:Nat}(h:p.Perm (List.toArray (List.range n)))(hi:i∈p.toList):i<n:=by
 have:=h.toList.mem_iff.mp hi
 simpa using this
theorem a4w{κ:SortKind}{R:List V->Hp->(Nat->Nat->Bool)->Prop}(hR:∀(ae:List (Addr×Obj)) (s:Shared) (σ:St) (H:Hp) (ys:List V) (us:List Value) (lt:Nat->Nat->Bool),aD X ae σ H s->aX ys us->R ys H lt->tS X.prog X.w X.A.in1.in1 s us κ lt):
 jA X (.builtin "sorted") (fun xs H Q=>∃(l:Addr) (ys:List V) (lt:Nat->Nat->Bool),xs= [.ref l] /\aM X.K H l ys/\ys.length<64/\fH lt/\R ys H lt/\∀(D:Addr) (p:Array Nat),H D=none->p.size=ys.length->p.Perm (List.toArray (List.range ys.length))->Sd lt p ys.length->Q (.ref D) (upd H D (.lst (p.toList.map fun i=>ys.getD i .non)))):=by
 intro ae s σ H xs us Q I r h
 obtain⟨l,ys,lt,rfl,hq,h64,O,hr,q⟩:=h
 obtain⟨u,rfl,ru⟩:=r.one
 cases ru
 obtain⟨its,rv,pl,hz⟩:=I.list hq
 have hl:ys.length=its.length:=rv.length
 refine a8K pl.isList (by omega) O (hR ae s σ H ys its lt I rv hr) fun h' tk p D e hD z1 z2 z3 z4 z5=> ?_
 have hDn:H D=none:=I.hok.fresh hD
 rw[<- hl]at z1 z2 z3
 refine⟨.ref D,_,I.laid (t':=tk) (o:=.lst (p.toList.map fun i=>ys.getD i .non)) z5 hD ?_,rfl,q D p hDn z1 z2 z3⟩
 have lp:p.toList.length=ys.length:=by rw[Array.length_toList,z1]
 exact⟨by rw[List.length_map,lp];exact Nat.le_trans (Nat.le_of_lt h64) (by rw[sizeLine_eq];decide),_,e,a3M rv fun i hi=>a2a z2 hi,z4⟩
end
theorem tZ:bootBuiltins "sorted"=some (.builtin "sorted"):=by kernel_rfl
section
open PySem.SeqAt
open PySem.AutoSeq1 (wpAny_loadPart')
open PySem.MeetsSeq PySem.MeetsSeq2 PySem.MeetsSeq3
theorem mZ{ns:List Int}{x:Int}(h:ns[i]?=some x):ns.drop i=x::ns.drop (i+ 1):=by
 obtain⟨h1,h2⟩:=List.getElem?_eq_some_iff.mp h
 rw[<- h2]
 exact List.drop_eq_getElem_cons h1
theorem zP:∀{vs:List Value} {ns:List Int} {i:Nat},IntsAre vs ns->(vs[i]?=none/\ns[i]?=none)\/ ∃n t,vs[i]?=some (.int n t)/\ns[i]?=some n
 |_,_,_,.nil=> .inl ⟨rfl,rfl⟩
 |_,_,0,.cons n t _=> .inr ⟨n,t,rfl,rfl⟩
 |_,_,i+ 1,.cons n t r=>by simpa using zP (i:=i) r
theorem a7L(l b:Addr)(items items2:Array Value)(n n2:Nat)(dd dd2:Option Addr)(sl sl2:Array (Option Value))(ns ms:List Int)(hi:IntsAre items.toList ns)(hj:IntsAre items2.toList ms)(k:Nat):
 ∀i:Nat,items.size- i=k->i<=ns.length->i<=ms.length->Meets (Builtin.«list.__eq__.loop» ⟨[.ref l,.ref b,rawInt i,rawInt 0],[]⟩)
  (fun A R s=>s.heap.get? l=some {cls:=.type "list",dict:=dd,data:=.seq items n,slots:=sl} /\s.heap.get? b=some {cls:=.type "list",dict:=dd2,data:=.seq items2 n2,slots:=sl2} /\
   R (.ok (.ret (.bool (HT.lexLt (ns.drop i) (ms.drop i))))) s):=by
 have z1:items.size=ns.length:=by rw[<- hi.length];simp
 have z2:items2.size=ms.length:=by rw[<- hj.length];simp
 induction k with
 |zero=>
  intro i hk hin him prog w A R s h
  obtain⟨hp,g,d,tk,os⟩:=s;obtain⟨hl,hb,h⟩:=h
  wp_walk using wpAny_loadPart' hl,wpAny_loadPart' hb
  have hi1:items[((i:Nat):Int).toNat]?=none:=by simp;omega
  have hd:ns.drop i= []:=by simp;omega
  rw[hd]at h
  rw[hi1]
  wp_walk using wpAny_loadPart' hl,wpAny_loadPart' hb
  show R (.ok (.ret (.bool (decide (items.size<items2.size))))) _
  have e:HT.lexLt [] (ms.drop i)=decide (items.size<items2.size):=by
   cases e2:ms.drop i with
   |nil=>
    have:ms.length<=i:=List.drop_eq_nil_iff.mp e2
    rw[HT.lexLt_nil_nil]
    exact(decide_eq_false (by omega)).symm
   |cons y r=>
    have:i<ms.length:=by
     rcases Nat.lt_or_ge i ms.length with q|q
     ·exact q
     ·rw[List.drop_eq_nil_of_le q]at e2;cases e2
    rw[HT.lexLt_nil_cons]
    exact(decide_eq_true (by omega)).symm
  rw[<- e]
  exact h
 |succ k ih=>
  intro i hk hin him prog w A R s h
  obtain⟨hp,g,d,tk,os⟩:=s;obtain⟨hl,hb,h⟩:=h
  wp_walk using wpAny_loadPart' hl,wpAny_loadPart' hb
  have hlt:i<items.size:=by omega
  have e1:items[((i:Nat):Int).toNat]?=items.toList[i]?:=by simp
  have e2:items2[((i:Nat):Int).toNat]?=items2.toList[i]?:=by simp
  have hc:((i:Int)+ 1)=((i+ 1:Nat):Int):=by push_cast;rfl
  rcases zP (i:=i) hi with⟨a1,a2⟩|⟨x,t,a1,a2⟩
  ·have:=List.getElem?_eq_none_iff.mp a2;omega
  rw[mZ a2]at h
  rcases zP (i:=i) hj with⟨b1,b2⟩|⟨y,u,b1,b2⟩
  ·have q:=List.getElem?_eq_none_iff.mp b2
   rw[List.drop_eq_nil_of_le q,HT.lexLt_cons_nil]at h
   rw[e1,e2,a1,b1]
   wp_walk using wpAny_loadPart' hl,wpAny_loadPart' hb
   show R (.ok (.ret (.bool (decide (items.size<items2.size))))) _
   rw[decide_eq_false (show¬items.size<items2.size by omega)]
   exact h
  ·rw[mZ b2,HT.lexLt_cons]at h
   rw[e1,e2,a1,b1]
   obtain⟨e,he,hiff⟩:=HT.eqAt_int A.in1 ⟨hp,g,d,tk,os⟩ x t y u
   refine wpAny_bind (he prog w _ _ ?_)
   cases e with
   |true=>
    rw[if_pos (hiff.mp rfl)]at h
    have l1:=(List.getElem?_eq_some_iff.mp b2).1
    wp_walk
    rw[hc]
    exact⟨plainId_quiet plain_eq_loop _,codeAny_builtin entry_eq_loop (by
     rw[Around.under_plainId plain_eq_loop _]
     exact ih (i+ 1) (by omega) (by omega) (by omega) prog w A R _ ⟨hl,hb,h⟩)⟩
   |false=>
    rw[if_neg (fun q=>absurd (hiff.mpr q) Bool.false_ne_true)]at h
    have hri:=HT.rcLt_int A.in1 ⟨hp,g,d,tk,os⟩ x t y u prog w
    wp_walk using wpAny_loadPart' hl,wpAny_loadPart' hb
    rw[e1,e2,a1,b1]
    wp_walk using hri
    exact h
theorem a6B(l b:Addr)(items items2:Array Value)(n n2:Nat)(dd dd2:Option Addr)(sl sl2:Array (Option Value))(ns ms:List Int)(hi:IntsAre items.toList ns)(hj:IntsAre items2.toList ms):
 Meets (Builtin.«list.__lt__» ⟨[.ref l,.ref b],[]⟩)
  (fun A R s=>s.heap.get? l=some {cls:=.type "list",dict:=dd,data:=.seq items n,slots:=sl} /\s.heap.get? b=some {cls:=.type "list",dict:=dd2,data:=.seq items2 n2,slots:=sl2} /\
   R (.ok (.ret (.bool (HT.lexLt ns ms)))) s):=by
 intro prog w A R s h
 obtain⟨hp,g,d,tk,os⟩:=s;obtain⟨hl,hb,h⟩:=h
 have f3:=AutoSeq1.sub_list_list
 wp_walk using wpAny_loadPart' hl,wpAny_loadPart' hb
 exact⟨plainId_quiet plain_eq_loop _,codeAny_builtin entry_eq_loop (by
  rw[Around.under_plainId plain_eq_loop _]
  exact a7L l b items items2 n n2 dd dd2 sl sl2 ns ms hi hj _ 0 rfl (Nat.zero_le _) (Nat.zero_le _) prog w A R _ ⟨hl,hb,by simpa using h⟩)⟩
end
theorem a3t:∀{xs ys:List Int},HT.lexLt xs ys=true->HT.lexLt ys xs=false
 | [],[],h=>by cases h
 | [],_::_,_=>rfl
 |_::_,[],h=>by cases h
 |x::xs,y::ys,h=>by
  rw[HT.lexLt_cons]at h|-
  by_cases e:x=y
  ·rw[if_pos e]at h
   rw[if_pos e.symm]
   exact a3t h
  ·rw[if_neg e]at h
   rw[if_neg (fun q=>e q.symm),decide_eq_false_iff_not]
   rw[decide_eq_true_eq]at h
   omega
theorem a19:∀{xs ys zs:List Int},HT.lexLt ys xs=false->HT.lexLt zs ys=false->HT.lexLt zs xs=false
 | [],[],_,_,h=>h
 | [],_::_,[],_,h=>by cases h
 | [],_::_,_::_,_,_=>rfl
 |x::xs,[],_,h,_=>by cases h
 |x::xs,y::ys,[],_,h=>by cases h
 |x::xs,y::ys,z::zs,h1,h2=>by
  rw[HT.lexLt_cons]at h1 h2|-
  by_cases e1:y=x
  ·rw[if_pos e1]at h1
   by_cases e2:z=y
   ·rw[if_pos e2]at h2
    rw[if_pos (e2.trans e1)]
    exact a19 h1 h2
   ·rw[if_neg e2,decide_eq_false_iff_not]at h2
    rw[if_neg (fun q=>e2 (q.trans e1.symm)),decide_eq_false_iff_not]
    omega
  ·rw[if_neg e1,decide_eq_false_iff_not]at h1
   by_cases e2:z=y
   ·rw[if_neg (fun q=>e1 (e2.symm.trans q)),decide_eq_false_iff_not]
    omega
   ·rw[if_neg e2,decide_eq_false_iff_not]at h2
    rw[if_neg (by omega),decide_eq_false_iff_not]
    omega
theorem a3U:∀{xs ys:List Int},HT.lexLt xs ys=false->HT.lexLt ys xs=false->xs=ys
 | [],[],_,_=>rfl
 | [],_::_,h,_=>by cases h
 |_::_,[],_,h=>by cases h
 |x::xs,y::ys,h1,h2=>by
  rw[HT.lexLt_cons]at h1 h2
  by_cases e:x=y
  ·rw[if_pos e]at h1
   rw[if_pos e.symm]at h2
   rw[e,a3U h1 h2]
  ·rw[if_neg e,decide_eq_false_iff_not]at h1
   rw[if_neg (fun q=>e q.symm),decide_eq_false_iff_not]at h2
   omega
noncomputable def nT (nss:List (List Int)) (i j:Nat):Bool:=HT.lexLt (nss.getD i []) (nss.getD j [])
theorem uR(nss:List (List Int)):fH (nT nss):=⟨fun h=>a3t h,fun h1 h2=>a19 h1 h2⟩
def gJ(K:Fg)(H:Hp):List V->List (List Int)->Prop:=Paired fun x ns=>∃a,x= .ref a/\aM K H a (ns.map V.int)
section
theorem a0S{K:Fg}{H:Hp}:∀{ys:List V} {nss:List (List Int)} {i:Nat},gJ K H ys nss->i<ys.length->∃a,ys.getD i .non= .ref a/\aM K H a ((nss.getD i []).map V.int)
 |_,_,0,.cons h _,_=>h
 |_,_,i+ 1,.cons _ t,h=>by simpa using a0S t (Nat.lt_of_succ_lt_succ h)
theorem a4X(I:aD X ae σ H s){ns:List Int}(h:aM X.K H a (ns.map V.int)):∃(items:Array Value) (n:Nat) (dd:Option Addr) (sl:Array (Option Value)),s.heap.get? a=some {cls:=.type "list",dict:=dd,data:=.seq items n,slots:=sl} /\IntsAre items.toList ns:=by
 obtain⟨its,rv,pl,_⟩:=I.list h
 obtain⟨o,ho,hc,n,hd⟩:=pl.isList
 obtain⟨oc,od,dt,osl⟩:=o
 simp only at hc hd
 subst hc hd
 exact⟨_,n,od,osl,ho,a6z rv⟩
theorem a7Y(hu:X.A.in1.in1.units<cLine)(I:aD X ae σ H s)(r:aX ys us){nss:List (List Int)}(h:gJ X.K H ys nss):tS X.prog X.w X.A.in1.in1 s us oneType' (nT nss):=by
 have hl:ys.length=us.length:=r.length
 have key:∀i,i<us.length->∃a items n dd sl,us.getD i Value.none= .ref a/\s.heap.get? a=some {cls:=.type "list",dict:=dd,data:=.seq items n,slots:=sl} /\IntsAre items.toList (nss.getD i []):=fun i hi=>by
  obtain⟨a,e1,e2⟩:=a0S h (i:=i) (by omega)
  have rr:=zS r (i:=i) (by omega)
  rw[e1]at rr
  obtain⟨items,n,dd,sl,e3,e4⟩:=a4X I e2
  exact⟨a,items,n,dd,sl,rr,e3,e4⟩
 refine⟨fun h2 h' tk kk Q' hq=> ?_,fun h' tk kk i j C hi hj hC=> ?_⟩
 ·refine kas_kind (T:=.type "list") h2 (fun v hv=> ?_) (by decide) (by decide) (hq tk)
  obtain⟨i,hi⟩:=List.getElem?_of_mem hv
  obtain⟨a,items,n,dd,sl,e1,e2,_⟩:=key i (List.getElem?_eq_some_iff.mp hi).1
  have e:us.getD i Value.none=v:=by rw[List.getD_eq_getElem?_getD,hi];rfl
  rw[<- e,e1]
  exact(Looks.ld (kk _ _ e2)).andThen .now
 ·obtain⟨a,items,n,dd,sl,e1,e2,e3⟩:=key i hi
  obtain⟨b,items2,n2,dd2,sl2,f1,f2,f3⟩:=key j hj
  unfold kas_ask
  rw[e1,f1,keyLt'_oneType,oneLt'_eq]
  simp only[if_true]
  refine wpAny_bind (wpAny_cRoomFor hu ?_)
  refine wpAny_bind (wpAny_callSpecialIfBound?_slot (s:={s with heap:=h',toks:=tk}) ⟨_,kk _ _ e2,rfl⟩ F.slot_list_lt (call_meets F.slot_list_lt ⟨_,kk _ _ e2,rfl⟩ F.entry_list_lt (F.args_list_lt_2 _ _) (a6B a b items items2 n n2 dd dd2 sl sl2 _ _ e3 f3) ⟨kk _ _ e2,kk _ _ f2,?_⟩))
  exact wpAny_truthy_bool (hC tk)
theorem vT(hu:X.A.in1.in1.units<cLine):jA X (.builtin "sorted") (fun xs H Q=>∃(l:Addr) (ys:List V) (lt:Nat->Nat->Bool),xs= [.ref l] /\aM X.K H l ys/\ys.length<64/\fH lt/\(∃nss,gJ X.K H ys nss/\lt=nT nss)/\∀(D:Addr) (p:Array Nat),H D=none->p.size=ys.length->p.Perm (List.toArray (List.range ys.length))->Sd lt p ys.length->Q (.ref D) (upd H D (.lst (p.toList.map fun i=>ys.getD i .non)))):=
 a4w (R:=fun ys H lt=>∃nss,gJ X.K H ys nss/\lt=nT nss) (κ:=oneType') fun ae s σ H ys us lt I r ⟨nss,e1,e2⟩=>by
  subst e2
  exact a7Y hu I r e1
end
end L2
namespace L2
open PySem PySem.Spec PyProof.Rows
section
theorem na{a:Str}(h:W.findIn K (.ref C) a=some none):cH K C a:=h
theorem a2P{a b:Str}{p:Addr}{t0 t1:Tok}{m:Nat}{sl':Array (Option Value)}(X:K.In h)(G:h.Ns mainGlobals mg)(i:W.nsIn K mainGlobals x=some (some (.ref p)))(j:K.lookup p=some ⟨.type "tuple",od,.seq #[Value.str a t0,Value.str b t1] m,sl'⟩):∃p,mg x=some (.ref p)/\∀H,cF K H p [V.str a,V.str b]:=
 ⟨p,W.mg_of X G i,fun H=> .inr ⟨_,_,_,j,rfl,rfl,sl (by simp),.cons ⟨_,rfl⟩ (.cons ⟨_,rfl⟩ .nil)⟩⟩
theorem a4H{cls:Str}{st:Stmt}{c p:Addr}{wo:Value}{wd:Option Addr}{osl ws:Array (Option Value)}{kV:Value}{vs:Array Value}(X:K.In h)(G:h.Ns mainGlobals mg)(n:W.nsIn K mainGlobals cls=some (some (.ref C)))(a:W.findIn K (.ref C) m=some (some (.ref f)))(i:W.isFn K (.ref f)=true)
 (l:K.lookup f=some ⟨oc,od,.func (W.fnOf m qual (jR st) (eZ st) (aO st) .none kV doc pm an (.ref c) ct),osl⟩)(hc:W.codeIn K (.ref c) qual=true)(k:W.keepIn K (.ref f)=true)(w:K.lookup c=some ⟨wo,wd,.fields vs,ws⟩)(t:vs[11]?=some (.ref p))(hd:W.codeHdIn K c p=true):kF K mg cls m qual st (c,p):=a4A X G n a i l hc k hd
end
end L2
namespace My
open PySem L2
def aV(i:Nat):Stmt:=PySem.Challenge.pw_lazycols_k31_stretches_and_totals.main.body.getD i (.Pass ⟨0,0,0,0⟩)
abbrev a1C:Stmt:=aV 16
abbrev a0Y:Stmt:=aV 17
abbrev a13:Stmt:=aV 18
abbrev a24:Stmt:=aV 19
abbrev a0N:Stmt:=aV 20
abbrev a2L:Stmt:=aV 21
abbrev a2C:Stmt:=aV 25
abbrev a2A:Stmt:=aV 26
abbrev a3k:Stmt:=aV 27
abbrev a1L:Stmt:=aV 28
abbrev a1q:Stmt:=aV 36
abbrev a2E:Stmt:=aV 37
abbrev a3K:Stmt:=aV 46
abbrev a1G:Stmt:=aV 47
abbrev a1A:Stmt:=aV 48
abbrev a2c:Stmt:=aV 49
abbrev tG:Stmt:=aV 53
abbrev a1n:Stmt:=aV 54
abbrev a1h:Stmt:=aV 55
abbrev a0J:Stmt:=aV 56
abbrev a2Q:Stmt:=aV 57
abbrev a1W:Stmt:=aV 58
abbrev lV:Stmt:=aV 59
abbrev kL:Stmt:=aV 60
abbrev a2T:Stmt:=bP (aV 29) 0
abbrev a2z:Stmt:=bP (aV 29) 1
abbrev a6X:Stmt:=bP (aV 29) 2
abbrev a5W:Stmt:=bP (aV 29) 3
abbrev uU:Stmt:=bP (aV 29) 4
abbrev a8P:Stmt:=bP (aV 29) 5
abbrev a2B:Stmt:=bP (aV 29) 6
abbrev a05:Stmt:=bP (aV 29) 7
abbrev a1j:Stmt:=bP (aV 29) 11
abbrev a23:Stmt:=bP (aV 29) 13
abbrev a2H:Stmt:=bP (aV 31) 0
abbrev a1k:Stmt:=bP (aV 31) 1
abbrev a2X:Stmt:=bP (aV 31) 2
abbrev a3m:Stmt:=bP (aV 31) 3
abbrev a1K:Stmt:=bP (aV 31) 4
abbrev vU:Stmt:=bP (aV 31) 5
abbrev a1b:Stmt:=bP (aV 32) 0
abbrev a03:Stmt:=bP (aV 32) 1
abbrev a21:Stmt:=bP (aV 33) 0
abbrev a2G:Stmt:=bP (aV 33) 1
abbrev a08:Stmt:=bP (aV 34) 0
abbrev a1F:Stmt:=bP (aV 34) 1
abbrev a2i:Stmt:=bP (aV 41) 0
abbrev a3c:Stmt:=bP (aV 41) 1
abbrev a16:Stmt:=bP (aV 42) 0
abbrev a06:Stmt:=bP (aV 42) 1
abbrev a0b:Stmt:=bP (aV 42) 2
abbrev iB:Stmt:=bP (aV 42) 3
abbrev a1J:Stmt:=bP (aV 42) 4
abbrev a2Y:Stmt:=bP (aV 42) 5
abbrev a3q:Stmt:=bP (aV 43) 0
abbrev a3v:Stmt:=bP (aV 43) 1
abbrev a3r:Stmt:=bP (aV 43) 2
abbrev a3i:Stmt:=bP (aV 43) 3
abbrev a1c:Stmt:=bP (aV 43) 4
abbrev a4g:Stmt:=bP (aV 43) 8
abbrev a8u:Stmt:=bP (aV 43) 9
abbrev a8a:Stmt:=bP (aV 43) 11
abbrev a5Y:Stmt:=bP (aV 43) 12
abbrev rF:Stmt:=bP (aV 43) 13
abbrev a3Z:Stmt:=bP (aV 43) 14
abbrev a2U:Stmt:=bP (aV 43) 16
abbrev a3e:Stmt:=bP (aV 43) 17
abbrev a3s:Stmt:=bP (aV 43) 18
abbrev a3S:Stmt:=bP (aV 43) 19
abbrev a5v:Stmt:=bP (aV 43) 20
abbrev a3x:Stmt:=bP (aV 43) 21
abbrev a2V:Stmt:=bP (aV 43) 22
abbrev a30:Stmt:=bP (aV 50) 0
abbrev vD:Stmt:=bP (aV 50) 1
abbrev a1y:Stmt:=bP (aV 51) 0
abbrev qP:Stmt:=bP (aV 51) 1
abbrev sF:Stmt:=bP (aV 51) 2
structure dZ(K:Fg)(mg:Str->Option Value)(C:Addr):Prop where
 c:mg "Table"=some (.ref C)
 cl:cI K C
 mks:W.makesIn K C=true
 kc:W.keepIn K (.ref C)=true
 hc:W.findIn K (.ref C) "__class__"=some (some (.builtin "object.__class__"))
 n_row_numbers:cH K C "row_numbers"
 n_fresh_number:cH K C "fresh_number"
 n_kept:cH K C "kept"
 m_init:bM K C "__init__" "Table.__init__" a2T
 m_many:bM K C "many" "Table.many" a2z
 m_numbers:bM K C "numbers" "Table.numbers" a6X
 m_columns:bM K C "columns" "Table.columns" a5W
 m_give:bM K C "give" "Table.give" uU
 m_drop:bM K C "drop" "Table.drop" a8P
 m_put:bM K C "put" "Table.put" a2B
 m_at:bM K C "at" "Table.at" a05
 m_number_at:bM K C "number_at" "Table.number_at" a1j
 m_check_column:bM K C "check_column" "Table.check_column" a23
structure dG(K:Fg)(mg:Str->Option Value)(C:Addr):Prop where
 c:mg "Board"=some (.ref C)
 cl:cI K C
 mks:W.makesIn K C=true
 kc:W.keepIn K (.ref C)=true
 hc:W.findIn K (.ref C) "__class__"=some (some (.builtin "object.__class__"))
 n_given:cH K C "given"
 n_rules:cH K C "rules"
 n_memory:cH K C "memory"
 n_order:cH K C "order"
 m_init:bM K C "__init__" "Board.__init__" a2H
 m_has_column:bM K C "has_column" "Board.has_column" a1k
 m_content:bM K C "content" "Board.content" a2X
 m_set_column:bM K C "set_column" "Board.set_column" a3m
 m_empty_column:bM K C "empty_column" "Board.empty_column" a1K
 m_outcome:bM K C "outcome" "Board.outcome" vU
structure vS(K:Fg)(mg:Str->Option Value)(C:Addr):Prop where
 c:mg "TableTold"=some (.ref C)
 cl:cI K C
 mks:W.makesIn K C=true
 kc:W.keepIn K (.ref C)=true
 hc:W.findIn K (.ref C) "__class__"=some (some (.builtin "object.__class__"))
 n_boards:cH K C "boards"
 n_name:cH K C "name"
 n_size:cH K C "size"
 m_init:bM K C "__init__" "TableTold.__init__" a1b
 m_take:bM K C "take" "TableTold.take" a03
structure rE(K:Fg)(mg:Str->Option Value)(C:Addr):Prop where
 c:mg "ColumnSet"=some (.ref C)
 cl:cI K C
 mks:W.makesIn K C=true
 kc:W.keepIn K (.ref C)=true
 hc:W.findIn K (.ref C) "__class__"=some (some (.builtin "object.__class__"))
 n_board:cH K C "board"
 n_column:cH K C "column"
 n_after:cH K C "after"
 n_before:cH K C "before"
 m_init:bM K C "__init__" "ColumnSet.__init__" a21
 m_take:bM K C "take" "ColumnSet.take" a2G
structure rR(K:Fg)(mg:Str->Option Value)(C:Addr):Prop where
 c:mg "ValuePut"=some (.ref C)
 cl:cI K C
 mks:W.makesIn K C=true
 kc:W.keepIn K (.ref C)=true
 hc:W.findIn K (.ref C) "__class__"=some (some (.builtin "object.__class__"))
 n_board:cH K C "board"
 n_column:cH K C "column"
 n_place:cH K C "place"
 n_after:cH K C "after"
 n_before:cH K C "before"
 m_init:bM K C "__init__" "ValuePut.__init__" a08
 m_take:bM K C "take" "ValuePut.take" a1F
structure mV(K:Fg)(mg:Str->Option Value)(C:Addr):Prop where
 c:mg "Trial"=some (.ref C)
 cl:cI K C
 mks:W.makesIn K C=true
 kc:W.keepIn K (.ref C)=true
 hc:W.findIn K (.ref C) "__class__"=some (some (.builtin "object.__class__"))
 n_finder:cH K C "finder"
 n_looked:cH K C "looked"
 n_lacking:cH K C "lacking"
 m_init:bM K C "__init__" "Trial.__init__" a2i
 m_look:bM K C "look" "Trial.look" a3c
structure fC(K:Fg)(mg:Str->Option Value)(C:Addr):Prop where
 c:mg "Finder"=some (.ref C)
 cl:cI K C
 mks:W.makesIn K C=true
 kc:W.keepIn K (.ref C)=true
 hc:W.findIn K (.ref C) "__class__"=some (some (.builtin "object.__class__"))
 n_boards:cH K C "boards"
 n_found:cH K C "found"
 n_looked:cH K C "looked"
 m_init:bM K C "__init__" "Finder.__init__" a16
 m_value_of:bM K C "value_of" "Finder.value_of" a06
 m_attempt:bM K C "attempt" "Finder.attempt" a0b
 m_gathered:bM K C "gathered" "Finder.gathered" iB
 m_settle:bM K C "settle" "Finder.settle" a1J
 m_knows:bM K C "knows" "Finder.knows" a2Y
structure gM(K:Fg)(mg:Str->Option Value)(C:Addr):Prop where
 c:mg "Sheet"=some (.ref C)
 cl:cI K C
 mks:W.makesIn K C=true
 kc:W.keepIn K (.ref C)=true
 hc:W.findIn K (.ref C) "__class__"=some (some (.builtin "object.__class__"))
 n_boards:cH K C "boards"
 n_changes:cH K C "changes"
 n_finder:cH K C "finder"
 m_init:bM K C "__init__" "Sheet.__init__" a3q
 m_table:bM K C "table" "Sheet.table" a3v
 m_give:bM K C "give" "Sheet.give" a3r
 m_rule:bM K C "rule" "Sheet.rule" a3i
 m_put:bM K C "put" "Sheet.put" a1c
 m_tables:bM K C "tables" "Sheet.tables" a4g
 m_columns:bM K C "columns" "Sheet.columns" a8u
 m_many:bM K C "many" "Sheet.many" a8a
 m_cell:bM K C "cell" "Sheet.cell" a5Y
 m_stretch:bM K C "stretch" "Sheet.stretch" rF
 m_total:bM K C "total" "Sheet.total" a3Z
 m_make:bM K C "make" "Sheet.make" a2U
 m_board_of:bM K C "board_of" "Sheet.board_of" a3e
 m_board_with:bM K C "board_with" "Sheet.board_with" a3s
 m_board_for:bM K C "board_for" "Sheet.board_for" a3S
 m_check_cell:bM K C "check_cell" "Sheet.check_cell" a5v
 m_check_leans:bM K C "check_leans" "Sheet.check_leans" a3x
 m_check_ring:bM K C "check_ring" "Sheet.check_ring" a2V
structure wH(K:Fg)(mg:Str->Option Value)(C:Addr):Prop where
 c:mg "Rule"=some (.ref C)
 cl:cI K C
 mks:W.makesIn K C=true
 kc:W.keepIn K (.ref C)=true
 hc:W.findIn K (.ref C) "__class__"=some (some (.builtin "object.__class__"))
 n_function:cH K C "function"
 m_init:bM K C "__init__" "Rule.__init__" a30
 v_init:ClsM K C "__init__"
 m_reckon:bM K C "reckon" "Rule.reckon" vD
structure nA(K:Fg)(mg:Str->Option Value)(C:Addr):Prop where
 c:mg "Cells"=some (.ref C)
 cl:cI K C
 mks:W.makesIn K C=true
 kc:W.keepIn K (.ref C)=true
 hc:W.findIn K (.ref C) "__class__"=some (some (.builtin "object.__class__"))
 n_function:cH K C "function"
 n_names:cH K C "names"
 m_init:bM K C "__init__" "Cells.__init__" a1y
 m_leans:bM K C "leans" "Cells.leans" qP
 m_gather:bM K C "gather" "Cells.gather" sF
 m_reckon:bM K C "reckon" "Rule.reckon" vD
 isl:W.kitOne K (.ref C) (.type "list")=some false
 own:W.mroIn K C (.type "object")=some true/\W.specialIn K (.builtin "object.__class__") "__get__"=some (some (.builtin "getset_descriptor.__get__"))/\W.takesIn K (.builtin "object.__class__")=some true
structure bF(K:Fg)(mg:Str->Option Value):Prop where
 len:mg "len"=none
 isinstance:mg "isinstance"=none
 int:mg "int"=none
 bool:mg "bool"=none
 str:mg "str"=none
 all:mg "all"=none
 range:mg "range"=none
 abs:mg "abs"=none
 list:mg "list"=none
 tuple:mg "tuple"=none
 sorted:mg "sorted"=none
 reversed:mg "reversed"=none
 ValueError:mg "ValueError"=none
 g_LETTERS:∃t,mg "LETTERS"=some (.str ("abcdefghijklmnopqrstuvwxyz":Str) t)
 g_MOST_LETTERS:∃t,mg "MOST_LETTERS"=some (.int 8 t)
 g_ODD:∃p,mg "ODD"=some (.ref p)/\∀H,cF K H p [V.str ("fault":Str),V.str ("odd":Str)]
 g_MOST_ROWS:∃t,mg "MOST_ROWS"=some (.int 30 t)
 g_MOST_COLUMNS:∃t,mg "MOST_COLUMNS"=some (.int 8 t)
 g_MOST_TABLES:∃t,mg "MOST_TABLES"=some (.int 4 t)
 g_UNKNOWN:∃p,mg "UNKNOWN"=some (.ref p)/\∀H,cF K H p [V.str ("fault":Str),V.str ("unknown":Str)]
 g_MOST_NAMES:∃t,mg "MOST_NAMES"=some (.int 6 t)
 d_is_whole:dW K mg "is_whole" a1C
 d_is_number:dW K mg "is_number" a0Y
 d_is_name:dW K mg "is_name" a13
 d_is_fault:dW K mg "is_fault" a24
 d_is_value:dW K mg "is_value" a0N
 d_settled:dW K mg "settled" a2L
 d_check_size:dW K mg "check_size" a2C
 d_check_place:dW K mg "check_place" a2A
 d_check_value:dW K mg "check_value" a3k
 d_check_values:dW K mg "check_values" a1L
 d_ring_from:dW K mg "ring_from" a1q
 d_way_to:dW K mg "way_to" a2E
 d_check_name:dW K mg "check_name" a3K
 d_checked_names:dW K mg "checked_names" a1G
 d_each_once:dW K mg "each_once" a1A
 d_look_in_turn:dW K mg "look_in_turn" a2c
 d_law_mixed:dW K mg "_law_mixed" tG
 d_law_value:dW K mg "_law_value" a1n
 d_law_noted:dW K mg "_law_noted" a1h
 d_law_shown:dW K mg "_law_shown" a0J
 d_law_wanted:dW K mg "_law_wanted" a2Q
 d_law_total:dW K mg "_law_total" a1W
 d_law_looked:dW K mg "_law_looked" lV
 d_law:dW K mg "law" kL
 notabs:W.noTabs K=true
 t_Table:∃C,dZ K mg C
 t_Board:∃C,dG K mg C
 t_TableTold:∃C,vS K mg C
 t_ColumnSet:∃C,rE K mg C
 t_ValuePut:∃C,rR K mg C
 t_Trial:∃C,mV K mg C
 t_Finder:∃C,fC K mg C
 t_Sheet:∃C,gM K mg C
 t_Rule:∃C,wH K mg C
 t_Cells:∃C,nA K mg C
structure Tbs(h:Heap)(K:Fg)(mg:Str->Option Value):Prop where
 bs:∃z_law z_Finder_gathered:Addr×Addr,vW K mg "law" kL z_law/\kF K mg "Finder" "gathered" "Finder.gathered" iB z_Finder_gathered/\z_law.2≠z_Finder_gathered.2/\h.get? z_Finder_gathered.2=some (W.tabObj #[])
abbrev rK:Str:= "abcdefghijklmnopqrstuvwxyz"
def lH(c:Nat):Bool:= !(Builtin.Str.occurrences rK ⟨#[c]⟩ 0 rK.length 1).isEmpty
def lT(t:Str):Bool:=decide ((1:Int)<=t.length)&&decide ((t.length:Int)<=8)&&t.cps.toList.all lH
noncomputable def nL:PyData->Bool
 | .int _=>true
 |_=>false
def iF:PyData->Bool
 | .int i=>decide ((if i<0 then-i else i)<10^ (60:Int).toNat)
 |_=>false
def fN:PyData->Bool
 | .str t=>lT t
 |_=>false
def iQ:PyData->Bool
 | .tuple [.str z,d]=>decide (z= "fault")&&fN d
 |_=>false
def jF(d:PyData):Bool:=iF d||iQ d
def tT(d:PyData):Prop:=∀t,d= .str t->t.length<=1000
def jS(d:PyData):Prop:=∀ds,d= .tuple ds->∀e∈ds,tT e
theorem lP{t:Str}(h:t.length<=1000):tT (.str t):=fun z e=>by cases e;exact h
theorem a40(h:gO d≠ .tup):jS d:=fun z e=>by subst e;exact absurd rfl h
theorem a5P(h:∀e∈ds,tT e):jS (.tuple ds):=fun z e=>by cases e;exact h
section
inductive oT(K:Fg)(vs:List V)(H:Hp)(Q:VK)(E:XK):Prop
 |mk (x:_) (d:_):vs= [x] ->Dt K H x d->Q (.bl (nL d)) H->oT K vs H Q E
theorem a7r:bD ["thing"] ["thing"] (aO a1C):={}
theorem vC(T:bF K mg):bG P w K mg af aE 1 "is_whole" ["thing"] (oT K):=by
 refine T.d_is_whole.known a7r (fun _ _ _ _ _ _ us hl=>fL (fun _=>rfl) us hl) (fun vs H Q E h=> ?_) (fun f ah A ag s H vs Q E hr h=> ?_)
 ·obtain⟨x,a,rfl,_⟩:=h
  rfl
 ·obtain⟨x,d,rfl,hd,q⟩:=h
  refine⟨_,(aL (bL (lZ (cS kM rfl T.isinstance jD (aA (pv 0) (aA (jE T.int a58) aG))) (mR (a2p (cS kM rfl T.isinstance jD (aA (pv 0) (aA (jE T.bool a09) aG)))))))),?_⟩
  refine⟨_,rfl,x,"int",d,_,rfl,hd,a56 K _,_,rfl,?_⟩
  refine dM (fun h1=> ?_) (fun h1=> ?_)
  ·refine⟨_,rfl,x,"bool",d,_,rfl,hd,a0V K _,_,rfl,?_⟩
   have e:(!decide (gO d=Kd.bl))=nL d:=by cases d<;>simp[gO,nL]at h1|-
   show Q (.bl (!decide (gO d=Kd.bl))) H
   rw[e]
   exact q
  ·have e:false=nL d:=by cases d<;>simp[gO,nL]at h1|-
   show Q (.bl false) H
   rw[e]
   exact q
inductive kT(K:Fg)(vs:List V)(H:Hp)(Q:VK)(E:XK):Prop
 |mk (x:_) (d:_):vs= [x] ->Dt K H x d->tT d->(∀H',aH H H'->Q (.bl (fN d)) H')->kT K vs H Q E
theorem a8J:bD ["thing"] ["thing"] (aO a13):={}
theorem mQ(T:bF K mg):bG P w K mg af aE 1 "is_name" ["thing"] (kT K):=by
 refine T.d_is_name.known a8J (fun _ _ _ _ _ _ us hl=>fL (fun _=>rfl) us hl) (fun vs H Q E h=> ?_) (fun f ah A ag s H vs Q E hr h=> ?_)
 ·obtain⟨x,a,rfl,_⟩:=h
  rfl
 ·obtain⟨x,d,rfl,hd,hsh,q⟩:=h
  refine⟨_,(aK (bK (PW.pt (gZ (eI (dI (cS kM rfl T.isinstance jD (aA (pv 0) (aA (jE T.str a3d) aG))) (fun _=>rfl))) (jK (eI (a0w mB mB aY (cS gX rfl T.len gB (aA (pv 0) aG)) (pA T.g_MOST_LETTERS)))))) (aL (bL qQ)) bO)
   (aL (bL (cS (a01 rfl) rfl T.all a1g (aA (sK wD rfl rfl (by decide) (a4x (pv 0)) (fun _ _ _ _ _=>mG) (fun _ _ _ _ _=>(lQ a4c (pv 0) (a6k T.g_LETTERS) (by with_unfolding_all rfl)))) aG))))),?_⟩
  refine⟨_,rfl,x,"str",d,_,rfl,hd,a1o K _,_,rfl,?_⟩
  by_cases hk:gO d= .str
  ·obtain⟨t,rfl⟩:∃t,d= .str t:=by cases d<;>simp[gO]at hk|-
   cases hd
   have ht:t.length<=1000:=hsh t rfl
   refine bH ?_
   refine⟨_,rfl,_,_,rfl,⟨sl ht,rfl⟩,_,_,rfl,rfl,_,rfl,?_⟩
   refine dM (fun h1=> ?_) (fun h1=> ?_)
   ·refine⟨_,_,rfl,rfl,_,rfl,?_⟩
    refine dM (fun h2=> ?_) (fun h2=> ?_)
    ·have e:fN (.str t)=false:=by
      show lT t=false
      unfold lT
      have:decide ((t.length:Int)<=8)=false:=by simpa using h2
      rw[this,Bool.and_false,Bool.false_and]
     rw[<- e]
     exact q H (aH.refl H)
    ·have h8:t.cps.size<=8:=by
      have:(t.length:Int)<=8:=by simpa using h2
      show t.length<=8
      omega
     refine⟨_,rfl,t,rfl,fun D hD=> ?_⟩
     refine a53 (x:=t) (fun i ys H2=>ys=(t.cps.toList.take i).map (fun c=>V.bl (lH c))/\aH H H2) ⟨rfl,aH.new hD⟩ ?_ ?_
     ·rintro i c ys H2 hc h2D ⟨rfl,s2⟩
      have hi:i<t.cps.size:=(Array.getElem?_eq_some_iff.mp hc).1
      refine⟨_,rfl,_,_,rfl,rfl,h2D,?_,?_,s2.on hD⟩
      ·rw[List.length_map,List.length_take,Array.length_toList]
       exact dJ (by omega)
      ·rw[List.take_add_one,List.map_append,Array.getElem?_toList,hc]
       rfl
     ·rintro ys H2 h2D ⟨rfl,s2⟩
      refine⟨D,t.cps.toList.map lH,rfl,aM.of ?_,?_⟩
      ·rw[h2D,List.take_of_length_le (by simp),List.map_map]
       rfl
      ·have e:fN (.str t)=(t.cps.toList.map lH).all id:=by
        show lT t=_
        unfold lT
        have e1:decide ((1:Int)<=t.length)=true:=h1
        have e2:decide ((t.length:Int)<=8)=true:=by simpa using h2
        rw[e1,e2,Bool.true_and,Bool.true_and,List.all_map]
        rfl
       rw[<- e]
       exact q H2 s2
   ·refine⟨_,rfl,?_⟩
    refine cE ?_
    have e:fN (.str t)=false:=by
     show lT t=false
     unfold lT
     have:decide ((1:Int)<=t.length)=false:=by simpa using h1
     rw[this,Bool.false_and,Bool.false_and]
    rw[<- e]
    exact q H (aH.refl H)
  ·rw[decide_eq_false hk]
   refine cE (cE ?_)
   have e:fN d=false:=by cases d<;>simp[gO]at hk<;>rfl
   rw[<- e]
   exact q H (aH.refl H)
inductive wY(K:Fg)(vs:List V)(H:Hp)(Q:VK)(E:XK):Prop
 |mk (x:_) (d:_):vs= [x] ->Dt K H x d->Q (.bl (iF d)) H->wY K vs H Q E
theorem a8L:bD ["thing"] ["thing"] (aO a0Y):={}
theorem a80(T:bF K mg):bG P w K mg af aE 2 "is_number" ["thing"] (wY K):=by
 have G_is_whole:bG P w K mg af aE 1 "is_whole" ["thing"] (oT K):=vC T
 refine T.d_is_number.known a8L (fun _ _ _ _ _ _ us hl=>fL (fun _=>rfl) us hl) (fun vs H Q E h=> ?_) (fun f ah A ag s H vs Q E hr h=> ?_)
 ·obtain⟨x,a,rfl,_⟩:=h
  rfl
 ·obtain⟨x,d,rfl,hd,q⟩:=h
  refine⟨_,(aL (bL (lZ (bQ G_is_whole hr.mn aR (aA (pv 0) aG)) (mR (lQ a2l (cS a4Y rfl T.abs a8s (aA (pv 0) aG)) (bR xC aY aY) (cO _)))))),?_⟩
  refine⟨_,rfl,x,d,rfl,hd,_,rfl,?_⟩
  refine dM (fun h1=> ?_) (fun h1=> ?_)
  ·obtain⟨i,rfl⟩:∃i,d= .int i:=by cases d<;>simp[nL]at h1|-
   cases hd
   exact⟨_,rfl,i,rfl,_,_,rfl,rfl,⟨by decide,by decide,by decide⟩,_,_,rfl,rfl,q⟩
  ·have e:iF d=false:=by cases d<;>simp[nL]at h1<;>rfl
   show Q (.bl false) H
   rw[<- e]
   exact q
inductive rG(K:Fg)(vs:List V)(H:Hp)(Q:VK)(E:XK):Prop
 |mk (x:_) (d:_):vs= [x] ->Dt K H x d->jS d->(∀H',aH H H'->Q (.bl (iQ d)) H')->rG K vs H Q E
theorem a7e:bD ["thing"] ["thing"] (aO a24):={}
theorem a35(h:ds.length≠2):iQ (.tuple ds)=false:=by
 match ds,h with
 | [],_=>rfl
 | [a],_=>cases a<;>rfl
 | [a,b],h=>exact absurd rfl h
 |a::b::c::r,_=>cases a<;>rfl
theorem yR(T:bF K mg):bG P w K mg af aE 2 "is_fault" ["thing"] (rG K):=by
 have G_is_name:bG P w K mg af aE 1 "is_name" ["thing"] (kT K):=mQ T
 refine T.d_is_fault.known a7e (fun _ _ _ _ _ _ us hl=>fL (fun _=>rfl) us hl) (fun vs H Q E h=> ?_) (fun f ah A ag s H vs Q E hr h=> ?_)
 ·obtain⟨x,a,rfl,_⟩:=h
  rfl
 ·obtain⟨x,d,rfl,hd,hsh,q⟩:=h
  refine⟨_,(aK (bK (PW.pt (gZ (eI (dI (cS kM rfl T.isinstance jD (aA (pv 0) (aA (jE T.tuple zY) aG))) (fun _=>rfl))) (jK (cU a2j (cS gX rfl T.len gB (aA (pv 0) aG)) aY (cO _))))) (aL (bL qQ)) bO)
   (aL (bL (lZ (cS kM rfl T.isinstance jD (aA (dA fG (pv 0) aY (fun _ _=>rfl)) (aA (jE T.str a3d) aG))) (lZ (lQ mK (dA fG (pv 0) aY (fun _ _=>rfl)) dY (cO _)) (mR (bQ G_is_name hr.mn aR (aA (dA fG (pv 0) aY (fun _ _=>rfl)) aG)))))))),?_⟩
  refine⟨_,rfl,x,"tuple",d,_,rfl,hd,wO K _,_,rfl,?_⟩
  by_cases hk:gO d= .tup
  ·obtain⟨ds,rfl⟩:∃ds,d= .tuple ds:=by cases d<;>simp[gO]at hk|-
   cases hd with
   | @tup a xs _ hq hall=>
    refine bH ?_
    refine⟨_,rfl,_,_,rfl,.inr ⟨_,hq,rfl⟩,rfl,_,rfl,?_⟩
    have hl:=hall.length
    refine dM (fun h1=> ?_) (fun h1=> ?_)
    ·have h1':xs.length≠2:=by
      intro z
      rw[z]at h1
      exact absurd h1 (by decide)
     have e:=a35 (ds:=ds) (by rw[<- hl];exact h1')
     rw[<- e]
     exact q H (aH.refl H)
    ·have h1':xs.length=2:=by
      have z:¬(!decide (V.int (xs.length:Int)=V.int 2))=true:=h1
      have z2:(xs.length:Int)=2:=by simpa using z
      omega
     match xs,ds,hall,h1',hl with
     | [y,z],_,.cons (d:=d1) h2 (.cons (d:=d2) h3 .nil),_,_=>
      have a0:cQ [y,z] 0=some y:=rfl
      have a1:cQ [y,z] 1=some z:=rfl
      refine⟨_,rfl,_,_,_,_,rfl,rfl,hq,a0,y,"str",d1,_,rfl,h2,a1o K _,_,rfl,?_⟩
      refine dM (fun h4=> ?_) (fun h4=> ?_)
      ·obtain⟨t,rfl⟩:∃t,d1= .str t:=by cases d1<;>simp[gO]at h4|-
       cases h2
       refine⟨_,rfl,_,_,_,_,rfl,rfl,hq,a0,rfl,_,rfl,?_⟩
       refine dM (fun h5=> ?_) (fun h5=> ?_)
       ·have h5':t= "fault":=by
         have z5:V.str t=V.str "fault":=by simpa using h5
         exact V.str.inj z5
        refine⟨_,rfl,_,_,_,_,rfl,rfl,hq,a1,z,d2,rfl,h3,hsh _ rfl _ (List.mem_cons_of_mem _ List.mem_cons_self),fun H' s'=> ?_⟩
        ·have e:iQ (.tuple [.str t,d2])=fN d2:=by
          show(decide (t= "fault")&&fN d2)=fN d2
          rw[decide_eq_true h5',Bool.true_and]
         rw[<- e]
         exact q H' s'
       ·have h5':t≠ "fault":=fun z5=>h5 (by rw[z5];rfl)
        have e:iQ (.tuple [.str t,d2])=false:=by
         show(decide (t= "fault")&&fN d2)=false
         rw[decide_eq_false h5',Bool.false_and]
        show Q (.bl false) H
        rw[<- e]
        exact q H (aH.refl H)
      ·have e:iQ (.tuple [d1,d2])=false:=by cases d1<;>simp[gO]at h4<;>rfl
       show Q (.bl false) H
       rw[<- e]
       exact q H (aH.refl H)
  ·rw[decide_eq_false hk]
   refine cE (cE ?_)
   have e:iQ d=false:=by cases d<;>simp[gO]at hk<;>rfl
   rw[<- e]
   exact q H (aH.refl H)
inductive rH(K:Fg)(vs:List V)(H:Hp)(Q:VK)(E:XK):Prop
 |mk (x:_) (d:_):vs= [x] ->Dt K H x d->jS d->(∀H',aH H H'->Q (.bl (jF d)) H')->rH K vs H Q E
theorem a81:bD ["thing"] ["thing"] (aO a0N):={}
theorem xO(T:bF K mg):bG P w K mg af aE 3 "is_value" ["thing"] (rH K):=by
 have G_is_number:bG P w K mg af aE 2 "is_number" ["thing"] (wY K):=a80 T
 have G_is_fault:bG P w K mg af aE 2 "is_fault" ["thing"] (rG K):=yR T
 refine T.d_is_value.known a81 (fun _ _ _ _ _ _ us hl=>fL (fun _=>rfl) us hl) (fun vs H Q E h=> ?_) (fun f ah A ag s H vs Q E hr h=> ?_)
 ·obtain⟨x,a,rfl,_⟩:=h
  rfl
 ·obtain⟨x,d,rfl,hd,hsh,q⟩:=h
  refine⟨_,(aL (bL (a6e (bQ G_is_number hr.mn aR (aA (pv 0) aG)) (mR (bQ G_is_fault hr.mn aR (aA (pv 0) aG)))))),?_⟩
  refine⟨_,rfl,x,d,rfl,hd,_,rfl,?_⟩
  refine dM (fun h1=> ?_) (fun h1=> ?_)
  ·have e:jF d=true:=by unfold jF;rw[h1,Bool.true_or]
   show Q (.bl true) H
   rw[<- e]
   exact q H (aH.refl H)
  ·refine⟨_,rfl,x,d,rfl,hd,hsh,fun H' s'=> ?_⟩
   have e:jF d=iQ d:=by
    unfold jF
    have:iF d=false:=by simpa using h1
    rw[this,Bool.false_or]
   rw[<- e]
   exact q H' s'
end
def Nl(t:Str):Prop:=1<=t.length/\t.length<=8/\∀c∈t.cps.toList,c∈rK.cps.toList
theorem Nl.name{t:Str}(h:Nl t):lT t=true:=by
 unfold lT
 have a1:decide ((1:Int)<=t.length)=true:=by rw[decide_eq_true_eq];have:=h.1;omega
 have a2:decide ((t.length:Int)<=8)=true:=by rw[decide_eq_true_eq];have:=h.2.1;omega
 have a3:t.cps.toList.all lH=true:=by
  rw[List.all_eq_true]
  intro c hc
  have:∀c∈rK.cps.toList,lH c=true:=by decide+kernel
  exact this c (h.2.2 c hc)
 rw[a1,a2,a3]
 rfl
theorem Nl.lay{z:Str}(h:Nl z):PyData.canLay0 (.str z)=true:=by
 obtain⟨⟨l⟩⟩:=z
 have:∀c∈rK.cps.toList,c<128:=by decide+kernel
 exact a8O fun c hc=>this c (h.2.2 c hc)
theorem yZ{p:Str×Str}(h1:Nl p.1)(h2:Nl p.2):(iG p).canLay0=true:=by
 show PyData.canLayAll0 [.str p.1,.str p.2]=true
 show(PyData.canLay0 (.str p.1)&&(PyData.canLay0 (.str p.2)&&true))=true
 rw[h1.lay,h2.lay]
 rfl
theorem a00:∀{ps:List (Str×Str)},(∀p∈ps,Nl p.1/\Nl p.2)->(PyData.list (ps.map iG)).canLay0=true
 | [],_=>rfl
 |p::ps,h=>by
  show((iG p).canLay0&&PyData.canLayAll0 (ps.map iG))=true
  have e:PyData.canLayAll0 (ps.map iG)=true:=a00 fun q hq=>h q (List.mem_cons_of_mem _ hq)
  rw[e,yZ (h p List.mem_cons_self).1 (h p List.mem_cons_self).2]
  rfl
section
inductive a0p(vs:List V)(H:Hp)(Q:VK)(E:XK):Prop
 |mk (z:Str):vs= [.str z] ->Nl z->(∀H',aH H H'->Q .non H')->a0p vs H Q E
theorem a7H:bD ["name"] ["name"] (aO a3K):={}
theorem a7U(T:bF K mg):bG P w K mg af aE 2 "check_name" ["name"] a0p:=by
 have G_is_name:bG P w K mg af aE 1 "is_name" ["thing"] (kT K):=mQ T
 refine T.d_check_name.known a7H (fun _ _ _ _ _ _ us hl=>fL (fun _=>rfl) us hl) (fun vs H Q E h=> ?_) (fun f ah A ag s H vs Q E hr h=> ?_)
 ·obtain⟨z,rfl,_⟩:=h
  rfl
 ·obtain⟨z,rfl,hz,q⟩:=h
  refine⟨_,(aL (bK (eI (dI (bQ G_is_name hr.mn aR (aA (pv 0) aG)) (fun _=>rfl))) (aL cJ) bO)),?_⟩
  have h8:=hz.2.1
  refine⟨_,rfl,_,_,rfl,.str z,lP (by omega),fun H' s'=>⟨_,rfl,?_⟩⟩
  rw[show fN (.str z)=true from hz.name]
  exact bH (q H' s')
inductive xS(K:Fg)(vs:List V)(H:Hp)(Q:VK)(E:XK):Prop
 |mk (a:Addr) (zs:List Str):vs= [.ref a] ->aM K H a (zs.map V.str)->zs.length<=6->(∀z∈zs,Nl z)->(∀H' l,aH H H'->H l=none->H' l=some (.lst (zs.map V.str))->Q (.ref l) H')->xS K vs H Q E
theorem tW{K:Fg}{H:Hp}:∀zs:List Str,dN K H (zs.map V.str) (zs.map PyData.str)
 | []=> .nil
 |z::zs=> .cons (.str z) (tW zs)
theorem a0I:bD ["names","name"] ["names"] (aO a1G):={}
theorem a7i(T:bF K mg):bG P w K mg af aE 3 "checked_names" ["names"] (xS K):=by
 have G_check_name:bG P w K mg af aE 2 "check_name" ["name"] a0p:=a7U T
 refine T.d_checked_names.known a0I (fun _ _ _ _ _ _ us hl=>fL (fun _=>rfl) us hl) (fun vs H Q E h=> ?_) (fun f ah A ag s H vs Q E hr h=> ?_)
 ·obtain⟨a,zs,rfl,_⟩:=h
  rfl
 ·obtain⟨a,zs,rfl,hq,h6,hz,q⟩:=h
  refine⟨_,(aK (bK (PW.pt (gZ (eI (dI (cS kM rfl T.isinstance jD (aA (pv 0) (aA (jE T.list jL) aG))) (fun _=>rfl))) (jK (cU vZ (cS gX rfl T.len gB (aA (pv 0) aG)) (pA T.g_MOST_NAMES) (cO _))))) (aL cJ) bO)
   (aK (kO PassesOwn.never rfl (kR (pv 0)) (gQ (i:=1) a0I.nd rfl (Or.inl rfl)) (aL (cG (bQ G_check_name hr.mn aR (aA (pv 1) aG)))))
   (aL (bL (nK rS rfl T.list jL (aA (pv 0) aG)))))),?_⟩
  refine⟨_,rfl,_,"list",_,_,rfl,Dt.lst hq (tW zs),sW K _,_,rfl,bH ?_⟩
  refine⟨_,rfl,_,_,rfl,.inl ⟨_,hq,rfl⟩,_,_,rfl,rfl,_,rfl,?_⟩
  rw[List.length_map,decide_eq_false (by omega)]
  refine bH ?_
  refine⟨_,rfl,a,rfl,⟨_,hq⟩,?_⟩
  refine pC (K:=K) (a:=a) (xs:=zs.map V.str) (fun i σ H2=>∃o,σ= [some (.ref a),o] /\aH H H2) ⟨_,rfl,aH.refl H⟩ (fun i σ H2 _ ⟨_,_,s2⟩=>s2.seq hq) ?_ ?_
  ·rintro i x σ H2 hx ⟨o,rfl,s2⟩
   rw[List.getElem?_map]at hx
   cases e:zs[i]? with
   |none=>rw[e]at hx;cases hx
   |some z=>
    rw[e]at hx
    cases hx
    exact⟨_,rfl,z,rfl,hz z (List.mem_of_getElem? e),fun H3 s3=>⟨_,rfl,s2.trans s3⟩⟩
  ·rintro σ H2 ⟨o,rfl,s2⟩
   refine⟨_,rfl,a,_,rfl,.inl (s2.seq hq),fun l hl=> ?_⟩
   have hl':H l=none:=by
    cases e:H l with
    |none=>rfl
    |some u=>rw[s2 _ _ e]at hl;cases hl
   exact q _ l (s2.trans (aH.new hl)) hl' aJ
theorem xL:bD ["spots","found","spot"] ["spots"] (aO a1A):={}
end
def kQ(r:Addr)(n:Int)(d:Addr):List (Str×V):=[("row_numbers",V.ref r),("fresh_number",V.int n),("kept",V.ref d)]
theorem a1Q(r:Addr)(n:Int)(d:Addr):(kQ r n d).lookup ("row_numbers":Str)=some (.ref r):=rfl
theorem flds_fresh(r:Addr)(n:Int)(d:Addr):(kQ r n d).lookup ("fresh_number":Str)=some (.int n):=by
 show(match (("fresh_number":Str)==("row_numbers":Str))with|true=>some (V.ref r)|false=>_)=_
 rw[show (("fresh_number":Str)==("row_numbers":Str))=false by decide+kernel]
 rfl
theorem pR(r:Addr)(n:Int)(d:Addr):(kQ r n d).lookup ("kept":Str)=some (.ref d):=by
 show(match (("kept":Str)==("row_numbers":Str))with|true=>some (V.ref r)|false=>(match (("kept":Str)==("fresh_number":Str))with|true=>some (V.int n)|false=>_))=_
 rw[show (("kept":Str)==("row_numbers":Str))=false by decide+kernel,show(("kept":Str)==("fresh_number":Str))=false by decide+kernel]
 rfl
theorem gU{r:Addr}{n:Int}{d:Addr}(h:(m==("row_numbers":Str)||m==("fresh_number":Str)||m==("kept":Str))=false:=by decide+kernel):(kQ r n d).lookup m=none:=by
 simp only[Bool.or_eq_false_iff]at h
 obtain⟨⟨h1,h2⟩,h3⟩:=h
 show(match (m==("row_numbers":Str))with|true=>some (V.ref r)|false=>(match (m==("fresh_number":Str))with|true=>some (V.int n)|false=>(match (m==("kept":Str))with|true=>some (V.ref d)|false=>none)))=none
 rw[h1,h2,h3]
theorem a8y(r:Addr)(n:Int)(d:Addr):aN "kept" (.ref d) (aN "fresh_number" (.int n) (aN "row_numbers" (.ref r) []))=kQ r n d:=by
 show aN "kept" (.ref d) (if("row_numbers":Str)= "fresh_number" then _ else _)=_
 rw[if_neg (by decide+kernel)]
 show(if("row_numbers":Str)= "kept" then _ else _::(if("fresh_number":Str)= "kept" then _ else _))=_
 rw[if_neg (by decide+kernel),if_neg (by decide+kernel)]
 rfl
structure iV(C:Addr)(H:Hp)(p r d:Addr)(xs:List V)(n:Int)(kvs:List (aB×V)):Prop where
 at_:∃dx,H p=some (.ins C dx (kQ r n d))
 rows:H r=some (.lst xs)
 kept:H d=some (.dK kvs)
theorem iV.same{p r d:Addr}{n:Int}(T:iV C H p r d xs n kvs)(s:aH H H'):iV C H' p r d xs n kvs:=by
 obtain⟨dx,h⟩:=T.at_
 exact⟨⟨dx,s _ _ h⟩,s _ _ T.rows,s _ _ T.kept⟩
def Pv(K:Fg)(H:Hp)(v:V)(d:PyData):Prop:=(∃i,v= .int i/\d= .int i/\iF (.int i)=true)\/ ∃a y,v= .ref a/\H a=some (.tup [.str ("fault":Str),.str y])/\d= .tuple [.str "fault",.str y] /\Nl y
def Vd(d:PyData):Prop:=(∃i,d= .int i/\iF (.int i)=true)\/ ∃y,d= .tuple [.str "fault",.str y] /\Nl y
theorem Pv.dt{v:V}(h:Pv K H v d):Dt K H v d:=by
 rcases h with⟨i,rfl,rfl,_⟩|⟨a,y,rfl,h,rfl,_⟩
 ·exact .int i
 ·exact .tup (cF.of h) (.cons (.str _) (.cons (.str _) .nil))
theorem Pv.vd{v:V}(h:Pv K H v d):Vd d:=by
 rcases h with⟨i,rfl,rfl,hb⟩|⟨a,y,rfl,h,rfl,hy⟩
 ·exact .inl ⟨i,rfl,hb⟩
 ·exact .inr ⟨y,rfl,hy⟩
def bS(H H':Hp):Prop:=∀a xs,H a=some (.tup xs)->H' a=some (.tup xs)
theorem bS.of(s:aH H H'):bS H H':=fun a xs e=>s _ _ e
theorem bS.upd{o':HO}(h:H l=some o)(n:∀xs,o≠ .tup xs):bS H (L2.upd H l o'):=fun a xs e=>by
 rw[aI (fun z=>by rw[z,h]at e;exact n _ (Option.some.inj e))]
 exact e
theorem Pv.keep{v:V}(s:bS H H')(h:Pv K H v d):Pv K H' v d:=by
 rcases h with h|⟨a,y,rfl,h,rfl,hy⟩
 ·exact .inl h
 ·exact .inr ⟨a,y,rfl,s _ _ h,rfl,hy⟩
theorem Pv.same{v:V}(h:Pv K H v d)(s:aH H H'):Pv K H' v d:=h.keep (bS.of s)
theorem Vd.short(h:Vd d):jS d/\jF d=true:=by
 rcases h with⟨i,rfl,hb⟩|⟨y,rfl,hy⟩
 ·refine⟨a40 (by intro z;cases z),?_⟩
  show(iF (.int i)||iQ (.int i))=true
  rw[hb];rfl
 ·have l8:=hy.2.1
  refine⟨a5P (by
   intro e he
   simp only[List.mem_cons,List.not_mem_nil,or_false]at he
   rcases he with rfl|rfl
   ·exact lP (by decide)
   ·exact lP (by omega)),?_⟩
  show(iF _||iQ (.tuple [.str "fault",.str y]))=true
  rw[show iQ (.tuple [.str "fault",.str y])=true by
   show(decide (("fault":Str)= "fault")&&fN (.str y))=true
   rw[decide_eq_true rfl,Bool.true_and]
   exact Nl.name hy,Bool.or_true]
theorem Vd.lay(h:Vd d):d.canLay0=true/\d.depth<=62:=by
 rcases h with⟨i,rfl,hb⟩|⟨z,rfl,hz⟩
 ·exact⟨rfl,(show 0<=62 by decide)⟩
 ·refine⟨?_,(show 1<=62 by decide)⟩
  have lz:=Nl.lay hz
  have l1:PyData.canLay0 (.str ("fault":Str))=true:=by decide+kernel
  simp only[PyData.canLay0,PyData.canLayAll0,Bool.and_true,Bool.and_eq_true]at l1 lz|-
  exact⟨l1,lz⟩
def cV(K:Fg)(H:Hp):List V->List PyData->Prop:=Paired (Pv K H)
theorem cV.keep{K:Fg}{H H':Hp}(s:bS H H'):∀{xs:List V} {ds:List PyData},cV K H xs ds->cV K H' xs ds
 |_,_,.nil=> .nil
 |_,_,.cons h t=> .cons (h.keep s) (cV.keep s t)
theorem cV.dt{K:Fg}{H:Hp}:∀{xs:List V} {ds:List PyData},cV K H xs ds->dN K H xs ds
 |_,_,.nil=> .nil
 |_,_,.cons h t=> .cons h.dt (cV.dt t)
theorem cV.vd{K:Fg}{H:Hp}:∀{xs:List V} {ds:List PyData},cV K H xs ds->∀d∈ds,Vd d
 |_,_,.nil,_,h=>by cases h
 |_,_,.cons h t,d,hd=>by
  rcases List.mem_cons.mp hd with rfl|hd
  ·exact h.vd
  ·exact cV.vd t d hd
section
inductive tJ(vs:List V)(H:Hp)(Q:VK)(E:XK):Prop
 |mk (m:Nat):vs= [.int (m:Int)] ->m<=30->Q .non H->tJ vs H Q E
theorem a6p:bD ["many"] ["many"] (aO a2C):={}
theorem a32(T:bF K mg):bG P w K mg af aE 2 "check_size" ["many"] tJ:=by
 have G_is_whole:bG P w K mg af aE 1 "is_whole" ["thing"] (oT K):=vC T
 refine T.d_check_size.known a6p (fun _ _ _ _ _ _ us hl=>fL (fun _=>rfl) us hl) (fun vs H Q E h=> ?_) (fun f ah A ag s H vs Q E hr h=> ?_)
 ·obtain⟨m,rfl,_⟩:=h
  rfl
 ·obtain⟨m,rfl,hm,q⟩:=h
  refine⟨_,(aL (bK (PW.pt (gZ (eI (dI (bQ G_is_whole hr.mn aR (aA (pv 0) aG)) (fun _=>rfl))) (jK (eI (a0w mB mB aY (pv 0) (pA T.g_MOST_ROWS)))))) (aL cJ) bO)),?_⟩
  refine⟨_,rfl,_,.int (m:Int),rfl,.int _,_,rfl,bH ?_⟩
  refine⟨_,rfl,_,_,rfl,rfl,_,rfl,?_⟩
  rw[decide_eq_true (show(0:Int)<=(m:Int)by omega)]
  refine cE ⟨_,_,rfl,rfl,_,rfl,?_⟩
  rw[decide_eq_true (show(m:Int)<=30 by omega)]
  exact bH q
inductive rX(vs:List V)(H:Hp)(Q:VK)(E:XK):Prop
 |mk (p m:Nat):vs= [.int (p:Int),.int (m:Int)] ->p<m->Q .non H->rX vs H Q E
theorem a45:bD ["place","places"] ["place","places"] (aO a2A):={}
theorem zJ(T:bF K mg):bG P w K mg af aE 2 "check_place" ["place","places"] rX:=by
 have G_is_whole:bG P w K mg af aE 1 "is_whole" ["thing"] (oT K):=vC T
 refine T.d_check_place.known a45 (fun _ _ _ _ _ _ us hl=>eC (fun _ _=>rfl) us hl) (fun vs H Q E h=> ?_) (fun f ah A ag s H vs Q E hr h=> ?_)
 ·obtain⟨p,m,rfl,_⟩:=h
  rfl
 ·obtain⟨p,m,rfl,hm,q⟩:=h
  refine⟨_,(aL (bK (PW.pt (gZ (eI (dI (bQ G_is_whole hr.mn aR (aA (pv 0) aG)) (fun _=>rfl))) (jK (eI (a0w mB a2l aY (pv 0) (pv 1)))))) (aL cJ) bO)),?_⟩
  refine⟨_,rfl,_,.int (p:Int),rfl,.int _,_,rfl,bH ?_⟩
  refine⟨_,rfl,_,_,rfl,rfl,_,rfl,?_⟩
  rw[decide_eq_true (show(0:Int)<=(p:Int)by omega)]
  refine cE ⟨_,rfl,_,_,rfl,rfl,_,rfl,?_⟩
  rw[decide_eq_true (show(p:Int)<(m:Int)by omega)]
  exact bH q
inductive yG(K:Fg)(vs:List V)(H:Hp)(Q:VK)(E:XK):Prop
 |mk (v:_) (d:_):vs= [v] ->Pv K H v d->(∀H',aH H H'->Q .non H')->yG K vs H Q E
theorem a5k:bD ["value"] ["value"] (aO a3k):={}
theorem a5E(T:bF K mg):bG P w K mg af aE 4 "check_value" ["value"] (yG K):=by
 have G_is_value:bG P w K mg af aE 3 "is_value" ["thing"] (rH K):=xO T
 refine T.d_check_value.known a5k (fun _ _ _ _ _ _ us hl=>fL (fun _=>rfl) us hl) (fun vs H Q E h=> ?_) (fun f ah A ag s H vs Q E hr h=> ?_)
 ·obtain⟨v,d,rfl,_⟩:=h
  rfl
 ·obtain⟨v,d,rfl,hv,q⟩:=h
  refine⟨_,(aL (bK (eI (dI (bQ G_is_value hr.mn aR (aA (pv 0) aG)) (fun _=>rfl))) (aL cJ) bO)),?_⟩
  refine⟨_,rfl,v,d,rfl,hv.dt,hv.vd.short.1,fun H' s'=>⟨_,rfl,?_⟩⟩
  rw[hv.vd.short.2]
  exact bH (q _ s')
inductive sO(K:Fg)(vs:List V)(H:Hp)(Q:VK)(E:XK):Prop
 |mk (a:Addr) (xs:List V) (ds:List PyData):vs= [.ref a,.int (xs.length:Int)] ->aM K H a xs->cV K H xs ds->xs.length<=1000->(∀H',aH H H'->Q .non H')->sO K vs H Q E
theorem a8p:bD ["values","many"] ["values","many"] (aO a1L):={}
theorem a04(T:bF K mg):bG P w K mg af aE 4 "check_values" ["values","many"] (sO K):=by
 have G_is_value:bG P w K mg af aE 3 "is_value" ["thing"] (rH K):=xO T
 refine T.d_check_values.known a8p (fun _ _ _ _ _ _ us hl=>eC (fun _ _=>rfl) us hl) (fun vs H Q E h=> ?_) (fun f ah A ag s H vs Q E hr h=> ?_)
 ·obtain⟨a,xs,ds,rfl,_⟩:=h
  rfl
 ·obtain⟨a,xs,ds,rfl,hq,hp,l1000,q⟩:=h
  have hl:xs.length=ds.length:=Paired.length hp
  refine⟨_,(aL (bK (PW.pt (gZ (eI (dI (cS kM rfl T.isinstance jD (aA (pv 0) (aA (jE T.list jL) aG))) (fun _=>rfl))) (gZ (cU a2j (cS gX rfl T.len gB (aA (pv 0) aG)) (pv 1) (cO _)) (jK (eI (dI (cS (a01 rfl) rfl T.all a1g (aA (sK wD rfl rfl (by decide) (kR (pv 0)) (fun _ _ _ _ _=>mG) (fun _ _ _ _ _=>(bQ G_is_value hr.mn aR (aA (pv 0) aG)))) aG)) (fun _=>rfl))))))) (aL cJ) bO)),?_⟩
  refine⟨_,rfl,_,"list",.list ds,_,rfl,.lst hq hp.dt,sW K _,_,rfl,bH ?_⟩
  refine⟨_,rfl,_,_,rfl,.inl ⟨_,hq,rfl⟩,_,rfl,rfl,_,rfl,?_⟩
  rw[decide_eq_true rfl]
  refine bH ⟨_,rfl,a,rfl,⟨_,hq⟩,fun D hD=> ?_⟩
  refine uL (K:=K) (a:=a) (xs:=xs) (fun i ys H2=>ys=(List.replicate i (V.bl true))/\aH H H2) ⟨rfl,aH.new hD⟩ (fun i ys H2 _ ⟨_,s2⟩=>s2.seq hq) ?_ ?_
  ·rintro i v ys H2 hv h2D ⟨rfl,s2⟩
   obtain⟨e,he,hde⟩:=hp.dt.get hv
   have ve:=hp.vd e (List.mem_of_getElem? he)
   have hi:i<xs.length:=(List.getElem?_eq_some_iff.mp hv).1
   refine⟨_,rfl,v,e,rfl,hde.same s2,ve.short.1,fun H3 s3=>⟨s3 _ _ h2D,?_,?_,?_⟩⟩
   ·rw[List.length_replicate]
    exact dJ (by omega)
   ·rw[ve.short.2,List.replicate_succ']
   ·exact(s2.trans s3).on hD
  ·rintro ys H2 h2D ⟨rfl,s2⟩
   refine⟨D,List.replicate xs.length true,rfl,aM.of (by rw[h2D,List.map_replicate]),_,rfl,?_⟩
   rw[show (List.replicate xs.length true).all id=true by rw[List.all_eq_true];intro b hb;exact(List.mem_replicate.mp hb).2]
   exact bH (q _ s2)
inductive yK(K:Fg)(C:Addr)(vs:List V)(H:Hp)(Q:VK)(E:XK):Prop
 |mk (p dx:Addr) (m:Nat):vs= [.ref p,.int (m:Int)] ->H p=some (.ins C dx [])->m<=30->(∀H' r e,iV C H' p r e (fP 0 m) (m:Int) [] ->H r=none->H e=none->r≠e->(∀b o,H b=some o->b≠p->H' b=some o)->Q .non H')->yK K C vs H Q E
theorem a8i:bD ["self","many"] ["self","many"] (aO a2T):={}
theorem a7V(T:bF K mg)(Y:dZ K mg C):eU P w K mg af aE 3 C ["self","many"] (yK K C):=by
 have G_check_size:bG P w K mg af aE 2 "check_size" ["many"] tJ:=a32 T
 refine(Y.m_init.known a8i (fun _ _ _ _ _ _ us hl=>eC (fun _ _=>rfl) us hl) (fun vs H Q E h=> ?_) (fun f ah A ag s H vs Q E hr h=> ?_)).init Y.mks Y.kc
 ·obtain⟨p,dx,m,rfl,_⟩:=h
  rfl
 ·obtain⟨p,dx,m,rfl,hp,hm,q1⟩:=h
  refine⟨_,(aK (cG (bQ G_check_size hr.mn aR (aA (pv 1) aG)))
   (aK (cY (pv 0) (nK (a8n rfl) rfl T.list jL (aA (nK a5H rfl T.range a5L (aA (pv 1) aG)) aG)) rfl)
   (aK (cY (pv 0) (cS gX rfl T.len gB (aA (aW (pv 0) rfl) aG)) rfl)
   (aL (cY (pv 0) rN rfl))))),?_⟩
  refine⟨_,rfl,m,rfl,hm,?_⟩
  refine⟨_,rfl,(m:Int),rfl,fun g hg=>⟨g,0,(m:Int),rfl,aJ,by omega,by omega,by omega,by omega,by omega,fun r hr0=> ?_⟩⟩
  have ngp:p≠g:=bE hp hg
  have hgr:r≠g:=fun z=>by rw[z,aJ]at hr0;cases hr0
  have hr':H r=none:=by rw[aI hgr]at hr0;exact hr0
  have npr:p≠r:=bE hp hr'
  rw[Int.sub_zero,Int.toNat_natCast]
  refine⟨_,rfl,p,C,dx,[],rfl,(by rw[aI npr,aI ngp];exact hp),Y.cl,Y.n_row_numbers,(by show 0<1000;decide),?_⟩
  refine⟨_,rfl,p,C,dx,_,_,rfl,aJ,Y.cl,Y.n_row_numbers,rfl,_,_,rfl,.inl ⟨_,aM.of (by rw[aI npr.symm,aJ]),rfl⟩,?_⟩
  refine⟨_,rfl,p,C,dx,_,rfl,aJ,Y.cl,Y.n_fresh_number,(by show 1<1000;decide),?_⟩
  intro e he
  have npe:p≠e:=fun z=>by rw[<- z,aJ]at he;cases he
  have nre:r≠e:=fun z=>by rw[<- z,aI npr.symm,aI npr.symm,aJ]at he;cases he
  have nge:g≠e:=fun z=>by rw[<- z,aI ngp.symm,aI ngp.symm,aI hgr.symm,aJ]at he;cases he
  have he':H e=none:=by rw[aI npe.symm,aI npe.symm,aI nre.symm,aI nge.symm]at he;exact he
  refine⟨_,rfl,p,C,dx,_,rfl,(by rw[aI npe];exact aJ),Y.cl,Y.n_kept,(by show(aN "fresh_number" _ (aN "row_numbers" _ [])).length<1000;show(if("row_numbers":Str)= "fresh_number" then _ else _:List (Str×V)).length<1000;rw[if_neg (by decide+kernel)];show 2<1000;decide),?_⟩
  refine q1 _ r e ⟨⟨dx,?_⟩,?_,?_⟩ hr' he' nre fun b o hb hbp=> ?_
  ·rw[aJ]
   refine congrArg (fun l=>some (HO.ins C dx l)) ?_
   have:=a8y r (fP 0 m).length e
   rw[nN]at this|-
   exact this
  ·rw[aI npr.symm,aI nre,aI npr.symm,aI npr.symm,aJ]
  ·rw[aI npe.symm,aJ]
  ·rw[aI hbp,aI (bE hb he'),aI hbp,aI hbp,aI (bE hb hr'),aI (bE hb hg)]
   exact hb
inductive lF(C:Addr)(vs:List V)(H:Hp)(Q:VK)(E:XK):Prop
 |mk (p:_) (r:_) (d:_) (xs:_) (n:_) (kvs:_):vs= [.ref p] ->iV C H p r d xs n kvs->Q (.int xs.length) H->lF C vs H Q E
theorem a7E:bD ["self"] ["self"] (aO a2z):={}
theorem mP(T:bF K mg)(Y:dZ K mg C):aS P w K mg af aE 1 C "many" ["self"] (lF C):=by
 refine Y.m_many.known a7E (fun _ _ _ _ _ _ us hl=>fL (fun _=>rfl) us hl) (fun vs H Q E h=> ?_) (fun f ah A ag s H vs Q E hr h=> ?_)
 ·obtain⟨p,r,d,xs,n,kvs,rfl,_⟩:=h
  rfl
 ·obtain⟨p,r,d,xs,n,kvs,rfl,⟨⟨dx,hp⟩,hr',hd⟩,q⟩:=h
  refine⟨_,(aL (bL (cS gX rfl T.len gB (aA (aW (pv 0) rfl) aG)))),?_⟩
  exact⟨_,rfl,p,C,dx,_,_,rfl,hp,Y.cl,Y.n_row_numbers,a1Q _ _ _,_,_,rfl,.inl ⟨_,aM.of hr',rfl⟩,q⟩
inductive uF(C:Addr)(vs:List V)(H:Hp)(Q:VK)(E:XK):Prop
 |mk (p:_) (r:_) (d:_) (xs:_) (n:_) (kvs:_) (t:_) (v:_):vs= [.ref p,.str t] ->iV C H p r d xs n kvs->Nl t->aF kvs (.inr t:aB)=some v->(∀H',aH H H'->Q .non H')->uF C vs H Q E
theorem a6F:bD ["self","column"] ["self","column"] (aO a23):={}
theorem a2d(T:bF K mg)(Y:dZ K mg C):aS P w K mg af aE 2 C "check_column" ["self","column"] (uF C):=by
 have G_is_name:bG P w K mg af aE 1 "is_name" ["thing"] (kT K):=mQ T
 refine Y.m_check_column.known a6F (fun _ _ _ _ _ _ us hl=>eC (fun _ _=>rfl) us hl) (fun vs H Q E h=> ?_) (fun f ah A ag s H vs Q E hr h=> ?_)
 ·obtain⟨p,r,d,xs,n,kvs,t,v,rfl,_⟩:=h
  rfl
 ·obtain⟨p,r,d,xs,n,kvs,t,v,rfl,TA,ht,hv,q⟩:=h
  refine⟨_,(aL (bK (PW.pt (gZ (eI (dI (bQ G_is_name hr.mn aR (aA (pv 1) aG)) (fun _=>rfl))) (jK (iR (lY (dQ hr) (pv 1) (aW (pv 0) rfl)))))) (aL cJ) bO)),?_⟩
  have h8:=ht.2.1
  refine⟨_,rfl,_,.str t,rfl,.str t,lP (by omega),fun H' s'=>⟨_,rfl,?_⟩⟩
  rw[show fN (.str t)=true from ht.name]
  obtain⟨⟨dx,h1⟩,_,h3⟩:=TA.same s'
  refine bH ⟨_,rfl,_,rfl,p,C,dx,_,_,rfl,h1,Y.cl,Y.n_kept,pR _ _ _,d,_,rfl,bW.k (k:=Sum.inr t) h3,_,rfl,?_⟩
  rw[hv]
  exact bH (q _ s')
inductive tK(C:Addr)(vs:List V)(H:Hp)(Q:VK)(E:XK):Prop
 |mk (p:_) (r:_) (d:_) (xs:_) (n:_) (kvs:_) (t:_) (l:_) (ys:_) (i:Nat) (v:V):vs= [.ref p,.str t,.int (i:Int)] ->iV C H p r d xs n kvs->Nl t->aF kvs (.inr t:aB)=some (.ref l)->H l=some (.lst ys)->i<xs.length->cQ ys (i:Int)=some v->(∀H',aH H H'->Q v H')->tK C vs H Q E
theorem a82:bD ["self","column","place"] ["self","column","place"] (aO a05):={}
theorem a1a(T:bF K mg)(Y:dZ K mg C):aS P w K mg af aE 3 C "at" ["self","column","place"] (tK C):=by
 have G_check_column:aS P w K mg af aE 2 C "check_column" ["self","column"] (uF C):=a2d T Y
 have G_check_place:bG P w K mg af aE 2 "check_place" ["place","places"] rX:=zJ T
 have G_many:aS P w K mg af aE 1 C "many" ["self"] (lF C):=mP T Y
 refine Y.m_at.known a82 (fun _ _ _ _ _ _ us hl=>iN (fun _ _ _=>rfl) us hl) (fun vs H Q E h=> ?_) (fun f ah A ag s H vs Q E hr h=> ?_)
 ·obtain⟨p,r,d,xs,n,kvs,t,l,ys,i,v,rfl,_⟩:=h
  rfl
 ·obtain⟨p,r,d,xs,n,kvs,t,l,ys,i,v,rfl,TA,ht,hv,hl,hi,ha,q⟩:=h
  refine⟨_,(aK (cG (cB (pv 0) Y.cl G_check_column hr.mn aR (aA (pv 1) aG)))
   (aK (cG (bQ G_check_place hr.mn aR (aA (pv 2) (aA (lM (pv 0) Y.cl G_many hr.mn aR) aG))))
   (aL (bL (dA iY (fQ (dQ hr) (aW (pv 0) rfl) (pv 1) (fun _ _=>rfl)) (pv 2) (fun _ _=>rfl)))))),?_⟩
  obtain⟨⟨dx,h1⟩,h2,h3⟩:=id TA
  refine⟨_,rfl,p,dx,_,rfl,h1,gU,_,rfl,p,r,d,xs,n,kvs,t,_,rfl,TA,ht,hv,fun H1 s1=> ?_⟩
  refine⟨_,rfl,_,rfl,p,dx,_,rfl,s1 _ _ h1,gU,p,r,d,xs,n,kvs,rfl,TA.same s1,i,xs.length,rfl,hi,?_⟩
  exact⟨_,rfl,p,C,dx,_,_,rfl,s1 _ _ h1,Y.cl,Y.n_kept,pR _ _ _,_,rfl,d,.ref l,rfl,hv▸bW.k (k:=Sum.inr t) (s1 _ _ h3),_,rfl,l,_,_,v,rfl,rfl,aM.of (s1 _ _ hl),ha,q _ s1⟩
inductive vX(C:Addr)(vs:List V)(H:Hp)(Q:VK)(E:XK):Prop
 |mk (p:_) (r:_) (d:_) (xs:_) (n:_) (kvs:_) (i:Nat) (v:V):vs= [.ref p,.int (i:Int)] ->iV C H p r d xs n kvs->i<xs.length->cQ xs (i:Int)=some v->Q v H->vX C vs H Q E
theorem a5e:bD ["self","place"] ["self","place"] (aO a1j):={}
theorem a8j(T:bF K mg)(Y:dZ K mg C):aS P w K mg af aE 3 C "number_at" ["self","place"] (vX C):=by
 have G_check_place:bG P w K mg af aE 2 "check_place" ["place","places"] rX:=zJ T
 have G_many:aS P w K mg af aE 1 C "many" ["self"] (lF C):=mP T Y
 refine Y.m_number_at.known a5e (fun _ _ _ _ _ _ us hl=>eC (fun _ _=>rfl) us hl) (fun vs H Q E h=> ?_) (fun f ah A ag s H vs Q E hr h=> ?_)
 ·obtain⟨p,r,d,xs,n,kvs,i,v,rfl,_⟩:=h
  rfl
 ·obtain⟨p,r,d,xs,n,kvs,i,v,rfl,TA,hi,ha,q⟩:=h
  refine⟨_,(aK (cG (bQ G_check_place hr.mn aR (aA (pv 1) (aA (lM (pv 0) Y.cl G_many hr.mn aR) aG))))
   (aL (bL (dA iY (aW (pv 0) rfl) (pv 1) (fun _ _=>rfl))))),?_⟩
  obtain⟨⟨dx,h1⟩,h2,h3⟩:=id TA
  refine⟨_,rfl,_,rfl,p,dx,_,rfl,h1,gU,p,r,d,xs,n,kvs,rfl,TA,i,xs.length,rfl,hi,?_⟩
  exact⟨_,rfl,p,C,dx,_,_,rfl,h1,Y.cl,Y.n_row_numbers,a1Q _ _ _,_,rfl,r,_,_,v,rfl,rfl,aM.of h2,ha,q⟩
inductive wF(K:Fg)(C:Addr)(vs:List V)(H:Hp)(Q:VK)(E:XK):Prop
 |mk (p:_) (r:_) (d:_) (xs:_) (n:_) (kvs:_) (t:_) (l:_) (ys:_) (i:Nat) (v:V) (dv:PyData):vs= [.ref p,.str t,.int (i:Int),v] ->iV C H p r d xs n kvs->Nl t->aF kvs (.inr t:aB)=some (.ref l)->H l=some (.lst ys)->i<xs.length->i<ys.length->Pv K H v dv->(∀H',aH H H'->Q .non (upd H' l (.lst (ys.set i v))))->wF K C vs H Q E
theorem a77:bD ["self","column","place","value"] ["self","column","place","value"] (aO a2B):={}
theorem a7I(T:bF K mg)(Y:dZ K mg C):aS P w K mg af aE 5 C "put" ["self","column","place","value"] (wF K C):=by
 have G_check_column:aS P w K mg af aE 2 C "check_column" ["self","column"] (uF C):=a2d T Y
 have G_check_place:bG P w K mg af aE 2 "check_place" ["place","places"] rX:=zJ T
 have G_check_value:bG P w K mg af aE 4 "check_value" ["value"] (yG K):=a5E T
 have G_many:aS P w K mg af aE 1 C "many" ["self"] (lF C):=mP T Y
 refine Y.m_put.known a77 (fun _ _ _ _ _ _ us hl=>mS (fun _ _ _ _=>rfl) us hl) (fun vs H Q E h=> ?_) (fun f ah A ag s H vs Q E hr h=> ?_)
 ·obtain⟨p,r,d,xs,n,kvs,t,l,ys,i,v,dv,rfl,_⟩:=h
  rfl
 ·obtain⟨p,r,d,xs,n,kvs,t,l,ys,i,v,dv,rfl,TA,ht,hv,hl,hi,hj,hpv,q⟩:=h
  refine⟨_,(aK (cG (cB (pv 0) Y.cl G_check_column hr.mn aR (aA (pv 1) aG)))
   (aK (cG (bQ G_check_place hr.mn aR (aA (pv 2) (aA (lM (pv 0) Y.cl G_many hr.mn aR) aG))))
   (aK (cG (bQ G_check_value hr.mn aR (aA (pv 3) aG)))
   (aL (a0l (pv 3) (a0m (fQ (dQ hr) (aW (pv 0) rfl) (pv 1) (fun _ _=>rfl)) (pv 2) zB (fun _=>rfl))))))),?_⟩
  obtain⟨⟨dx,h1⟩,h2,h3⟩:=id TA
  refine⟨_,rfl,p,dx,_,rfl,h1,gU,_,rfl,p,r,d,xs,n,kvs,t,_,rfl,TA,ht,hv,fun H1 s1=> ?_⟩
  refine⟨_,rfl,_,rfl,p,dx,_,rfl,s1 _ _ h1,gU,p,r,d,xs,n,kvs,rfl,TA.same s1,i,xs.length,rfl,hi,?_⟩
  refine⟨_,rfl,v,dv,rfl,hpv.same s1,fun H2 s2=> ?_⟩
  have s12:=s1.trans s2
  have hx:iI ys.length (i:Int)=some i:=by rw[vV (by omega) (by omega),Int.toNat_natCast]
  exact⟨_,rfl,_,rfl,p,C,dx,_,_,rfl,s12 _ _ h1,Y.cl,Y.n_kept,pR _ _ _,_,rfl,d,.ref l,rfl,hv▸bW.k (k:=Sum.inr t) (s12 _ _ h3),_,rfl,l,ys,_,i,rfl,rfl,s12 _ _ hl,hx,q _ s12⟩
inductive a0n(K:Fg)(C:Addr)(vs:List V)(H:Hp)(Q:VK)(E:XK):Prop
 |mk (p:_) (r:_) (d:_) (xs:_) (n:_) (kvs:_) (t:_) (a:_) (ys:_) (ds:_):vs= [.ref p,.str t,.ref a] ->iV C H p r d xs n kvs->Nl t->((aF kvs (.inr t:aB)).isSome=true\/ kvs.length<8)->kvs.length<=1000->aM K H a ys->cV K H ys ds->ys.length=xs.length->ys.length<=1000->(∀H' l,aH H H'->H' l=none->Q .non (upd (upd H' l (.lst ys)) d (.dK (aU kvs (.inr t:aB) (.ref l)))))->a0n K C vs H Q E
theorem a6v:bD ["self","column","values"] ["self","column","values"] (aO uU):={}
theorem a6T(T:bF K mg)(Y:dZ K mg C):aS P w K mg af aE 5 C "give" ["self","column","values"] (a0n K C):=by
 have G_is_name:bG P w K mg af aE 1 "is_name" ["thing"] (kT K):=mQ T
 have G_check_values:bG P w K mg af aE 4 "check_values" ["values","many"] (sO K):=a04 T
 have G_many:aS P w K mg af aE 1 C "many" ["self"] (lF C):=mP T Y
 refine Y.m_give.known a6v (fun _ _ _ _ _ _ us hl=>iN (fun _ _ _=>rfl) us hl) (fun vs H Q E h=> ?_) (fun f ah A ag s H vs Q E hr h=> ?_)
 ·obtain⟨p,r,d,xs,n,kvs,t,a,ys,ds,rfl,_⟩:=h
  rfl
 ·obtain⟨p,r,d,xs,n,kvs,t,a,ys,ds,rfl,TA,ht,hc,hk,hs,hp,hl,l1000,q⟩:=h
  have cT:∃t',eS (eJ aE P w K mg af ["self","column","values"] "Table.give" (aO uU) f ah A ag s H E).nox ((eZ uU).drop 2) t'/\
   ∀(H1:Hp),aH H H1->t' {nx:=fun _ H'=>Q .non H',rt:=Q} [some (.ref p),some (.str t),some (.ref a)] H1:=by
   refine⟨_,(aK (cG (bQ G_check_values hr.mn aR (aA (pv 2) (aA (lM (pv 0) Y.cl G_many hr.mn aR) aG))))
    (aL (jI (dQ hr) (aW (pv 0) rfl) (pv 1) (nK rS rfl T.list jL (aA (pv 2) aG)) rfl))),fun H1 s1=> ?_⟩
   obtain⟨⟨dx,h1⟩,h2,h3⟩:=TA.same s1
   refine⟨_,rfl,_,rfl,p,dx,_,rfl,h1,gU,p,r,d,xs,n,kvs,rfl,TA.same s1,a,ys,ds,(by rw[hl];rfl),s1.seq hs,hp.keep (bS.of s1),l1000,fun H2 s2=> ?_⟩
   have s12:=s1.trans s2
   refine⟨_,rfl,a,ys,rfl,.inl (s12.seq hs),fun l hl=> ?_⟩
   have c1:aH H2 (upd H2 l (.lst ys)):=aH.new hl
   refine⟨_,rfl,p,C,dx,_,_,rfl,c1 _ _ (s2 _ _ h1),Y.cl,Y.n_kept,pR _ _ _,_,rfl,d,_,rfl,gI.k (k:=Sum.inr t) (c1 _ _ (s2 _ _ h3)) (dJ hk),?_⟩
   exact q H2 l s12 hl
  obtain⟨t2,ht2,r2⟩:=cT
  refine⟨_,(aK (bK (eI (dI (bQ G_is_name hr.mn aR (aA (pv 1) aG)) (fun _=>rfl))) (aL cJ) bO)
   (aK (bK (PW.pt (kU (iR (lY (dQ hr) (pv 1) (aW (pv 0) rfl))) (lU (cU a0s (cS a1I rfl T.len gB (aA (aW (pv 0) rfl) aG)) (pA T.g_MOST_COLUMNS) (cO _))))) (aL cJ) bO)
   ht2)),?_⟩
  have h8:=ht.2.1
  refine⟨_,rfl,_,.str t,rfl,.str t,lP (by omega),fun H1 s1=>⟨_,rfl,?_⟩⟩
  rw[show fN (.str t)=true from ht.name]
  obtain⟨⟨dx,h2⟩,_,h3⟩:=TA.same s1
  refine bH ⟨_,rfl,_,rfl,p,C,dx,_,_,rfl,h2,Y.cl,Y.n_kept,pR _ _ _,d,_,rfl,bW.k (k:=Sum.inr t) h3,_,rfl,?_⟩
  cases e:aF kvs (Sum.inr t:aB)with
  |some v=>exact bH (bH (r2 H1 s1))
  |none=>
   have hc':kvs.length<8:=by
    rcases hc with hc|hc
    ·rw[e]at hc;cases hc
    ·exact hc
   refine cE ⟨_,rfl,p,C,dx,_,_,rfl,h2,Y.cl,Y.n_kept,pR _ _ _,d,kvs,rfl,h3,_,_,rfl,rfl,_,rfl,?_⟩
   rw[decide_eq_false (show¬(kvs.length:Int)>=8 by omega)]
   exact bH (r2 H1 s1)
end
theorem jH(s:aH H H')(h:H' a=none):H a=none:=by
 cases e:H a with
 |none=>rfl
 |some o=>rw[s _ _ e]at h;cases h
def bC(p:Addr)(H H':Hp):Prop:=∀b o,b≠p->H b=some o->H' b=some o
theorem bC.of{p:Addr}(s:aH H H'):bC p H H':=fun b o _ e=>s b o e
theorem bC.trans{p:Addr}(a:bC p H H1)(b:bC p H1 H2):bC p H H2:=fun c o n e=>b c o n (a c o n e)
theorem uS{p dy:Addr}{fs gs:List (Str×V)}(h:H p=some (.ins C dx fs))(g:H b=some (.ins D dy gs))(n:fs.length≠gs.length):p≠b:=fun z=>by
 rw[z,g]at h
 cases h
 exact n rfl
structure BM where
 b:Addr
 g:Addr
 r:Addr
 e:Addr
 ru:Addr
 me:Addr
 od:Addr
 xs:List V
 n:Int
 kvs:List (aB×V)
 rus:List (aB×V)
 mes:List (aB×V)
 ord:List Str
variable{tabs:List (Str×My.BM)}
def jU(g ru me od:Addr):List (Str×V):=[("given",V.ref g),("rules",V.ref ru),("memory",V.ref me),("order",V.ref od)]
theorem dL(g ru me od:Addr):(jU g ru me od).lookup ("given":Str)=some (.ref g)/\(jU g ru me od).lookup ("rules":Str)=some (.ref ru)/\(jU g ru me od).lookup ("memory":Str)=some (.ref me)/\(jU g ru me od).lookup ("order":Str)=some (.ref od):=⟨rfl,rfl,rfl,rfl⟩
theorem oG{g ru me od:Addr}(h:(m==("given":Str)||m==("rules":Str)||m==("memory":Str)||m==("order":Str))=false:=by decide+kernel):(jU g ru me od).lookup m=none:=by
 simp only[Bool.or_eq_false_iff]at h
 obtain⟨⟨⟨h1,h2⟩,h3⟩,h4⟩:=h
 unfold jU
 simp[List.lookup,h1,h2,h3,h4]
theorem a84(g ru me od:Addr):aN "order" (.ref od) (aN "memory" (.ref me) (aN "rules" (.ref ru) (aN "given" (.ref g) [])))=jU g ru me od:=by
 rfl
structure cR(CB CT:Addr)(H:Hp)(B:BM):Prop where
 at_:∃dx,H B.b=some (.ins CB dx (jU B.g B.ru B.me B.od))
 tab:iV CT H B.g B.r B.e B.xs B.n B.kvs
 rul:H B.ru=some (.dK B.rus)
 mem:H B.me=some (.dK B.mes)
 ord:H B.od=some (.lst (B.ord.map V.str))
theorem cR.same{B:BM}(h:cR CB CT H B)(s:aH H H'):cR CB CT H' B:=
 ⟨let ⟨dx,e⟩:=h.at_;⟨dx,s _ _ e⟩,h.tab.same s,s _ _ h.rul,s _ _ h.mem,s _ _ h.ord⟩
def BM.foot(B:BM):List Addr:=[B.b,B.g,B.r,B.e,B.ru,B.me,B.od]
structure BM.sep(B:BM):Prop where
 ro:B.r≠B.od
 eu:B.e≠B.ru
 em:B.e≠B.me
 um:B.ru≠B.me
section
inductive wI(CB CT:Addr)(vs:List V)(H:Hp)(Q:VK)(E:XK):Prop
 |mk (p dx:Addr) (m:Nat):vs= [.ref p,.int (m:Int)] ->H p=some (.ins CB dx [])->m<=30->(∀H' g r e ru me od,cR CB CT H' ⟨p,g,r,e,ru,me,od,fP 0 m,(m:Int),[],[],[],[]⟩ ->BM.sep ⟨p,g,r,e,ru,me,od,fP 0 m,(m:Int),[],[],[],[]⟩ ->(∀x∈ [g,r,e,ru,me,od],H x=none)->(∀b o,H b=some o->b≠p->H' b=some o)->Q .non H')->wI CB CT vs H Q E
theorem a8X:bD ["self","many"] ["self","many"] (aO a2H):={}
theorem a8v(T:bF K mg)(Y:dG K mg CB)(Z:dZ K mg CT):eU P w K mg af aE 5 CB ["self","many"] (wI CB CT):=by
 have GI:eU P w K mg af aE 3 CT ["self","many"] (yK K CT):=a7V T Z
 refine(Y.m_init.known a8X (fun _ _ _ _ _ _ us hl=>eC (fun _ _=>rfl) us hl) (fun vs H Q E h=> ?_) (fun f ah A ag s H vs Q E hr h=> ?_)).init Y.mks Y.kc
 ·obtain⟨p,dx,m,rfl,_⟩:=h
  rfl
 ·obtain⟨p,dx,m,rfl,hp,hm,q⟩:=h
  refine⟨_,(aK (cY (pv 0) (lL GI hr Z.c aR (aA (pv 1) aG)) rfl)
   (aK (cY (pv 0) rN rfl)
   (aK (cY (pv 0) rN rfl)
   (aL (cY (pv 0) (fV aG) rfl))))),?_⟩
  refine⟨_,rfl,?_⟩
  intro g dg hg hdg ne
  refine⟨g,dg,m,rfl,aJ,hm,fun H1 r e TA hr1 he1 nre b1=>⟨rfl,?_⟩⟩
  have s1:aH H H1:=fun b o z=>b1 b o (by rw[aI (bE z hg),aI (bE z hdg)];exact z) (bE z hg)
  have npg:p≠g:=bE hp hg
  have hr0:H r=none:=by
   by_cases z:r=g
   ·rw[z];exact hg
   ·by_cases z2:r=dg
    ·rw[z2];exact hdg
    ·rw[aI z,aI z2]at hr1;exact hr1
  have he0:H e=none:=by
   by_cases z:e=g
   ·rw[z];exact hg
   ·by_cases z2:e=dg
    ·rw[z2];exact hdg
    ·rw[aI z,aI z2]at he1;exact he1
  obtain⟨⟨dt,ht⟩,hrr,hee⟩:=TA
  refine⟨_,rfl,p,CB,dx,[],rfl,s1 _ _ hp,Y.cl,Y.n_given,(by show 0<1000;decide),?_⟩
  have u2:∀b o,b≠p->H1 b=some o->upd H1 p (.ins CB dx (aN "given" (.ref g) [])) b=some o:=fun b o n z=>by rw[aI n];exact z
  have p2:upd H1 p (.ins CB dx (aN "given" (.ref g) [])) p=some (.ins CB dx (aN "given" (.ref g) [])):=aJ
  have n2:∀b,upd H1 p (.ins CB dx (aN "given" (.ref g) [])) b=none->H1 b=none/\b≠p:=fun b z=>by
   have:b≠p:=fun y=>by rw[y,aJ]at z;cases z
   rw[aI this]at z
   exact⟨z,this⟩
  generalize upd H1 p (.ins CB dx (aN "given" (.ref g) []))=H2 at u2 p2 n2|-
  have b1':∀b,H1 b=none->H b=none:=fun b z=>by
   cases e9:H b with
   |none=>rfl
   |some o=>rw[s1 _ _ e9]at z;cases z
  refine fun ru hru=> ?_
  have s3:=aH.new (o:=.dK []) hru
  have h3:upd H2 ru (.dK []) ru=some (.dK []):=aJ
  have n3:∀b,upd H2 ru (.dK []) b=none->H2 b=none/\b≠ru:=fun b z=>by
   have:b≠ru:=fun y=>by rw[y,aJ]at z;cases z
   rw[aI this]at z
   exact⟨z,this⟩
  refine⟨_,rfl,p,CB,dx,_,rfl,s3 _ _ p2,Y.cl,Y.n_rules,(by show 1<1000;decide),?_⟩
  have hru2:=n2 _ hru
  generalize upd H2 ru (.dK [])=H3 at s3 h3 n3|-
  have u4:∀b o,b≠p->H3 b=some o->upd H3 p (.ins CB dx (aN "rules" (.ref ru) (aN "given" (.ref g) []))) b=some o:=fun b o n z=>by rw[aI n];exact z
  have p4:upd H3 p (.ins CB dx (aN "rules" (.ref ru) (aN "given" (.ref g) []))) p=some (.ins CB dx (aN "rules" (.ref ru) (aN "given" (.ref g) []))):=aJ
  have n4:∀b,upd H3 p (.ins CB dx (aN "rules" (.ref ru) (aN "given" (.ref g) []))) b=none->H3 b=none/\b≠p:=fun b z=>by
   have:b≠p:=fun y=>by rw[y,aJ]at z;cases z
   rw[aI this]at z
   exact⟨z,this⟩
  generalize upd H3 p (.ins CB dx (aN "rules" (.ref ru) (aN "given" (.ref g) [])))=H4 at u4 p4 n4|-
  refine fun me hme=> ?_
  have s5:=aH.new (o:=.dK []) hme
  have h5:upd H4 me (.dK []) me=some (.dK []):=aJ
  have n5:∀b,upd H4 me (.dK []) b=none->H4 b=none/\b≠me:=fun b z=>by
   have:b≠me:=fun y=>by rw[y,aJ]at z;cases z
   rw[aI this]at z
   exact⟨z,this⟩
  refine⟨_,rfl,p,CB,dx,_,rfl,s5 _ _ p4,Y.cl,Y.n_memory,(by show 2<1000;decide),?_⟩
  have hme4:=n4 _ hme
  have hme3:=n3 _ hme4.1
  have hme2:=n2 _ hme3.1
  generalize upd H4 me (.dK [])=H5 at s5 h5 n5|-
  have u6:∀b o,b≠p->H5 b=some o->upd H5 p (.ins CB dx (aN "memory" (.ref me) (aN "rules" (.ref ru) (aN "given" (.ref g) [])))) b=some o:=fun b o n z=>by rw[aI n];exact z
  have p6:upd H5 p (.ins CB dx (aN "memory" (.ref me) (aN "rules" (.ref ru) (aN "given" (.ref g) [])))) p=some (.ins CB dx (aN "memory" (.ref me) (aN "rules" (.ref ru) (aN "given" (.ref g) [])))):=aJ
  have n6:∀b,upd H5 p (.ins CB dx (aN "memory" (.ref me) (aN "rules" (.ref ru) (aN "given" (.ref g) [])))) b=none->H5 b=none/\b≠p:=fun b z=>by
   have:b≠p:=fun y=>by rw[y,aJ]at z;cases z
   rw[aI this]at z
   exact⟨z,this⟩
  generalize upd H5 p (.ins CB dx (aN "memory" (.ref me) (aN "rules" (.ref ru) (aN "given" (.ref g) []))))=H6 at u6 p6 n6|-
  refine⟨sl,fun od hod=> ?_⟩
  have s7:=aH.new (o:=.lst []) hod
  have h7:upd H6 od (.lst []) od=some (.lst []):=aJ
  refine⟨_,rfl,p,CB,dx,_,rfl,s7 _ _ p6,Y.cl,Y.n_order,(by show 3<1000;decide),?_⟩
  have hod6:=n6 _ hod
  have hod5:=n5 _ hod6.1
  have hod4:=n4 _ hod5.1
  have hod3:=n3 _ hod4.1
  have hod2:=n2 _ hod3.1
  generalize upd H6 od (.lst [])=H7 at s7 h7|-
  have up:∀b o,b≠p->H1 b=some o->upd H7 p (.ins CB dx (aN "order" (.ref od) (aN "memory" (.ref me) (aN "rules" (.ref ru) (aN "given" (.ref g) []))))) b=some o:=fun b o n z=>by
   rw[aI n]
   exact s7 _ _ (u6 _ _ n (s5 _ _ (u4 _ _ n (s3 _ _ (u2 _ _ n z)))))
  have p9:upd H7 p (.ins CB dx (aN "order" (.ref od) (aN "memory" (.ref me) (aN "rules" (.ref ru) (aN "given" (.ref g) []))))) p=some (.ins CB dx (jU g ru me od)):=by rw[aJ,a84]
  have npr:r≠p:=fun z=>by rw[z,hp]at hr0;cases hr0
  have npe:e≠p:=fun z=>by rw[z,hp]at he0;cases he0
  have o7:upd H7 p (.ins CB dx (aN "order" (.ref od) (aN "memory" (.ref me) (aN "rules" (.ref ru) (aN "given" (.ref g) []))))) od=some (.lst []):=by rw[aI hod6.2];exact h7
  have m7:upd H7 p (.ins CB dx (aN "order" (.ref od) (aN "memory" (.ref me) (aN "rules" (.ref ru) (aN "given" (.ref g) []))))) me=some (.dK []):=by
   rw[aI hme4.2]
   exact s7 _ _ (u6 _ _ hme4.2 h5)
  have r7:upd H7 p (.ins CB dx (aN "order" (.ref od) (aN "memory" (.ref me) (aN "rules" (.ref ru) (aN "given" (.ref g) []))))) ru=some (.dK []):=by
   rw[aI hru2.2]
   exact s7 _ _ (u6 _ _ hru2.2 (s5 _ _ (u4 _ _ hru2.2 h3)))
  generalize upd H7 p (.ins CB dx (aN "order" (.ref od) (aN "memory" (.ref me) (aN "rules" (.ref ru) (aN "given" (.ref g) [])))))=H9 at up p9 o7 m7 r7|-
  refine q H9 g r e ru me od ⟨⟨dx,p9⟩,⟨⟨dt,up _ _ npg.symm ht⟩,up _ _ npr hrr,up _ _ npe hee⟩,r7,m7,o7⟩ ⟨?_,?_,?_,?_⟩ ?_ fun b o z n=>up _ _ n (s1 _ _ z)
  ·exact bE hrr hod2.1
  ·exact bE hee hru2.1
  ·exact bE hee hme2.1
  ·exact fun z=>hme3.2 z.symm
  ·intro x hx
   simp only[List.mem_cons,List.not_mem_nil,or_false]at hx
   rcases hx with rfl|rfl|rfl|rfl|rfl|rfl
   ·exact hg
   ·exact hr0
   ·exact he0
   ·exact b1' _ hru2.1
   ·exact b1' _ hme2.1
   ·exact b1' _ hod2.1
inductive sT(CB CT:Addr)(vs:List V)(H:Hp)(Q:VK)(E:XK):Prop
 |mk (B:BM) (t:Str):vs= [.ref B.b,.str t] ->cR CB CT H B->Nl t->(∀H',aH H H'->Q (.bl (decide (t∈B.ord))) H')->sT CB CT vs H Q E
theorem a6L:bD ["self","column"] ["self","column"] (aO a1k):={}
theorem a3E(T:bF K mg)(Y:dG K mg CB):aS P w K mg af aE 2 CB "has_column" ["self","column"] (sT CB CT):=by
 have G_is_name:bG P w K mg af aE 1 "is_name" ["thing"] (kT K):=mQ T
 refine Y.m_has_column.known a6L (fun _ _ _ _ _ _ us hl=>eC (fun _ _=>rfl) us hl) (fun vs H Q E h=> ?_) (fun f ah A ag s H vs Q E hr h=> ?_)
 ·obtain⟨B,t,rfl,_⟩:=h
  rfl
 ·obtain⟨B,t,rfl,hB,ht,q⟩:=h
  refine⟨_,(aL (bL (lZ (bQ G_is_name hr.mn aR (aA (pv 1) aG)) (mR (lQ yW (pv 1) (aW (pv 0) rfl) (by with_unfolding_all rfl)))))),?_⟩
  have h8:=ht.2.1
  refine⟨_,rfl,_,.str t,rfl,.str t,lP (by omega),fun H' s'=>⟨_,rfl,?_⟩⟩
  rw[show fN (.str t)=true from ht.name]
  obtain⟨⟨dx,h1⟩,_,_,_,h5⟩:=hB.same s'
  refine cE ⟨_,rfl,_,rfl,B.b,CB,dx,_,_,rfl,h1,Y.cl,Y.n_order,(dL _ _ _ _).2.2.2,B.od,_,rfl,.inl (aM.of h5),rfl,nV _,?_⟩
  rw[show (if false=true then !iH (.str t) (B.ord.map V.str) else iH (.str t) (B.ord.map V.str))=decide (t∈B.ord)by rw[if_neg Bool.false_ne_true,oW]]
  exact q _ s'
def pH(B:BM)(t:Str):Prop:=aF B.rus (.inr t:aB)=none/\t∉B.ord
inductive oQ(CB CT:Addr)(vs:List V)(H:Hp)(Q:VK)(E:XK):Prop
 |mk (B:BM) (t:Str):vs= [.ref B.b,.str t] ->cR CB CT H B->pH B t->Q .non H->oQ CB CT vs H Q E
theorem a44:bD ["self","column"] ["self","column"] (aO a2X):={}
theorem a7l(T:bF K mg)(Y:dG K mg CB):aS P w K mg af aE 2 CB "content" ["self","column"] (oQ CB CT):=by
 refine Y.m_content.known a44 (fun _ _ _ _ _ _ us hl=>eC (fun _ _=>rfl) us hl) (fun vs H Q E h=> ?_) (fun f ah A ag s H vs Q E hr h=> ?_)
 ·obtain⟨B,t,rfl,_⟩:=h
  rfl
 ·obtain⟨B,t,rfl,hB,⟨n1,n2⟩,q⟩:=h
  refine⟨_,(aK (bK (iR (nM (dQ hr) (pv 1) (aW (pv 0) rfl))) (aL cJ) bO)
   (aK (bK (cU yW (pv 1) (aW (pv 0) rfl) (by with_unfolding_all rfl)) (aL cJ) bO)
   (aL (bL gE)))),?_⟩
  obtain⟨⟨dx,h1⟩,_,h3,_,h5⟩:=id hB
  refine⟨_,rfl,_,rfl,B.b,CB,dx,_,_,rfl,h1,Y.cl,Y.n_rules,(dL _ _ _ _).2.1,B.ru,_,rfl,bW.k (k:=Sum.inr t) h3,_,rfl,?_⟩
  rw[n1]
  refine bH ⟨_,rfl,_,rfl,B.b,CB,dx,_,_,rfl,h1,Y.cl,Y.n_order,(dL _ _ _ _).2.2.2,B.od,_,rfl,.inl (aM.of h5),rfl,nV _,_,rfl,?_⟩
  rw[show (if false=true then !iH (.str t) (B.ord.map V.str) else iH (.str t) (B.ord.map V.str))=false by rw[if_neg Bool.false_ne_true,oW,decide_eq_false n2]]
  exact bH q
theorem a5t:bD ["self","column"] ["self","column"] (aO a1K):={}
theorem a3V(T:bF K mg)(Y:dG K mg CB):aS P w K mg af aE 2 CB "empty_column" ["self","column"] (oQ CB CT):=by
 refine Y.m_empty_column.known a5t (fun _ _ _ _ _ _ us hl=>eC (fun _ _=>rfl) us hl) (fun vs H Q E h=> ?_) (fun f ah A ag s H vs Q E hr h=> ?_)
 ·obtain⟨B,t,rfl,_⟩:=h
  rfl
 ·obtain⟨B,t,rfl,hB,⟨n1,n2⟩,q⟩:=h
  refine⟨_,(aL (bK (iR (nM (dQ hr) (pv 1) (aW (pv 0) rfl))) (aK cJ (aL cJ)) (aL (bK (cU yW (pv 1) (aW (pv 0) rfl) (by with_unfolding_all rfl)) (aL cJ) bO)))),?_⟩
  obtain⟨⟨dx,h1⟩,_,h3,_,h5⟩:=id hB
  refine⟨_,rfl,_,rfl,B.b,CB,dx,_,_,rfl,h1,Y.cl,Y.n_rules,(dL _ _ _ _).2.1,B.ru,_,rfl,bW.k (k:=Sum.inr t) h3,_,rfl,?_⟩
  rw[n1]
  refine bH ⟨_,rfl,_,rfl,B.b,CB,dx,_,_,rfl,h1,Y.cl,Y.n_order,(dL _ _ _ _).2.2.2,B.od,_,rfl,.inl (aM.of h5),rfl,nV _,_,rfl,?_⟩
  rw[show (if false=true then !iH (.str t) (B.ord.map V.str) else iH (.str t) (B.ord.map V.str))=false by rw[if_neg Bool.false_ne_true,oW,decide_eq_false n2]]
  exact bH q
inductive uH(K:Fg)(CB CT:Addr)(vs:List V)(H:Hp)(Q:VK)(E:XK):Prop
 |mk (B:BM) (t:Str) (a:Addr) (ys:List V) (ds:List PyData):vs= [.ref B.b,.str t,.ref a] ->cR CB CT H B->B.sep->pH B t->Nl t->H a=some (.lst ys)->a≠B.od->cV K H ys ds->ys.length=B.xs.length->ys.length<=30->B.kvs.length<8->B.ord.length<100->(∀H' l,H l=none->cR CB CT H' {B with kvs:=aU B.kvs (.inr t:aB) (.ref l),ord:=B.ord++ [t]} ->H' l=some (.lst ys)->(∀b o,b≠B.od->b≠B.e->H b=some o->H' b=some o)->Q .non H')->uH K CB CT vs H Q E
theorem a1R:bD ["self","column","content"] ["self","column","content"] (aO a3m):={}
theorem a4t(T:bF K mg)(Y:dG K mg CB)(Z:dZ K mg CT):aS P w K mg af aE 6 CB "set_column" ["self","column","content"] (uH K CB CT):=by
 have G_empty:aS P w K mg af aE 2 CB "empty_column" ["self","column"] (oQ CB CT):=a3V T Y
 have G_give:aS P w K mg af aE 5 CT "give" ["self","column","values"] (a0n K CT):=a6T T Z
 refine Y.m_set_column.known a1R (fun _ _ _ _ _ _ us hl=>iN (fun _ _ _=>rfl) us hl) (fun vs H Q E h=> ?_) (fun f ah A ag s H vs Q E hr h=> ?_)
 ·obtain⟨B,t,a,ys,ds,rfl,_⟩:=h
  rfl
 ·obtain⟨B,t,a,ys,ds,rfl,hB,sp,⟨n1,n2⟩,ht,ha,nao,hp,hl,l30,k8,o100,q⟩:=h
  refine⟨_,(aK (cG (cB (pv 0) Y.cl G_empty hr.mn aR (aA (pv 1) aG)))
   (aK (bK (cU pP (pv 2) gE (cO _)) (aK cJ (aL cJ)) bO)
   (aK (bK (cU zG (pv 1) (aW (pv 0) rfl) (by with_unfolding_all rfl)) (aL (cG (kI F.plainAttrs_list F.slot_list_append F.type_list_append jN (aW (pv 0) rfl) (aA (pv 1) aG)))) bO)
   (aL (bK (dI (cS a17 rfl T.isinstance jD (aA (pv 2) (aA (jE T.list jL) aG))) (fun _=>rfl)) (aL (cG (cB (aW (pv 0) rfl) Z.cl G_give hr.mn aR (aA (pv 1) (aA (pv 2) aG))))) (aK cJ (aL cJ))))))),?_⟩
  obtain⟨⟨dx,h1⟩,tb,h3,h4,h5⟩:=id hB
  refine⟨_,rfl,B.b,dx,_,rfl,h1,oG,_,rfl,B,t,rfl,hB,⟨n1,n2⟩,?_⟩
  refine⟨_,rfl,rfl,_,rfl,?_⟩
  rw[decide_eq_false (show¬V.ref a=V.non from fun z=>by cases z)]
  refine bH ⟨_,rfl,_,rfl,B.b,CB,dx,_,_,rfl,h1,Y.cl,Y.n_order,(dL _ _ _ _).2.2.2,B.od,_,rfl,.inl (aM.of h5),rfl,nV _,_,rfl,?_⟩
  rw[show (if true=true then !iH (.str t) (B.ord.map V.str) else iH (.str t) (B.ord.map V.str))=true by rw[if_pos rfl,oW,decide_eq_false n2];rfl]
  refine cE ⟨_,rfl,B.b,CB,dx,_,_,rfl,h1,Y.cl,Y.n_order,(dL _ _ _ _).2.2.2,.inl ⟨rfl,_,aM.of h5⟩,_,rfl,B.od,_,_,rfl,rfl,h5,dJ (by rw[List.length_map];omega),?_⟩
  have u6:∀b o,b≠B.od->H b=some o->upd H B.od (.lst (B.ord.map V.str++ [.str t])) b=some o:=fun b o n z=>by rw[aI n];exact z
  have o6:upd H B.od (.lst (B.ord.map V.str++ [.str t])) B.od=some (.lst ((B.ord++ [t]).map V.str)):=by rw[aJ,List.map_append];rfl
  have kt:bS H (upd H B.od (.lst (B.ord.map V.str++ [.str t]))):=bS.upd h5 (fun xs z=>by cases z)
  have n6:∀b,upd H B.od (.lst (B.ord.map V.str++ [.str t])) b=none->H b=none:=fun b z=>by
   have:b≠B.od:=fun y=>by rw[y,aJ]at z;cases z
   rw[aI this]at z
   exact z
  generalize upd H B.od (.lst (B.ord.map V.str++ [.str t]))=H6 at u6 o6 kt n6|-
  have a6:=u6 _ _ nao ha
  have b6:=u6 _ _ (fun z=>by rw[z,h5]at h1;cases h1) h1
  obtain⟨⟨dt,t1⟩,t2,t3⟩:=id tb
  have g6:=u6 _ _ (fun z=>by rw[z,h5]at t1;cases t1) t1
  have e6:=u6 _ _ (fun z=>by rw[z,h5]at t3;cases t3) t3
  have tb6:iV CT H6 B.g B.r B.e B.xs B.n B.kvs:=⟨⟨dt,g6⟩,u6 _ _ sp.ro t2,e6⟩
  refine⟨_,rfl,_,"list",.type "list",_,rfl,.lst a6,sW K .lst,_,rfl,cE ?_⟩
  refine⟨_,rfl,B.b,CB,dx,_,_,rfl,b6,Y.cl,Y.n_given,(dL _ _ _ _).1,B.g,dt,_,rfl,g6,gU,_,rfl,_,rfl,B.g,B.r,B.e,B.xs,B.n,B.kvs,t,a,ys,ds,rfl,tb6,ht,.inr k8,by omega,aM.of a6,hp.keep kt,hl,by omega,fun H7 l s7 hl7=> ?_⟩
  have u9:∀b o,b≠B.e->H7 b=some o->upd (upd H7 l (.lst ys)) B.e (.dK (aU B.kvs (.inr t:aB) (.ref l))) b=some o:=fun b o n z=>by
   rw[aI n,aI (bE z hl7)]
   exact z
  have nle:l≠B.e:=fun z=>by rw[z,s7 _ _ e6]at hl7;cases hl7
  have e9:upd (upd H7 l (.lst ys)) B.e (.dK (aU B.kvs (.inr t:aB) (.ref l))) B.e=some (.dK (aU B.kvs (.inr t:aB) (.ref l))):=aJ
  have l9:upd (upd H7 l (.lst ys)) B.e (.dK (aU B.kvs (.inr t:aB) (.ref l))) l=some (.lst ys):=by rw[aI nle,aJ]
  generalize upd (upd H7 l (.lst ys)) B.e (.dK (aU B.kvs (.inr t:aB) (.ref l)))=H9 at u9 e9 l9|-
  have up:∀b o,b≠B.od->b≠B.e->H b=some o->H9 b=some o:=fun b o n1 n2 z=>u9 _ _ n2 (s7 _ _ (u6 _ _ n1 z))
  have ne_:∀{b:Addr} {o:HO},H6 b=some o->(∀kvs,o≠ .dK kvs)->b≠B.e:=fun z n y=>by rw[y,e6]at z;exact n _ (Option.some.inj z).symm
  refine q H9 l (n6 _ (jH s7 hl7)) ⟨⟨dx,u9 _ _ (ne_ b6 (fun kvs z=>by cases z)) (s7 _ _ b6)⟩,⟨⟨dt,u9 _ _ (ne_ g6 (fun kvs z=>by cases z)) (s7 _ _ g6)⟩,?_,e9⟩,?_,?_,?_⟩ l9 up
  ·exact up _ _ sp.ro (fun z=>by rw[z,t3]at t2;cases t2) t2
  ·exact up _ _ (fun z=>by rw[z,h5]at h3;cases h3) sp.eu.symm h3
  ·exact up _ _ (fun z=>by rw[z,h5]at h4;cases h4) sp.em.symm h4
  ·exact u9 _ _ (ne_ o6 (fun kvs z=>by cases z)) (s7 _ _ o6)
inductive uC(K:Fg)(CB CT:Addr)(vs:List V)(H:Hp)(Q:VK)(E:XK):Prop
 |mk (B:BM) (t:Str) (a C dx:Addr) (fs:List (Str×V)):vs= [.ref B.b,.str t,.ref a] ->cR CB CT H B->B.sep->pH B t->H a=some (.ins C dx fs)->gC K H (.ref a) (.ref C)->W.kitOne K (.ref C) (.type "list")=some false->B.rus.length<100->B.mes.length<100->B.ord.length<100->(∀H' m,H m=none->cR CB CT H' {B with rus:=aU B.rus (.inr t:aB) (.ref a),mes:=aU B.mes (.inr t:aB) (.ref m),ord:=B.ord++ [t]} ->H' m=some (.dK [])->(∀b o,b≠B.od->b≠B.ru->b≠B.me->H b=some o->H' b=some o)->Q .non H')->uC K CB CT vs H Q E
theorem a8Z(T:bF K mg)(Y:dG K mg CB):aS P w K mg af aE 6 CB "set_column" ["self","column","content"] (uC K CB CT):=by
 have G_empty:aS P w K mg af aE 2 CB "empty_column" ["self","column"] (oQ CB CT):=a3V T Y
 refine Y.m_set_column.known a1R (fun _ _ _ _ _ _ us hl=>iN (fun _ _ _=>rfl) us hl) (fun vs H Q E h=> ?_) (fun f ah A ag s H vs Q E hr h=> ?_)
 ·obtain⟨B,t,a,C,dc,fs,rfl,_⟩:=h
  rfl
 ·obtain⟨B,t,a,C,dc,fs,rfl,hB,sp,⟨n1,n2⟩,ha,hty,hk,r100,m100,o100,q⟩:=h
  refine⟨_,(aK (cG (cB (pv 0) Y.cl G_empty hr.mn aR (aA (pv 1) aG)))
   (aK (bK (cU pP (pv 2) gE (cO _)) (aK cJ (aL cJ)) bO)
   (aK (bK (cU zG (pv 1) (aW (pv 0) rfl) (by with_unfolding_all rfl)) (aL (cG (kI F.plainAttrs_list F.slot_list_append F.type_list_append jN (aW (pv 0) rfl) (aA (pv 1) aG)))) bO)
   (aL (bK (dI (cS a17 rfl T.isinstance jD (aA (pv 2) (aA (jE T.list jL) aG))) (fun _=>rfl)) (aL cJ) (aK (jI (dQ hr) (aW (pv 0) rfl) (pv 1) (pv 2) rfl) (aL (jI (dQ hr) (aW (pv 0) rfl) (pv 1) rN rfl)))))))),?_⟩
  obtain⟨⟨dx,h1⟩,tb,h3,h4,h5⟩:=id hB
  refine⟨_,rfl,B.b,dx,_,rfl,h1,oG,_,rfl,B,t,rfl,hB,⟨n1,n2⟩,?_⟩
  refine⟨_,rfl,rfl,_,rfl,?_⟩
  rw[decide_eq_false (show¬V.ref a=V.non from fun z=>by cases z)]
  refine bH ⟨_,rfl,_,rfl,B.b,CB,dx,_,_,rfl,h1,Y.cl,Y.n_order,(dL _ _ _ _).2.2.2,B.od,_,rfl,.inl (aM.of h5),rfl,nV _,_,rfl,?_⟩
  rw[show (if true=true then !iH (.str t) (B.ord.map V.str) else iH (.str t) (B.ord.map V.str))=true by rw[if_pos rfl,oW,decide_eq_false n2];rfl]
  refine cE ⟨_,rfl,B.b,CB,dx,_,_,rfl,h1,Y.cl,Y.n_order,(dL _ _ _ _).2.2.2,.inl ⟨rfl,_,aM.of h5⟩,_,rfl,B.od,_,_,rfl,rfl,h5,dJ (by rw[List.length_map];omega),?_⟩
  have u6:∀b o,b≠B.od->H b=some o->upd H B.od (.lst (B.ord.map V.str++ [.str t])) b=some o:=fun b o n z=>by rw[aI n];exact z
  have o6:upd H B.od (.lst (B.ord.map V.str++ [.str t])) B.od=some (.lst ((B.ord++ [t]).map V.str)):=by rw[aJ,List.map_append];rfl
  have n6:∀b,upd H B.od (.lst (B.ord.map V.str++ [.str t])) b=none->H b=none/\b≠B.od:=fun b z=>by
   have:b≠B.od:=fun y=>by rw[y,aJ]at z;cases z
   rw[aI this]at z
   exact⟨z,this⟩
  generalize upd H B.od (.lst (B.ord.map V.str++ [.str t]))=H6 at u6 o6 n6|-
  have nl5:∀{b:Addr} {o:HO},H b=some o->(∀xs,o≠ .lst xs)->b≠B.od:=fun z n y=>by rw[y,h5]at z;exact n _ (Option.some.inj z).symm
  have a6:=u6 _ _ (nl5 ha (fun xs z=>by cases z)) ha
  have b6:=u6 _ _ (nl5 h1 (fun xs z=>by cases z)) h1
  have r6:=u6 _ _ (nl5 h3 (fun xs z=>by cases z)) h3
  have m6:=u6 _ _ (nl5 h4 (fun xs z=>by cases z)) h4
  have ty6:gC K H6 (.ref a) (.ref C):=by
   cases hty with
   |ins e1 e2 e3 e4 e5 e6=>exact .ins (u6 _ _ (nl5 e1 (fun xs z=>by cases z)) e1) e2 e3 e4 e5 e6
  refine⟨_,rfl,_,"list",.ref C,_,rfl,ty6,hk,_,rfl,bH ?_⟩
  refine⟨_,rfl,_,rfl,B.b,CB,dx,_,_,rfl,b6,Y.cl,Y.n_rules,(dL _ _ _ _).2.1,_,rfl,B.ru,_,rfl,gI.k (k:=Sum.inr t) r6 (dJ (by omega)),?_⟩
  have u7:∀b o,b≠B.ru->H6 b=some o->upd H6 B.ru (.dK (aU B.rus (.inr t:aB) (.ref a))) b=some o:=fun b o n z=>by rw[aI n];exact z
  have r7:upd H6 B.ru (.dK (aU B.rus (.inr t:aB) (.ref a))) B.ru=some (.dK (aU B.rus (.inr t:aB) (.ref a))):=aJ
  have n7:∀b,upd H6 B.ru (.dK (aU B.rus (.inr t:aB) (.ref a))) b=none->H6 b=none:=fun b z=>by
   have:b≠B.ru:=fun y=>by rw[y,aJ]at z;cases z
   rw[aI this]at z
   exact z
  generalize upd H6 B.ru (.dK (aU B.rus (.inr t:aB) (.ref a)))=H7 at u7 r7 n7|-
  have b7:=u7 _ _ (fun z=>by rw[z,r6]at b6;cases b6) b6
  have m7:=u7 _ _ sp.um.symm m6
  refine fun m hm=> ?_
  have s8:=aH.new (o:=.dK []) hm
  refine⟨_,rfl,B.b,CB,dx,_,_,rfl,s8 _ _ b7,Y.cl,Y.n_memory,(dL _ _ _ _).2.2.1,_,rfl,B.me,_,rfl,gI.k (k:=Sum.inr t) (s8 _ _ m7) (dJ (by omega)),?_⟩
  have nmm:m≠B.me:=fun z=>by rw[z,m7]at hm;cases hm
  have u9:∀b o,b≠B.me->H7 b=some o->upd (upd H7 m (.dK [])) B.me (.dK (aU B.mes (.inr t:aB) (.ref m))) b=some o:=fun b o n z=>by
   rw[aI n]
   exact s8 _ _ z
  have e9:upd (upd H7 m (.dK [])) B.me (.dK (aU B.mes (.inr t:aB) (.ref m))) B.me=some (.dK (aU B.mes (.inr t:aB) (.ref m))):=aJ
  have d9:upd (upd H7 m (.dK [])) B.me (.dK (aU B.mes (.inr t:aB) (.ref m))) m=some (.dK []):=by rw[aI nmm,aJ]
  generalize upd (upd H7 m (.dK [])) B.me (.dK (aU B.mes (.inr t:aB) (.ref m)))=H9 at u9 e9 d9|-
  have up:∀b o,b≠B.od->b≠B.ru->b≠B.me->H b=some o->H9 b=some o:=fun b o n1 n2 n3 z=>u9 _ _ n3 (u7 _ _ n2 (u6 _ _ n1 z))
  obtain⟨⟨dt,t1⟩,t2,t3⟩:=id tb
  have nd3:∀{b:Addr} {o:HO},H b=some o->(∀kvs,o≠ .dK kvs)->b≠B.ru/\b≠B.me:=fun z n=>⟨fun y=>by rw[y,h3]at z;exact n _ (Option.some.inj z).symm,fun y=>by rw[y,h4]at z;exact n _ (Option.some.inj z).symm⟩
  have i1:=nd3 h1 (fun kvs z=>by cases z)
  have i2:=nd3 t1 (fun kvs z=>by cases z)
  have i3:=nd3 t2 (fun kvs z=>by cases z)
  have i5:=nd3 h5 (fun kvs z=>by cases z)
  refine q H9 m (n6 _ (n7 _ hm)).1 ⟨⟨dx,up _ _ (nl5 h1 (fun xs z=>by cases z)) i1.1 i1.2 h1⟩,⟨⟨dt,up _ _ (nl5 t1 (fun xs z=>by cases z)) i2.1 i2.2 t1⟩,up _ _ sp.ro i3.1 i3.2 t2,up _ _ (nl5 t3 (fun xs z=>by cases z)) sp.eu sp.em t3⟩,?_,e9,?_⟩ d9 up
  ·exact u9 _ _ sp.um r7
  ·exact u9 _ _ i5.2 (u7 _ _ i5.1 o6)
end
noncomputable def oZ (bd:Addr) (nm:Str) (m:Nat):List (Str×V):=[("boards",V.ref bd),("name",V.str nm),("size",V.int (m:Int))]
theorem sU(bd:Addr)(nm:Str)(m:Nat):(oZ bd nm m).lookup ("boards":Str)=some (.ref bd)/\(oZ bd nm m).lookup ("name":Str)=some (.str nm)/\(oZ bd nm m).lookup ("size":Str)=some (.int (m:Int))/\(oZ bd nm m).lookup ("take":Str)=none:=⟨rfl,rfl,rfl,rfl⟩
noncomputable def mJ (b:Addr) (t:Str) (a:Addr):List (Str×V):=[("board",V.ref b),("column",V.str t),("after",V.ref a),("before",V.non)]
theorem wJ(b:Addr)(t:Str)(a:Addr):(mJ b t a).lookup ("board":Str)=some (.ref b)/\(mJ b t a).lookup ("column":Str)=some (.str t)/\(mJ b t a).lookup ("after":Str)=some (.ref a)/\(mJ b t a).lookup ("take":Str)=none/\aN "before" .non (mJ b t a)=mJ b t a:=⟨rfl,rfl,rfl,rfl,rfl⟩
noncomputable def gN (b:Addr) (t:Str) (p:Nat) (v u:V):List (Str×V):=[("board",V.ref b),("column",V.str t),("place",V.int (p:Int)),("after",v),("before",u)]
theorem a0c(b:Addr)(t:Str)(p:Nat)(v u:V):(gN b t p v u).lookup ("board":Str)=some (.ref b)/\(gN b t p v u).lookup ("column":Str)=some (.str t)/\(gN b t p v u).lookup ("place":Str)=some (.int (p:Int))/\(gN b t p v u).lookup ("after":Str)=some v/\(gN b t p v u).lookup ("take":Str)=none/\∀u',aN "before" u' (gN b t p v u)=gN b t p v u':=⟨rfl,rfl,rfl,rfl,rfl,fun _=>rfl⟩
section
inductive yT(C:Addr)(vs:List V)(H:Hp)(Q:VK)(E:XK):Prop
 |mk (p dx bd:Addr) (nm:Str) (m:Nat):vs= [.ref p,.ref bd,.str nm,.int (m:Int)] ->H p=some (.ins C dx [])->(∀H',bC p H H'->H' p=some (.ins C dx (oZ bd nm m))->Q .non H')->yT C vs H Q E
theorem a65:bD ["self","boards","name","size"] ["self","boards","name","size"] (aO a1b):={}
theorem a7j(T:bF K mg)(Y:vS K mg C):eU P w K mg af aE 1 C ["self","boards","name","size"] (yT C):=by
 refine(Y.m_init.known a65 (fun _ _ _ _ _ _ us hl=>mS (fun _ _ _ _=>rfl) us hl) (fun vs H Q E h=> ?_) (fun f ah A ag s H vs Q E hr h=> ?_)).init Y.mks Y.kc
 ·obtain⟨p,dx,bd,nm,m,rfl,_⟩:=h
  rfl
 ·obtain⟨p,dx,bd,nm,m,rfl,hp,q⟩:=h
  refine⟨_,(aK (cY (pv 0) (pv 1) rfl) (aK (cY (pv 0) (pv 2) rfl) (aL (cY (pv 0) (pv 3) rfl)))),?_⟩
  refine⟨_,rfl,_,rfl,p,C,dx,[],rfl,hp,Y.cl,Y.n_boards,(by show 0<1000;decide),?_⟩
  refine⟨_,rfl,_,rfl,p,C,dx,_,rfl,aJ,Y.cl,Y.n_name,(by show 1<1000;decide),?_⟩
  refine⟨_,rfl,_,rfl,p,C,dx,_,rfl,aJ,Y.cl,Y.n_size,(by show 2<1000;decide),?_⟩
  exact q _ (fun b o n z=>by rw[aI n,aI n,aI n];exact z) aJ
inductive uD(C:Addr)(vs:List V)(H:Hp)(Q:VK)(E:XK):Prop
 |mk (p dx b a:Addr) (t:Str):vs= [.ref p,.ref b,.str t,.ref a] ->H p=some (.ins C dx [])->(∀H',bC p H H'->H' p=some (.ins C dx (mJ b t a))->Q .non H')->uD C vs H Q E
theorem a76:bD ["self","board","column","content"] ["self","board","column","content"] (aO a21):={}
theorem a2K(T:bF K mg)(Y:rE K mg C):eU P w K mg af aE 1 C ["self","board","column","content"] (uD C):=by
 refine(Y.m_init.known a76 (fun _ _ _ _ _ _ us hl=>mS (fun _ _ _ _=>rfl) us hl) (fun vs H Q E h=> ?_) (fun f ah A ag s H vs Q E hr h=> ?_)).init Y.mks Y.kc
 ·obtain⟨p,dx,b,a,t,rfl,_⟩:=h
  rfl
 ·obtain⟨p,dx,b,a,t,rfl,hp,q⟩:=h
  refine⟨_,(aK (cY (pv 0) (pv 1) rfl) (aK (cY (pv 0) (pv 2) rfl) (aK (cY (pv 0) (pv 3) rfl) (aL (cY (pv 0) gE rfl))))),?_⟩
  refine⟨_,rfl,_,rfl,p,C,dx,[],rfl,hp,Y.cl,Y.n_board,(by show 0<1000;decide),?_⟩
  refine⟨_,rfl,_,rfl,p,C,dx,_,rfl,aJ,Y.cl,Y.n_column,(by show 1<1000;decide),?_⟩
  refine⟨_,rfl,_,rfl,p,C,dx,_,rfl,aJ,Y.cl,Y.n_after,(by show 2<1000;decide),?_⟩
  refine⟨_,rfl,p,C,dx,_,rfl,aJ,Y.cl,Y.n_before,(by show 3<1000;decide),?_⟩
  exact q _ (fun b o n z=>by rw[aI n,aI n,aI n,aI n];exact z) aJ
inductive a0v(C:Addr)(vs:List V)(H:Hp)(Q:VK)(E:XK):Prop
 |mk (p dx b:Addr) (t:Str) (i:Nat) (v:V):vs= [.ref p,.ref b,.str t,.int (i:Int),v] ->H p=some (.ins C dx [])->(∀H',bC p H H'->H' p=some (.ins C dx (gN b t i v .non))->Q .non H')->a0v C vs H Q E
theorem a8G:bD ["self","board","column","place","value"] ["self","board","column","place","value"] (aO a08):={}
theorem a4G(T:bF K mg)(Y:rR K mg C):eU P w K mg af aE 1 C ["self","board","column","place","value"] (a0v C):=by
 refine(Y.m_init.known a8G (fun _ _ _ _ _ _ us hl=>qV (fun _ _ _ _ _=>rfl) us hl) (fun vs H Q E h=> ?_) (fun f ah A ag s H vs Q E hr h=> ?_)).init Y.mks Y.kc
 ·obtain⟨p,dx,b,t,i,v,rfl,_⟩:=h
  rfl
 ·obtain⟨p,dx,b,t,i,v,rfl,hp,q⟩:=h
  refine⟨_,(aK (cY (pv 0) (pv 1) rfl) (aK (cY (pv 0) (pv 2) rfl) (aK (cY (pv 0) (pv 3) rfl) (aK (cY (pv 0) (pv 4) rfl) (aL (cY (pv 0) gE rfl)))))),?_⟩
  refine⟨_,rfl,_,rfl,p,C,dx,[],rfl,hp,Y.cl,Y.n_board,(by show 0<1000;decide),?_⟩
  refine⟨_,rfl,_,rfl,p,C,dx,_,rfl,aJ,Y.cl,Y.n_column,(by show 1<1000;decide),?_⟩
  refine⟨_,rfl,_,rfl,p,C,dx,_,rfl,aJ,Y.cl,Y.n_place,(by show 2<1000;decide),?_⟩
  refine⟨_,rfl,_,rfl,p,C,dx,_,rfl,aJ,Y.cl,Y.n_after,(by show 3<1000;decide),?_⟩
  refine⟨_,rfl,p,C,dx,_,rfl,aJ,Y.cl,Y.n_before,(by show 4<1000;decide),?_⟩
  exact q _ (fun b o n z=>by rw[aI n,aI n,aI n,aI n,aI n];exact z) aJ
inductive sY(C CB CT:Addr)(vs:List V)(H:Hp)(Q:VK)(E:XK):Prop
 |mk (p dx bd:Addr) (nm:Str) (m:Nat) (kb:List (aB×V)):vs= [.ref p] ->H p=some (.ins C dx (oZ bd nm m))->H bd=some (.dK kb)->kb.length<100->m<=30->(∀H' b g r e ru me od,cR CB CT H' ⟨b,g,r,e,ru,me,od,fP 0 m,(m:Int),[],[],[],[]⟩ ->BM.sep ⟨b,g,r,e,ru,me,od,fP 0 m,(m:Int),[],[],[],[]⟩ ->(∀x∈ [b,g,r,e,ru,me,od],H x=none)->H' bd=some (.dK (aU kb (.inr nm:aB) (.ref b)))->(∀x o,x≠bd->H x=some o->H' x=some o)->Q .non H')->sY C CB CT vs H Q E
theorem a42:bD ["self"] ["self"] (aO a03):={}
theorem a7t(T:bF K mg)(Y:vS K mg C)(W:dG K mg CB)(Z:dZ K mg CT):aS P w K mg af aE 7 C "take" ["self"] (sY C CB CT):=by
 have GI:eU P w K mg af aE 5 CB ["self","many"] (wI CB CT):=a8v T W Z
 refine Y.m_take.known a42 (fun _ _ _ _ _ _ us hl=>fL (fun _=>rfl) us hl) (fun vs H Q E h=> ?_) (fun f ah A ag s H vs Q E hr h=> ?_)
 ·obtain⟨p,dx,bd,nm,m,kb,rfl,_⟩:=h
  rfl
 ·obtain⟨p,dx,bd,nm,m,kb,rfl,hp,hb,kl,hm,q⟩:=h
  refine⟨_,(aL (jI (dQ hr) (aW (pv 0) rfl) (aW (pv 0) rfl) (lL GI hr W.c aR (aA (aW (pv 0) rfl) aG)) rfl)),?_⟩
  refine⟨_,rfl,p,C,dx,_,_,rfl,hp,Y.cl,Y.n_size,(sU _ _ _).2.2.1,?_⟩
  intro b db hb0 hdb ne
  refine⟨b,db,m,rfl,aJ,hm,fun H1 g r e ru me od hB sp fr fm=>⟨rfl,?_⟩⟩
  have s1:aH H H1:=fun x o z=>fm x o (by rw[aI (bE z hb0),aI (bE z hdb)];exact z) (bE z hb0)
  have fr':∀x∈ [b,g,r,e,ru,me,od],H x=none:=fun x hx=>by
   rcases List.mem_cons.mp hx with rfl|hx
   ·exact hb0
   ·have:=fr x hx
    by_cases z:x=b
    ·rw[z];exact hb0
    ·by_cases z2:x=db
     ·rw[z2];exact hdb
     ·rw[aI z,aI z2]at this;exact this
  refine⟨_,rfl,p,C,dx,_,_,rfl,s1 _ _ hp,Y.cl,Y.n_boards,(sU _ _ _).1,_,rfl,p,C,dx,_,_,rfl,s1 _ _ hp,Y.cl,Y.n_name,(sU _ _ _).2.1,bd,_,rfl,gI.k (k:=Sum.inr nm) (s1 _ _ hb) (dJ (by omega)),?_⟩
  have nb:∀{x:Addr},x∈ [b,g,r,e,ru,me,od] ->x≠bd:=fun hx z=>by rw[<- z,fr' _ hx]at hb;cases hb
  have u:∀x o,x≠bd->H1 x=some o->upd H1 bd (.dK (aU kb (.inr nm:aB) (.ref b))) x=some o:=fun x o n z=>by rw[aI n];exact z
  obtain⟨⟨d1,e1⟩,⟨⟨d2,e2⟩,e3,e4⟩,e5,e6,e7⟩:=hB
  exact q _ b g r e ru me od ⟨⟨d1,u _ _ (nb (by simp)) e1⟩,⟨⟨d2,u _ _ (nb (by simp)) e2⟩,u _ _ (nb (by simp)) e3,u _ _ (nb (by simp)) e4⟩,u _ _ (nb (by simp)) e5,u _ _ (nb (by simp)) e6,u _ _ (nb (by simp)) e7⟩ sp fr' aJ (fun x o n z=>u _ _ n (s1 _ _ z))
inductive qL(C CB CT:Addr)(sp:Sp)(vs:List V)(H:Hp)(Q:VK)(E:XK):Prop
 |mk (p dx a:Addr) (B:BM) (t:Str):vs= [.ref p] ->H p=some (.ins C dx (mJ B.b t a))->cR CB CT H B->pH B t->(sp [.ref B.b,.str t,.ref a] H (fun _ H'=>Q .non H') E0)->qL C CB CT sp vs H Q E
theorem a5M:bD ["self"] ["self"] (aO a2G):={}
theorem a0W(T:bF K mg)(Y:rE K mg C)(W:dG K mg CB)(G:aS P w K mg af aE 6 CB "set_column" ["self","column","content"] sp):aS P w K mg af aE 7 C "take" ["self"] (qL C CB CT sp):=by
 have G_content:aS P w K mg af aE 2 CB "content" ["self","column"] (oQ CB CT):=a7l T W
 refine Y.m_take.known a5M (fun _ _ _ _ _ _ us hl=>fL (fun _=>rfl) us hl) (fun vs H Q E h=> ?_) (fun f ah A ag s H vs Q E hr h=> ?_)
 ·obtain⟨p,dx,a,B,t,rfl,_⟩:=h
  rfl
 ·obtain⟨p,dx,a,B,t,rfl,hp,hB,hn,q⟩:=h
  refine⟨_,(aK (cY (pv 0) (cB (aW (pv 0) rfl) W.cl G_content hr.mn aR (aA (aW (pv 0) rfl) aG)) rfl)
   (aL (cG (cB (aW (pv 0) rfl) W.cl G hr aR (aA (aW (pv 0) rfl) (aA (aW (pv 0) rfl) aG)))))),?_⟩
  obtain⟨c1,c2,c3,c4,c5⟩:=wJ B.b t a
  obtain⟨dB,h1⟩:=hB.at_
  refine⟨_,rfl,p,C,dx,_,_,rfl,hp,Y.cl,Y.n_board,c1,B.b,dB,_,rfl,h1,oG,_,rfl,p,C,dx,_,_,rfl,hp,Y.cl,Y.n_column,c2,B,t,rfl,hB,hn,?_⟩
  refine⟨_,rfl,p,C,dx,_,rfl,hp,Y.cl,Y.n_before,(by show 4<1000;decide),?_⟩
  rw[c5,a8q hp]
  exact⟨_,rfl,p,C,dx,_,_,rfl,hp,Y.cl,Y.n_board,c1,B.b,dB,_,rfl,h1,oG,_,rfl,p,C,dx,_,_,rfl,hp,Y.cl,Y.n_column,c2,_,rfl,p,C,dx,_,_,rfl,hp,Y.cl,Y.n_after,c3,q⟩
inductive uJ(K:Fg)(C CB CT:Addr)(vs:List V)(H:Hp)(Q:VK)(E:XK):Prop
 |mk (p dx l:Addr) (B:BM) (t:Str) (i:Nat) (v u:V) (d:PyData) (ys:List V):vs= [.ref p] ->H p=some (.ins C dx (gN B.b t i v u))->cR CB CT H B->Nl t->aF B.kvs (.inr t:aB)=some (.ref l)->H l=some (.lst ys)->i<B.xs.length->ys.length=B.xs.length->Pv K H v d->(∀H',(∀x o,x≠p->x≠l->H x=some o->H' x=some o)->H' l=some (.lst (ys.set i v))->Q .non H')->uJ K C CB CT vs H Q E
theorem a8B:bD ["self"] ["self"] (aO a1F):={}
theorem a8z(T:bF K mg)(Y:rR K mg C)(W:dG K mg CB)(Z:dZ K mg CT):aS P w K mg af aE 7 C "take" ["self"] (uJ K C CB CT):=by
 have G_at:aS P w K mg af aE 3 CT "at" ["self","column","place"] (tK CT):=a1a T Z
 have G_put:aS P w K mg af aE 5 CT "put" ["self","column","place","value"] (wF K CT):=a7I T Z
 refine Y.m_take.known a8B (fun _ _ _ _ _ _ us hl=>fL (fun _=>rfl) us hl) (fun vs H Q E h=> ?_) (fun f ah A ag s H vs Q E hr h=> ?_)
 ·obtain⟨p,dx,l,B,t,i,v,u,d,ys,rfl,_⟩:=h
  rfl
 ·obtain⟨p,dx,l,B,t,i,v,u,d,ys,rfl,hp,hB,ht,hv,hl,hi,ly,hpv,q⟩:=h
  refine⟨_,(aK (cY (pv 0) (cB (aW (aW (pv 0) rfl) rfl) Z.cl G_at hr.mn aR (aA (aW (pv 0) rfl) (aA (aW (pv 0) rfl) aG))) rfl)
   (aL (cG (cB (aW (aW (pv 0) rfl) rfl) Z.cl G_put hr.mn aR (aA (aW (pv 0) rfl) (aA (aW (pv 0) rfl) (aA (aW (pv 0) rfl) aG))))))),?_⟩
  obtain⟨c1,c2,c3,c4,c5,c6⟩:=a0c B.b t i v u
  obtain⟨⟨dB,h1⟩,tb,_,_,_⟩:=id hB
  obtain⟨⟨dT,t1⟩,_,_⟩:=id tb
  obtain⟨x0,hx0⟩:∃x0,cQ ys (i:Int)=some x0:=by
   obtain⟨x0,e1,_⟩:=a4D ys (i:Int) (by omega) (by omega)
   exact⟨x0,e1⟩
  refine⟨_,rfl,p,C,dx,_,_,rfl,hp,Y.cl,Y.n_board,c1,B.b,CB,dB,_,_,rfl,h1,W.cl,W.n_given,(dL _ _ _ _).1,B.g,dT,_,rfl,t1,gU,_,rfl,p,C,dx,_,_,rfl,hp,Y.cl,Y.n_column,c2,_,rfl,p,C,dx,_,_,rfl,hp,Y.cl,Y.n_place,c3,B.g,B.r,B.e,B.xs,B.n,B.kvs,t,l,ys,i,x0,rfl,tb,ht,hv,hl,hi,hx0,fun H1 s1=> ?_⟩
  refine⟨_,rfl,p,C,dx,_,rfl,s1 _ _ hp,Y.cl,Y.n_before,(by show 5<1000;decide),?_⟩
  rw[c6]
  obtain⟨c1,c2,c3,c4,c5,c6⟩:=a0c B.b t i v x0
  have u2:∀x o,x≠p->H1 x=some o->upd H1 p (.ins C dx (gN B.b t i v x0)) x=some o:=fun x o n z=>by rw[aI n];exact z
  have p2:upd H1 p (.ins C dx (gN B.b t i v x0)) p=some (.ins C dx (gN B.b t i v x0)):=aJ
  have kt:bS H1 (upd H1 p (.ins C dx (gN B.b t i v x0))):=bS.upd (s1 _ _ hp) (fun xs z=>by cases z)
  generalize upd H1 p (.ins C dx (gN B.b t i v x0))=H2 at u2 p2 kt|-
  have npb:B.b≠p:=(uS hp h1 (by simp[gN,jU,kQ])).symm
  have npg:B.g≠p:=(uS hp t1 (by simp[gN,jU,kQ])).symm
  have np:∀{x:Addr} {o:HO},H x=some o->(∀C dx fs,o≠ .ins C dx fs)->x≠p:=fun z n y=>by rw[y,hp]at z;exact n _ _ _ (Option.some.inj z).symm
  have b2:=u2 _ _ npb (s1 _ _ h1)
  have g2:=u2 _ _ npg (s1 _ _ t1)
  obtain⟨_,tr,te⟩:=id tb
  have tb2:iV CT H2 B.g B.r B.e B.xs B.n B.kvs:=⟨⟨dT,g2⟩,u2 _ _ (np tr (fun _ _ _ z=>by cases z)) (s1 _ _ tr),u2 _ _ (np te (fun _ _ _ z=>by cases z)) (s1 _ _ te)⟩
  refine⟨_,rfl,p,C,dx,_,_,rfl,p2,Y.cl,Y.n_board,c1,B.b,CB,dB,_,_,rfl,b2,W.cl,W.n_given,(dL _ _ _ _).1,B.g,dT,_,rfl,g2,gU,_,rfl,p,C,dx,_,_,rfl,p2,Y.cl,Y.n_column,c2,_,rfl,p,C,dx,_,_,rfl,p2,Y.cl,Y.n_place,c3,_,rfl,p,C,dx,_,_,rfl,p2,Y.cl,Y.n_after,c4,B.g,B.r,B.e,B.xs,B.n,B.kvs,t,l,ys,i,v,d,rfl,tb2,ht,hv,u2 _ _ (np hl (fun _ _ _ z=>by cases z)) (s1 _ _ hl),hi,by omega,(hpv.same s1).keep kt,fun H3 s3=> ?_⟩
  exact q _ (fun x o n1 n2 z=>by rw[aI n2];exact s3 _ _ (u2 _ _ n1 (s1 _ _ z))) aJ
end
def dF(bd ch fi:Addr):List (Str×V):=[("boards",V.ref bd),("changes",V.ref ch),("finder",V.ref fi)]
theorem lJ(bd ch fi:Addr):(dF bd ch fi).lookup ("boards":Str)=some (.ref bd)/\(dF bd ch fi).lookup ("changes":Str)=some (.ref ch)/\(dF bd ch fi).lookup ("finder":Str)=some (.ref fi)/\∀fi',aN "finder" (.ref fi') (dF bd ch fi)=dF bd ch fi':=⟨rfl,rfl,rfl,fun _=>rfl⟩
theorem fE(h:(m==("boards":Str)||m==("changes":Str)||m==("finder":Str))=false:=by decide+kernel):(dF bd ch fi).lookup m=none:=by
 simp only[Bool.or_eq_false_iff]at h
 obtain⟨⟨h1,h2⟩,h3⟩:=h
 unfold dF
 simp[List.lookup,h1,h2,h3]
def gD(bd fd lk:Addr):List (Str×V):=[("boards",V.ref bd),("found",V.ref fd),("looked",V.ref lk)]
theorem iX(bd fd lk:Addr):(gD bd fd lk).lookup ("boards":Str)=some (.ref bd)/\(gD bd fd lk).lookup ("found":Str)=some (.ref fd)/\(gD bd fd lk).lookup ("looked":Str)=some (.ref lk):=⟨rfl,rfl,rfl⟩
theorem gP(h:(m==("boards":Str)||m==("found":Str)||m==("looked":Str))=false:=by decide+kernel):(gD bd fd lk).lookup m=none:=by
 simp only[Bool.or_eq_false_iff]at h
 obtain⟨⟨h1,h2⟩,h3⟩:=h
 unfold gD
 simp[List.lookup,h1,h2,h3]
section
inductive uO(C:Addr)(vs:List V)(H:Hp)(Q:VK)(E:XK):Prop
 |mk (p dx bd:Addr):vs= [.ref p,.ref bd] ->H p=some (.ins C dx [])->(∀H' fd lk,H fd=none->H lk=none->fd≠lk->H' p=some (.ins C dx (gD bd fd lk))->H' fd=some (.dT [])->H' lk=some (.dT [])->bC p H H'->Q .non H')->uO C vs H Q E
theorem a4j:bD ["self","boards"] ["self","boards"] (aO a16):={}
theorem a3N(T:bF K mg)(Y:fC K mg C):eU P w K mg af aE 1 C ["self","boards"] (uO C):=by
 refine(Y.m_init.known a4j (fun _ _ _ _ _ _ us hl=>eC (fun _ _=>rfl) us hl) (fun vs H Q E h=> ?_) (fun f ah A ag s H vs Q E hr h=> ?_)).init Y.mks Y.kc
 ·obtain⟨p,dx,bd,rfl,_⟩:=h
  rfl
 ·obtain⟨p,dx,bd,rfl,hp,q⟩:=h
  refine⟨_,(aK (cY (pv 0) (pv 1) rfl) (aK (cY (pv 0) qJ rfl) (aL (cY (pv 0) qJ rfl)))),?_⟩
  refine⟨_,rfl,_,rfl,p,C,dx,[],rfl,hp,Y.cl,Y.n_boards,(by show 0<1000;decide),?_⟩
  have u1:∀b o,b≠p->H b=some o->upd H p (.ins C dx (aN "boards" (.ref bd) [])) b=some o:=fun b o n z=>by rw[aI n];exact z
  have p1:upd H p (.ins C dx (aN "boards" (.ref bd) [])) p=some (.ins C dx (aN "boards" (.ref bd) [])):=aJ
  have n1:∀b,upd H p (.ins C dx (aN "boards" (.ref bd) [])) b=none->H b=none/\b≠p:=fun b z=>by
   have:b≠p:=fun y=>by rw[y,aJ]at z;cases z
   rw[aI this]at z
   exact⟨z,this⟩
  generalize upd H p (.ins C dx (aN "boards" (.ref bd) []))=H1 at u1 p1 n1|-
  refine fun fd hfd=> ?_
  have s2:=aH.new (o:=.dT []) hfd
  have h2:upd H1 fd (.dT []) fd=some (.dT []):=aJ
  have n2:∀b,upd H1 fd (.dT []) b=none->H1 b=none/\b≠fd:=fun b z=>by
   have:b≠fd:=fun y=>by rw[y,aJ]at z;cases z
   rw[aI this]at z
   exact⟨z,this⟩
  refine⟨_,rfl,p,C,dx,_,rfl,s2 _ _ p1,Y.cl,Y.n_found,(by show 1<1000;decide),?_⟩
  have hf:=n1 _ hfd
  generalize upd H1 fd (.dT [])=H2 at s2 h2 n2|-
  have u3:∀b o,b≠p->H2 b=some o->upd H2 p (.ins C dx (aN "found" (.ref fd) (aN "boards" (.ref bd) []))) b=some o:=fun b o n z=>by rw[aI n];exact z
  have p3:upd H2 p (.ins C dx (aN "found" (.ref fd) (aN "boards" (.ref bd) []))) p=some (.ins C dx (aN "found" (.ref fd) (aN "boards" (.ref bd) []))):=aJ
  have n3:∀b,upd H2 p (.ins C dx (aN "found" (.ref fd) (aN "boards" (.ref bd) []))) b=none->H2 b=none/\b≠p:=fun b z=>by
   have:b≠p:=fun y=>by rw[y,aJ]at z;cases z
   rw[aI this]at z
   exact⟨z,this⟩
  generalize upd H2 p (.ins C dx (aN "found" (.ref fd) (aN "boards" (.ref bd) [])))=H3 at u3 p3 n3|-
  refine fun lk hlk=> ?_
  have s4:=aH.new (o:=.dT []) hlk
  have h4:upd H3 lk (.dT []) lk=some (.dT []):=aJ
  refine⟨_,rfl,p,C,dx,_,rfl,s4 _ _ p3,Y.cl,Y.n_looked,(by show 2<1000;decide),?_⟩
  have k3:=n3 _ hlk
  have k2:=n2 _ k3.1
  have k1:=n1 _ k2.1
  generalize upd H3 lk (.dT [])=H4 at s4 h4|-
  exact q _ fd lk hf.1 k1.1 k2.2.symm aJ (by rw[aI hf.2];exact s4 _ _ (u3 _ _ hf.2 h2)) (by rw[aI k1.2];exact h4) (fun b o n z=>by rw[aI n];exact s4 _ _ (u3 _ _ n (s2 _ _ (u1 _ _ n z))))
inductive pJ(CS CF C:Addr)(sp:Sp)(vs:List V)(H:Hp)(Q:VK)(E:XK):Prop
 |mk (s c bd ch fi dx dc:Addr) (cs:List V) (fs:List (Str×V)):vs= [.ref s,.ref c] ->H c=some (.ins C dc fs)->fs.lookup ("take":Str)=none->(sp [.ref c] H (fun _ H1=>H1 s=some (.ins CS dx (dF bd ch fi))/\H1 ch=some (.lst cs)/\cs.length<900/\∀H2 fi' fd lk df,H1 fi'=none->H1 fd=none->H1 lk=none->fd≠lk->H2 s=some (.ins CS dx (dF bd ch fi'))->H2 ch=some (.lst (cs++ [.ref c]))->H2 fi'=some (.ins CF df (gD bd fd lk))->H2 fd=some (.dT [])->H2 lk=some (.dT [])->
  (∀x o,x≠s->x≠ch->H1 x=some o->H2 x=some o)->Q .non H2) E0)->pJ CS CF C sp vs H Q E
theorem a6f:bD ["self","change"] ["self","change"] (aO a2U):={}
def nB(sp:Sp):Prop:=∀vs H (Q Q':VK),(∀v H',Q v H'->Q' v H')->sp vs H Q E0->sp vs H Q' E0
theorem uV(T:bF K mg)(Y:gM K mg CS)(Z:fC K mg CF)(cl:cI K C)(mono:nB sp)(G:aS P w K mg af aE 7 C "take" ["self"] sp):aS P w K mg af aE 8 CS "make" ["self","change"] (pJ CS CF C sp):=by
 have GI:eU P w K mg af aE 1 CF ["self","boards"] (uO CF):=a3N T Z
 refine Y.m_make.known a6f (fun _ _ _ _ _ _ us hl=>eC (fun _ _=>rfl) us hl) (fun vs H Q E h=> ?_) (fun f ah A ag s H vs Q E hr h=> ?_)
 ·obtain⟨s',c,bd,ch,fi,dx,dc,cs,fs,rfl,_⟩:=h
  rfl
 ·obtain⟨s',c,bd,ch,fi,dx,dc,cs,fs,rfl,hc,hf,q⟩:=h
  refine⟨_,(aK (cG (lM (pv 1) cl G hr aR))
   (aK (cG (kI F.plainAttrs_list F.slot_list_append F.type_list_append jN (aW (pv 0) rfl) (aA (pv 1) aG)))
   (aL (cY (pv 0) (lL GI hr.mn Z.c aR (aA (aW (pv 0) rfl) aG)) rfl)))),?_⟩
  refine⟨_,rfl,c,dc,fs,rfl,hc,hf,?_⟩
  refine mono _ _ _ _ (fun v0 H1 hQ=> ?_) q
  obtain⟨h1,h2,l9,qq⟩:=hQ
  obtain⟨a1,a2,a3,a4⟩:=lJ bd ch fi
  refine⟨_,rfl,s',CS,dx,_,_,rfl,h1,Y.cl,Y.n_changes,a2,.inl ⟨rfl,_,aM.of h2⟩,_,rfl,ch,_,_,rfl,rfl,h2,dJ (by omega),?_⟩
  have nsc:s'≠ch:=fun z=>by rw[z,h2]at h1;cases h1
  have u2:∀x o,x≠ch->H1 x=some o->upd H1 ch (.lst (cs++ [.ref c])) x=some o:=fun x o n z=>by rw[aI n];exact z
  have c2:upd H1 ch (.lst (cs++ [.ref c])) ch=some (.lst (cs++ [.ref c])):=aJ
  have n2:∀b,upd H1 ch (.lst (cs++ [.ref c])) b=none->H1 b=none/\b≠ch:=fun b z=>by
   have:b≠ch:=fun y=>by rw[y,aJ]at z;cases z
   rw[aI this]at z
   exact⟨z,this⟩
  generalize upd H1 ch (.lst (cs++ [.ref c]))=H2 at u2 c2 n2|-
  have s2:=u2 _ _ nsc h1
  refine⟨_,rfl,s',CS,dx,_,_,rfl,s2,Y.cl,Y.n_boards,a1,?_⟩
  intro fi' df hfi hdf ne
  refine⟨fi',df,bd,rfl,aJ,fun H3 fd lk hfd hlk nfl g1 g2 g3 b3=>⟨rfl,?_⟩⟩
  have s3:aH H2 H3:=fun b o z=>b3 b o (bE z hfi) (by rw[aI (bE z hfi),aI (bE z hdf)];exact z)
  have fr:∀{x:Addr},upd (upd H2 df (.own fi')) fi' (.ins CF df []) x=none->H2 x=none:=fun{x} z=>by
   by_cases z1:x=fi'
   ·rw[z1];exact hfi
   ·by_cases z2:x=df
    ·rw[z2];exact hdf
    ·rw[aI z1,aI z2]at z;exact z
  refine⟨_,rfl,s',CS,dx,_,rfl,s3 _ _ s2,Y.cl,Y.n_finder,(by show 3<1000;decide),?_⟩
  rw[a4]
  have ns:∀{x:Addr},H2 x=none->x≠s':=fun z y=>by rw[y,s2]at z;cases z
  exact qq _ fi' fd lk df (n2 _ hfi).1 (n2 _ (fr hfd)).1 (n2 _ (fr hlk)).1 nfl aJ (by rw[aI nsc.symm];exact s3 _ _ c2) (by rw[aI (ns hfi)];exact g1) (by rw[aI (ns (fr hfd))];exact g2) (by rw[aI (ns (fr hlk))];exact g3) (fun x o n1 n2' z=>by rw[aI n1];exact s3 _ _ (u2 _ _ n2' z))
inductive tQ(CS CB CT:Addr)(vs:List V)(H:Hp)(Q:VK)(E:XK):Prop
 |mk (s bd ch fi dx:Addr) (kb:List (aB×V)) (nm:Str) (v:V):vs= [.ref s,.str nm] ->H s=some (.ins CS dx (dF bd ch fi))->H bd=some (.dK kb)->Nl nm->aF kb (.inr nm:aB)=some v->(∀H',aH H H'->Q v H')->tQ CS CB CT vs H Q E
theorem a7z:bD ["self","table"] ["self","table"] (aO a3e):={}
theorem a1E(T:bF K mg)(Y:gM K mg CS):aS P w K mg af aE 2 CS "board_of" ["self","table"] (tQ CS CB CT):=by
 have G_is_name:bG P w K mg af aE 1 "is_name" ["thing"] (kT K):=mQ T
 refine Y.m_board_of.known a7z (fun _ _ _ _ _ _ us hl=>eC (fun _ _=>rfl) us hl) (fun vs H Q E h=> ?_) (fun f ah A ag s H vs Q E hr h=> ?_)
 ·obtain⟨s',bd,ch,fi,dx,kb,nm,v,rfl,_⟩:=h
  rfl
 ·obtain⟨s',bd,ch,fi,dx,kb,nm,v,rfl,h1,h2,ht,hv,q⟩:=h
  refine⟨_,(aK (bK (PW.pt (gZ (eI (dI (bQ G_is_name hr.mn aR (aA (pv 1) aG)) (fun _=>rfl))) (jK (iR (lY (dQ hr) (pv 1) (aW (pv 0) rfl)))))) (aL cJ) bO)
   (aL (bL (fQ (dQ hr) (aW (pv 0) rfl) (pv 1) (fun _ _=>rfl))))),?_⟩
  have h8:=ht.2.1
  refine⟨_,rfl,_,.str nm,rfl,.str nm,lP (by omega),fun H' s9=>⟨_,rfl,?_⟩⟩
  rw[show fN (.str nm)=true from ht.name]
  refine bH ⟨_,rfl,_,rfl,s',CS,dx,_,_,rfl,s9 _ _ h1,Y.cl,Y.n_boards,(lJ _ _ _).1,bd,_,rfl,bW.k (k:=Sum.inr nm) (s9 _ _ h2),_,rfl,?_⟩
  rw[hv]
  exact bH ⟨_,rfl,s',CS,dx,_,_,rfl,s9 _ _ h1,Y.cl,Y.n_boards,(lJ _ _ _).1,_,rfl,bd,v,rfl,hv▸bW.k (k:=Sum.inr nm) (s9 _ _ h2),q _ s9⟩
inductive qT(CS CB CT:Addr)(vs:List V)(H:Hp)(Q:VK)(E:XK):Prop
 |mk (s bd ch fi dx:Addr) (kb:List (aB×V)) (nm t:Str) (B:BM):vs= [.ref s,.str nm,.str t] ->H s=some (.ins CS dx (dF bd ch fi))->H bd=some (.dK kb)->Nl nm->aF kb (.inr nm:aB)=some (.ref B.b)->cR CB CT H B->Nl t->t∈B.ord->(∀H',aH H H'->Q (.ref B.b) H')->qT CS CB CT vs H Q E
theorem a3A:bD ["self","table","column","board"] ["self","table","column"] (aO a3s):={}
theorem wN(T:bF K mg)(Y:gM K mg CS)(W:dG K mg CB):aS P w K mg af aE 3 CS "board_with" ["self","table","column"] (qT CS CB CT):=by
 have G_of:aS P w K mg af aE 2 CS "board_of" ["self","table"] (tQ CS CB CT):=a1E T Y
 have G_has:aS P w K mg af aE 2 CB "has_column" ["self","column"] (sT CB CT):=a3E T W
 refine Y.m_board_with.known a3A (fun _ _ _ _ _ _ us hl=>iN (fun _ _ _=>rfl) us hl) (fun vs H Q E h=> ?_) (fun f ah A ag s H vs Q E hr h=> ?_)
 ·obtain⟨s',bd,ch,fi,dx,kb,nm,t,B,rfl,_⟩:=h
  rfl
 ·obtain⟨s',bd,ch,fi,dx,kb,nm,t,B,rfl,h1,h2,hn,hv,hB,ht,ho,q⟩:=h
  refine⟨_,(aK (bU (i:=3) a3A.nd rfl (Or.inl rfl) (cB (pv 0) Y.cl G_of hr aR (aA (pv 1) aG)))
   (aK (bK (eI (dI (cB (pv 3) W.cl G_has hr aR (aA (pv 2) aG)) (fun _=>rfl))) (aL cJ) bO)
   (aL (bL (pv 3))))),?_⟩
  refine⟨_,rfl,s',dx,_,rfl,h1,fE,_,rfl,s',bd,ch,fi,dx,kb,nm,_,rfl,h1,h2,hn,hv,fun H1 s1=> ?_⟩
  have hB1:=hB.same s1
  obtain⟨dB,b1⟩:=hB1.at_
  refine⟨_,rfl,B.b,dB,_,rfl,b1,oG,_,rfl,B,t,rfl,hB1,ht,fun H2 s2=>⟨_,rfl,?_⟩⟩
  rw[decide_eq_true ho]
  exact bH ⟨_,rfl,q _ (s1.trans s2)⟩
inductive tL(CS CB CT:Addr)(vs:List V)(H:Hp)(Q:VK)(E:XK):Prop
 |mk (s bd ch fi dx:Addr) (kb:List (aB×V)) (nm t:Str) (B:BM):vs= [.ref s,.str nm,.str t] ->H s=some (.ins CS dx (dF bd ch fi))->H bd=some (.dK kb)->Nl nm->aF kb (.inr nm:aB)=some (.ref B.b)->cR CB CT H B->Nl t->B.ord.length<8->(∀H',aH H H'->Q (.ref B.b) H')->tL CS CB CT vs H Q E
theorem a3j:bD ["self","table","column","board"] ["self","table","column"] (aO a3S):={}
theorem a3z(T:bF K mg)(Y:gM K mg CS)(W:dG K mg CB):aS P w K mg af aE 3 CS "board_for" ["self","table","column"] (tL CS CB CT):=by
 have G_of:aS P w K mg af aE 2 CS "board_of" ["self","table"] (tQ CS CB CT):=a1E T Y
 have G_is_name:bG P w K mg af aE 1 "is_name" ["thing"] (kT K):=mQ T
 refine Y.m_board_for.known a3j (fun _ _ _ _ _ _ us hl=>iN (fun _ _ _=>rfl) us hl) (fun vs H Q E h=> ?_) (fun f ah A ag s H vs Q E hr h=> ?_)
 ·obtain⟨s',bd,ch,fi,dx,kb,nm,t,B,rfl,_⟩:=h
  rfl
 ·obtain⟨s',bd,ch,fi,dx,kb,nm,t,B,rfl,h1,h2,hn,hv,hB,ht,ho,q⟩:=h
  refine⟨_,(aK (bU (i:=3) a3j.nd rfl (Or.inl rfl) (cB (pv 0) Y.cl G_of hr aR (aA (pv 1) aG)))
   (aK (bK (eI (dI (bQ G_is_name hr.mn aR (aA (pv 2) aG)) (fun _=>rfl))) (aL cJ) bO)
   (aK (bK (PW.pt (kU (cU zG (pv 2) (aW (pv 3) rfl) (by with_unfolding_all rfl)) (lU (cU a0s (cS gX rfl T.len gB (aA (aW (pv 3) rfl) aG)) (pA T.g_MOST_COLUMNS) (cO _))))) (aL cJ) bO)
   (aL (bL (pv 3)))))),?_⟩
  refine⟨_,rfl,s',dx,_,rfl,h1,fE,_,rfl,s',bd,ch,fi,dx,kb,nm,_,rfl,h1,h2,hn,hv,fun H1 s1=> ?_⟩
  have h8:=ht.2.1
  refine⟨_,rfl,_,.str t,rfl,.str t,lP (by omega),fun H2 s2=>⟨_,rfl,?_⟩⟩
  rw[show fN (.str t)=true from ht.name]
  obtain⟨⟨dB,b1⟩,_,_,_,o1⟩:=(hB.same s1).same s2
  refine bH ⟨_,rfl,_,rfl,B.b,CB,dB,_,_,rfl,b1,W.cl,W.n_order,(dL _ _ _ _).2.2.2,B.od,_,rfl,.inl (aM.of o1),rfl,nV _,_,rfl,?_⟩
  have fin:Q (.ref B.b) H2:=q _ (s1.trans s2)
  refine dM (fun _=> ?_) (fun _=> ?_)
  ·refine⟨_,rfl,B.b,CB,dB,_,_,rfl,b1,W.cl,W.n_order,(dL _ _ _ _).2.2.2,_,_,rfl,.inl ⟨_,aM.of o1,rfl⟩,_,_,rfl,rfl,_,rfl,?_⟩
   rw[List.length_map,decide_eq_false (show¬(B.ord.length:Int)>=8 by omega)]
   exact bH ⟨_,rfl,fin⟩
  ·exact bH ⟨_,rfl,fin⟩
end
abbrev Ky:=List aB
variable{kf kf' kl:List (My.Ky×V)}
def bI(t c:Str)(p:Nat):Ky:=[.inr t,.inr c,.inl (p:Int)]
structure dU(CF CB CT:Addr)(H:Hp)(fi bd fd lk:Addr)(nm:Str)(B:BM)(kf:List (Ky×V)):Prop where
 fin:∃dx,H fi=some (.ins CF dx (gD bd fd lk))
 bds:∃kb,H bd=some (.dK kb)/\aF kb (.inr nm:aB)=some (.ref B.b)
 B:cR CB CT H B
 fnd:H fd=some (.dT kf)
 len:kf.length<900
theorem dU.same{nm:Str}{B:BM}(h:dU CF CB CT H fi bd fd lk nm B kf)(s:aH H H'):dU CF CB CT H' fi bd fd lk nm B kf:=
 ⟨let ⟨dx,e⟩:=h.fin;⟨dx,s _ _ e⟩,let ⟨kb,e1,e2⟩:=h.bds;⟨kb,s _ _ e1,e2⟩,h.B.same s,s _ _ h.fnd,h.len⟩
theorem dU.put{nm:Str}{B:BM}(h:dU CF CB CT H fi bd fd lk nm B kf)(s:bC fd H H')(e:H' fd=some (.dT kf'))(l:kf'.length<900):dU CF CB CT H' fi bd fd lk nm B kf':=by
 have u:∀{x:Addr} {o:HO},H x=some o->(∀kvs,o≠ .dT kvs)->H' x=some o:=fun z n=>s _ _ (fun y=>by rw[y,h.fnd]at z;exact n _ (Option.some.inj z).symm) z
 obtain⟨dx,e1⟩:=h.fin
 obtain⟨kb,e2,e3⟩:=h.bds
 obtain⟨⟨d1,b1⟩,⟨⟨d2,b2⟩,b3,b4⟩,b5,b6,b7⟩:=h.B
 exact⟨⟨dx,u e1 (fun _ z=>by cases z)⟩,⟨kb,u e2 (fun _ z=>by cases z),e3⟩,⟨⟨d1,u b1 (fun _ z=>by cases z)⟩,⟨⟨d2,u b2 (fun _ z=>by cases z)⟩,u b3 (fun _ z=>by cases z),u b4 (fun _ z=>by cases z)⟩,u b5 (fun _ z=>by cases z),u b6 (fun _ z=>by cases z),u b7 (fun _ z=>by cases z)⟩,e,l⟩
section
inductive uA(CF CB CT:Addr)(vs:List V)(H:Hp)(Q:VK)(E:XK):Prop
 |mk (fi bd fd lk ce l:Addr) (nm c:Str) (p:Nat) (B:BM) (kf:List (Ky×V)) (ys:List V) (v:V):vs= [.ref fi,.ref ce] ->dU CF CB CT H fi bd fd lk nm B kf->H ce=some (.tup ((bI nm c p).map kV))->aF B.rus (.inr c:aB)=none->Nl c->aF B.kvs (.inr c:aB)=some (.ref l)->H l=some (.lst ys)->p<B.xs.length->cQ ys (p:Int)=some v->(∀v',aF kf (bI nm c p)=some v'->v'=v)->kf.length<899->(∀H' kf',(kf'=kf\/ kf'=aU kf (bI nm c p) v)->aF kf' (bI nm c p)=some v->dU CF CB CT H' fi bd fd lk nm B kf'->bC fd H H'->Q (.bl true) H')->uA CF CB CT vs H Q E
theorem vI:bD ["self","cell","board"] ["self","cell"] (aO a2Y):={}
theorem a2y(T:bF K mg)(Y:fC K mg CF)(W:dG K mg CB)(Z:dZ K mg CT):aS P w K mg af aE 4 CF "knows" ["self","cell"] (uA CF CB CT):=by
 have G_at:aS P w K mg af aE 3 CT "at" ["self","column","place"] (tK CT):=a1a T Z
 refine Y.m_knows.known vI (fun _ _ _ _ _ _ us hl=>eC (fun _ _=>rfl) us hl) (fun vs H Q E h=> ?_) (fun f ah A ag s H vs Q E hr h=> ?_)
 ·obtain⟨fi,bd,fd,lk,ce,l,nm,c,p,B,kf,ys,v,rfl,_⟩:=h
  rfl
 ·obtain⟨fi,bd,fd,lk,ce,l,nm,c,p,B,kf,ys,v,rfl,hF,hce,hru,hc,hv,hl,hp,ha,hcon,kl,q⟩:=h
  have hu:=dQ hr
  refine⟨_,(aK (bU (i:=2) vI.nd rfl (Or.inl rfl) (fQ hu (aW (pv 0) rfl) (dA fG (pv 1) aY (fun _ _=>rfl)) (fun _ _=>rfl)))
   (aK (bK (PW.pt (kU (iR (lY hu (pv 1) (aW (pv 0) rfl))) (lU (iR (lY hu (dA fG (pv 1) aY (fun _ _=>rfl)) (aW (pv 2) rfl)))))) (aL (jI hu (aW (pv 0) rfl) (pv 1) (cB (aW (pv 2) rfl) Z.cl G_at hr aR (aA (dA fG (pv 1) aY (fun _ _=>rfl)) (aA (dA fG (pv 1) aY (fun _ _=>rfl)) aG))) rfl)) bO)
   (aL (bL (a0q (nM hu (pv 1) (aW (pv 0) rfl)) (by with_unfolding_all rfl)))))),?_⟩
  obtain⟨dx,e1⟩:=hF.fin
  obtain⟨kb,e2,e3⟩:=hF.bds
  obtain⟨⟨d1,b1⟩,tb,b5,_,_⟩:=id hF.B
  obtain⟨⟨d2,b2⟩,b3,b4⟩:=id tb
  have e4:=hF.fnd
  obtain⟨a1,a2,a3⟩:=iX bd fd lk
  refine⟨_,rfl,fi,CF,dx,_,_,rfl,e1,Y.cl,Y.n_boards,a1,_,rfl,ce,_,_,_,rfl,rfl,cF.of hce,rfl,bd,_,rfl,e3▸bW.k (k:=Sum.inr nm) e2,?_⟩
  have dgf:∀{H':Hp} {kf':List (Ky×V)},H' fd=some (.dT kf')->H' ce=some (.tup ((bI nm c p).map kV))->bW H' fd (.ref ce) (aF kf' (bI nm c p)):=fun e g=> .inr ⟨_,bI nm c p,ce,.inl e,rfl,g,rfl⟩
  refine⟨_,rfl,_,rfl,fi,CF,dx,_,_,rfl,e1,Y.cl,Y.n_found,a2,fd,_,rfl,dgf e4 hce,_,rfl,?_⟩
  cases hk:aF kf (bI nm c p)with
  |some v'=>
   obtain rfl:=hcon v' hk
   refine bH (bH ⟨_,rfl,_,rfl,fi,CF,dx,_,_,rfl,e1,Y.cl,Y.n_found,a2,fd,_,rfl,dgf e4 hce,?_⟩)
   rw[hk]
   exact q H kf (.inl rfl) hk hF (bC.of (aH.refl H))
  |none=>
   refine cE ⟨_,rfl,ce,_,_,_,rfl,rfl,cF.of hce,rfl,_,rfl,B.b,CB,d1,_,_,rfl,b1,W.cl,W.n_rules,(dL _ _ _ _).2.1,B.ru,_,rfl,bW.k (k:=Sum.inr c) b5,_,rfl,?_⟩
   rw[hru]
   refine cE ⟨_,rfl,B.b,CB,d1,_,_,rfl,b1,W.cl,W.n_given,(dL _ _ _ _).1,B.g,d2,_,rfl,b2,gU,_,rfl,ce,_,_,_,rfl,rfl,cF.of hce,rfl,_,rfl,ce,_,_,_,rfl,rfl,cF.of hce,rfl,B.g,B.r,B.e,B.xs,B.n,B.kvs,c,l,ys,p,v,rfl,tb,hc,hv,hl,hp,ha,fun H1 s1=> ?_⟩
   have F1:=hF.same s1
   have c1:=s1 _ _ hce
   have nce:ce≠fd:=fun z=>by rw[z,e4]at hce;cases hce
   refine⟨_,rfl,fi,CF,dx,_,_,rfl,s1 _ _ e1,Y.cl,Y.n_found,a2,_,rfl,fd,_,rfl,.inr ⟨kf,bI nm c p,ce,F1.fnd,rfl,c1,dJ (by omega),rfl⟩,?_⟩
   have vp:aF (aU kf (bI nm c p) v) (bI nm c p)=some v:=by rw[fD,if_pos rfl]
   have lp:=xD kf (bI nm c p) v
   have b2':bC fd H1 (upd H1 fd (.dT (aU kf (bI nm c p) v))):=fun b o n z=>by rw[aI n];exact z
   have F2:=F1.put b2' aJ (by omega)
   have c2:=b2' _ _ nce c1
   have f2:=F2.fnd
   generalize upd H1 fd (.dT (aU kf (bI nm c p) v))=H2 at b2' F2 c2 f2|-
   obtain⟨dx2,e12⟩:=F2.fin
   refine⟨_,rfl,_,rfl,fi,CF,dx2,_,_,rfl,e12,Y.cl,Y.n_found,a2,fd,_,rfl,dgf f2 c2,?_⟩
   rw[vp]
   exact q H2 _ (.inr rfl) vp F2 ((bC.of s1).trans b2')
inductive rO(CF CB CT:Addr)(vs:List V)(H:Hp)(Q:VK)(E:XK):Prop
 |mk (fi bd fd lk ce:Addr) (nm c:Str) (p:Nat) (B:BM) (kf:List (Ky×V)) (r:V):vs= [.ref fi,.ref ce] ->dU CF CB CT H fi bd fd lk nm B kf->H ce=some (.tup ((bI nm c p).map kV))->aF B.rus (.inr c:aB)=some r->Q (.bl (aF kf (bI nm c p)).isSome) H->rO CF CB CT vs H Q E
theorem zR(T:bF K mg)(Y:fC K mg CF)(W:dG K mg CB):aS P w K mg af aE 4 CF "knows" ["self","cell"] (rO CF CB CT):=by
 refine Y.m_knows.known vI (fun _ _ _ _ _ _ us hl=>eC (fun _ _=>rfl) us hl) (fun vs H Q E h=> ?_) (fun f ah A ag s H vs Q E hr h=> ?_)
 ·obtain⟨fi,bd,fd,lk,ce,nm,c,p,B,kf,r,rfl,_⟩:=h
  rfl
 ·obtain⟨fi,bd,fd,lk,ce,nm,c,p,B,kf,r,rfl,hF,hce,hru,q⟩:=h
  have hu:=dQ hr
  refine⟨_,(aK (bU (i:=2) vI.nd rfl (Or.inl rfl) (fQ hu (aW (pv 0) rfl) (dA fG (pv 1) aY (fun _ _=>rfl)) (fun _ _=>rfl)))
   (aK (bK (PW.pt (kU (iR (lY hu (pv 1) (aW (pv 0) rfl))) (lU (iR (lY hu (dA fG (pv 1) aY (fun _ _=>rfl)) (aW (pv 2) rfl)))))) (aL cJ) bO)
   (aL (bL (a0q (nM hu (pv 1) (aW (pv 0) rfl)) (by with_unfolding_all rfl)))))),?_⟩
  obtain⟨dx,e1⟩:=hF.fin
  obtain⟨kb,e2,e3⟩:=hF.bds
  obtain⟨⟨d1,b1⟩,tb,b5,_,_⟩:=id hF.B
  have e4:=hF.fnd
  obtain⟨a1,a2,a3⟩:=iX bd fd lk
  refine⟨_,rfl,fi,CF,dx,_,_,rfl,e1,Y.cl,Y.n_boards,a1,_,rfl,ce,_,_,_,rfl,rfl,cF.of hce,rfl,bd,_,rfl,e3▸bW.k (k:=Sum.inr nm) e2,?_⟩
  have dgf:bW H fd (.ref ce) (aF kf (bI nm c p)):=.inr ⟨_,bI nm c p,ce,.inl e4,rfl,hce,rfl⟩
  refine⟨_,rfl,_,rfl,fi,CF,dx,_,_,rfl,e1,Y.cl,Y.n_found,a2,fd,_,rfl,dgf,_,rfl,?_⟩
  refine dM (fun _=> ?_) (fun _=> ?_)
  ·refine⟨_,rfl,ce,_,_,_,rfl,rfl,cF.of hce,rfl,_,rfl,B.b,CB,d1,_,_,rfl,b1,W.cl,W.n_rules,(dL _ _ _ _).2.1,B.ru,_,rfl,bW.k (k:=Sum.inr c) b5,_,rfl,?_⟩
   rw[hru]
   exact bH ⟨_,rfl,_,rfl,fi,CF,dx,_,_,rfl,e1,Y.cl,Y.n_found,a2,fd,_,rfl,dgf,q⟩
  ·exact bH ⟨_,rfl,_,rfl,fi,CF,dx,_,_,rfl,e1,Y.cl,Y.n_found,a2,fd,_,rfl,dgf,q⟩
def eE(fi tl:Addr)(u:V):List (Str×V):=[("finder",V.ref fi),("looked",V.ref tl),("lacking",u)]
theorem pY(fi tl:Addr)(u:V):(eE fi tl u).lookup ("finder":Str)=some (.ref fi)/\(eE fi tl u).lookup ("looked":Str)=some (.ref tl)/\(eE fi tl u).lookup ("lacking":Str)=some u/\(eE fi tl u).lookup ("look":Str)=none:=⟨rfl,rfl,rfl,rfl⟩
inductive zO(C:Addr)(vs:List V)(H:Hp)(Q:VK)(E:XK):Prop
 |mk (p dx fi:Addr):vs= [.ref p,.ref fi] ->H p=some (.ins C dx [])->(∀H' tl,H tl=none->H' p=some (.ins C dx (eE fi tl .non))->H' tl=some (.dT [])->bC p H H'->Q .non H')->zO C vs H Q E
theorem a6N:bD ["self","finder"] ["self","finder"] (aO a2i):={}
theorem a8o(T:bF K mg)(Y:mV K mg C):eU P w K mg af aE 1 C ["self","finder"] (zO C):=by
 refine(Y.m_init.known a6N (fun _ _ _ _ _ _ us hl=>eC (fun _ _=>rfl) us hl) (fun vs H Q E h=> ?_) (fun f ah A ag s H vs Q E hr h=> ?_)).init Y.mks Y.kc
 ·obtain⟨p,dx,fi,rfl,_⟩:=h
  rfl
 ·obtain⟨p,dx,fi,rfl,hp,q⟩:=h
  refine⟨_,(aK (cY (pv 0) (pv 1) rfl) (aK (cY (pv 0) qJ rfl) (aL (cY (pv 0) gE rfl)))),?_⟩
  refine⟨_,rfl,_,rfl,p,C,dx,[],rfl,hp,Y.cl,Y.n_finder,(by show 0<1000;decide),?_⟩
  have u1:∀b o,b≠p->H b=some o->upd H p (.ins C dx (aN "finder" (.ref fi) [])) b=some o:=fun b o n z=>by rw[aI n];exact z
  have p1:upd H p (.ins C dx (aN "finder" (.ref fi) [])) p=some (.ins C dx (aN "finder" (.ref fi) [])):=aJ
  have n1:∀b,upd H p (.ins C dx (aN "finder" (.ref fi) [])) b=none->H b=none/\b≠p:=fun b z=>by
   have:b≠p:=fun y=>by rw[y,aJ]at z;cases z
   rw[aI this]at z
   exact⟨z,this⟩
  generalize upd H p (.ins C dx (aN "finder" (.ref fi) []))=H1 at u1 p1 n1|-
  refine fun tl htl=> ?_
  have s2:=aH.new (o:=.dT []) htl
  have h2:upd H1 tl (.dT []) tl=some (.dT []):=aJ
  refine⟨_,rfl,p,C,dx,_,rfl,s2 _ _ p1,Y.cl,Y.n_looked,(by show 1<1000;decide),?_⟩
  have ht:=n1 _ htl
  generalize upd H1 tl (.dT [])=H2 at s2 h2|-
  refine⟨_,rfl,p,C,dx,_,rfl,aJ,Y.cl,Y.n_lacking,(by show 2<1000;decide),?_⟩
  exact q _ tl ht.1 aJ (by rw[aI ht.2,aI ht.2];exact h2) (fun b o n z=>by rw[aI n,aI n];exact s2 _ _ (u1 _ _ n z))
theorem a33:bD ["self","table","column","place","cell"] ["self","table","column","place"] (aO a3c):={}
end
abbrev aQ:=Str×Str×Nat
variable{wo wo':My.aQ->Option (List Int×V)}{Vc:My.aQ->Prop}{L:List My.aQ}
def cK(x:aQ):Ky:=bI x.1 x.2.1 x.2.2
theorem rL{x y:aQ}(h:cK x=cK y):x=y:=by
 unfold cK bI at h
 simp only[List.cons.injEq,Sum.inr.injEq,Sum.inl.injEq,and_true]at h
 exact Prod.ext h.1 (Prod.ext h.2.1 (by omega))
inductive GT where
 |done(t:PyData ⊕ List Int)
 |look(c:aQ)(k:PyData->GT)
variable{J:Option My.GT->Hp->Prop}
def GT.run(val:aQ->PyData):GT->PyData ⊕ List Int
 | .done t=>t
 | .look c k=>(k (val c)).run val
def GT.looks(val:aQ->PyData):GT->List aQ
 | .done _=> []
 | .look c k=>c::(k (val c)).looks val
inductive GT.Path(val:aQ->PyData)(τ:GT):List aQ->GT->Prop
 |nil:GT.Path val τ [] τ
 |snoc {us:List aQ} {c:aQ} {k:PyData->GT} (h:GT.Path val τ us (.look c k)):GT.Path val τ (us++ [c]) (k (val c))
theorem GT.Path.run{val:aQ->PyData}{τ τ':GT}{us:List aQ}(h:GT.Path val τ us τ'):τ.run val=τ'.run val:=by
 induction h with
 |nil=>rfl
 |snoc h ih=>exact ih
theorem GT.Path.looks{val:aQ->PyData}{τ τ':GT}{us:List aQ}(h:GT.Path val τ us τ'):τ.looks val=us++ τ'.looks val:=by
 induction h with
 |nil=>rfl
 |snoc h ih=>rw[ih,List.append_assoc];rfl
def isT:PyData->Bool
 | .tuple _=>true
 |_=>false
def eW:PyData->Int
 | .int i=>i
 |_=>0
def iK(k:PyData ⊕ List Int->GT):List aQ->List Int->GT
 | [],acc=>k (.inr acc)
 |c::r,acc=> .look c fun d=>if isT d then k (.inl d) else iK k r (acc++ [eW d])
theorem a0a(k:PyData ⊕ List Int->GT)(c:aQ)(r:List aQ)(acc:List Int):iK k (c::r) acc= .look c fun d=>if isT d then k (.inl d) else iK k r (acc++ [eW d]):=by rw[iK]
def lO:PyData:=.tuple [.str "fault",.str "unknown"]
def dP(H H':Hp):Prop:=∀x o,(∃xs,o= .tup xs\/ ∃q,o= .frz q (.tup xs))->H x=some o->H' x=some o
theorem dP.of(s:aH H H'):dP H H':=fun x o _ e=>s _ _ e
theorem dP.t(s:dP H H'):bS H H':=fun a xs e=>s _ _ ⟨xs,.inl rfl⟩ e
theorem dP.upd{o':HO}(h:H l=some o)(n:∀xs,o≠ .tup xs)(n':∀q xs,o≠ .frz q (.tup xs)):dP H (L2.upd H l o'):=fun x ob hx e=>by
 rw[aI (fun y=>by
  rw[y,h]at e
  obtain⟨xs,rfl|⟨q,rfl⟩⟩:=hx
  ·exact n _ (Option.some.inj e)
  ·exact n' _ _ (Option.some.inj e))]
 exact e
theorem uT{v:V}(hv:Vd d)(h:Dt K H v d)(u:dP H H'):Dt K H' v d:=by
 rcases hv with⟨i,rfl,hb⟩|⟨z,rfl,hz⟩
 ·cases h
  exact .int i
 ·cases h with
  |tup hq hall=>
   cases hall with
   |cons h1 t=>
    cases h1
    cases t with
    |cons h2 t=>
     cases h2
     cases t
     refine .tup ?_ (.cons (.str _) (.cons (.str _) .nil))
     rcases hq with h|h
     ·rcases h with h|⟨o,h⟩
      ·exact .inl (.inl (u _ _ ⟨_,.inl rfl⟩ h))
      ·exact .inl (.inr ⟨o,u _ _ ⟨_,.inr ⟨o,rfl⟩⟩ h⟩)
     ·exact .inr h
def Pd(K:Fg)(H:Hp)(v:V)(d:PyData):Prop:=Vd d/\Dt K H v d
theorem Pd.keep{v:V}(h:Pd K H v d)(u:dP H H'):Pd K H' v d:=⟨h.1,uT h.1 h.2 u⟩
theorem Pd.same{v:V}(h:Pd K H v d)(u:aH H H'):Pd K H' v d:=h.keep (dP.of u)
theorem Pv.pd{v:V}(h:Pv K H v d):Pd K H v d:=⟨h.vd,h.dt⟩
theorem Vd.isT(h:Vd d):iQ d=My.isT d:=by
 rcases h with⟨i,rfl,_⟩|⟨z,rfl,hz⟩
 ·rfl
 ·show(decide (("fault":Str)= "fault")&&fN (.str z))=true
  rw[decide_eq_true rfl,Bool.true_and]
  exact Nl.name hz
theorem a4r:Vd lO:=.inr ⟨"unknown",rfl,by unfold Nl;decide+kernel⟩
theorem kW{v:V}(h:xs[i]?=some v):cQ xs (i:Int)=some v:=by
 have hi:=(List.getElem?_eq_some_iff.mp h).1
 unfold cQ
 rw[vV (by omega) (by omega),Int.toNat_natCast]
 exact h
theorem mZ{α:Type}{zs:List α}{z:α}(h:zs[i]?=some z):zs.drop i=z::zs.drop (i+ 1):=by
 obtain⟨hi,e⟩:=List.getElem?_eq_some_iff.mp h
 rw[List.drop_eq_getElem_cons hi,e]
theorem a12{α β:Type}{R:α->β->Prop}:∀{xs:List α} {ys:List β} {i:Nat} {x:α},Paired R xs ys->xs[i]?=some x->∃y,ys[i]?=some y/\R x y
 |_,_,_,_,.nil,e=>by simp at e
 |_,_,0,_,.cons h _,e=>by simp at e;subst e;exact⟨_,rfl,h⟩
 |_,_,i+ 1,_,.cons _ t,e=>by simpa using a12 (i:=i) t (by simpa using e)
theorem Paired.imp{α β:Type}{R R':α->β->Prop}(h:∀a b,R a b->R' a b):∀{xs:List α} {ys:List β},Paired R xs ys->Paired R' xs ys
 |_,_,.nil=> .nil
 |_,_,.cons a t=> .cons (h _ _ a) (Paired.imp h t)
theorem Paired.snoc{α β:Type}{R:α->β->Prop}{x:α}{y:β}(h:R x y):∀{xs:List α} {ys:List β},Paired R xs ys->Paired R (xs++ [x]) (ys++ [y])
 |_,_,.nil=> .cons h .nil
 |_,_,.cons a t=> .cons a (Paired.snoc h t)
def cL(H H':Hp):Prop:=∀b u,H b=some (Fz u)->H' b=some (Fz u)
theorem cL.of(s:aH H H'):cL H H':=fun b u e=>s _ _ e
theorem cL.but(s:bC l H H')(h:H l=some o)(n:∀u,o≠Fz u):cL H H':=fun b u e=>s _ _ (fun z=>by rw[z,h]at e;exact n _ (Option.some.inj e)) e
def oddD:PyData:=.tuple [.str "fault",.str "odd"]
def fK(d:PyData):PyData:=if jF d then d else oddD
def qN(H:Hp)(mk:Option V)(is:List Int)(v:V)(lc:Addr):Prop:=H lc=some (.lst (is.map V.int))/\(mk=none->v= .ref lc)/\∀m,mk=some m->∃tp,v= .ref tp/\H tp=some (.tup [m,.ref lc])
theorem qN.mv{mk:Option V}{is:List Int}{v:V}{lc:Addr}(k:bS H H')(e:H' lc=some (.lst (is.map V.int)))(h:qN H mk is v lc):qN H' mk is v lc:=⟨e,h.2.1,fun m hm=>let ⟨tp,a,b⟩:=h.2.2 m hm;⟨tp,a,k _ _ b⟩⟩
def fF(ca:Option Addr)(cs:List V)(H:Hp):Prop:=(ca=none->cs= [])/\∀a,ca=some a->H a=some (.lst cs)
theorem fF.same(s:aH H H')(h:fF ca cs H):fF ca cs H':=⟨h.1,fun a e=>s _ _ (h.2 a e)⟩
def qM(ca:Option Addr)(mk:Option V)(is:List Int)(H H':Hp)(ns:List V):Prop:=(ca=none->ns= [])/\∀a,ca=some a->∃nv lc,ns= [nv] /\H lc=none/\qN H' mk is nv lc
def ButO(ca:Option Addr)(H H':Hp):Prop:=∀b o,ca≠some b->H b=some o->H' b=some o
theorem fF.ne(h:fF ca cs H)(e:H b=some o)(n:∀y,o≠ .lst y):ca≠some b:=fun y=>by
 rw[h.2 b y]at e
 exact n _ (Option.some.inj e).symm
theorem fF.new(h:fF ca cs H)(e:H b=none):ca≠some b:=fun y=>by
 rw[h.2 b y]at e
 cases e
inductive a1r(K:Fg)(LP:Hp->Prop)(ca:Option Addr)(mk:Option V)(g:List Int->PyData)(ok:List Int->Prop)(vs:List V)(H:Hp)(Q:VK)(E:XK):Prop
 |mk (l:Addr) (is:List Int) (cs:List V):vs= [.ref l] ->LP H->H l=some (.lst (is.map V.int))->fF ca cs H->cs.length<900->ok is->is.length<=100->ca≠some l->(∀H' v ns,ButO ca H H'->fF ca (cs++ ns) H'->qM ca mk is H H' ns->Dt K H' v (g is)->Q v H')->a1r K LP ca mk g ok vs H Q E
def lR(P:Program)(w:World)(K:Fg)(mg:Str->Option Value)(af:Heap)(k:Nat)(H:Hp)(fa:Addr)(ca:Option Addr)(mk:Option V)(g:List Int->PyData)(ok:List Int->Prop):Prop:=∃LP,eO P w K mg af k fa (a1r K LP ca mk g ok)/\LP H/\∀H H',cL H H'->LP H->LP H'
theorem lR.keep{k:Nat}{mk:Option V}{g:List Int->PyData}{ok:List Int->Prop}(s:cL H H')(h:lR P w K mg af k H fa ca mk g ok):lR P w K mg af k H' fa ca mk g ok:=by
 obtain⟨LP,h1,h2,h3⟩:=h
 exact⟨LP,h1,h3 _ _ s h2,h3⟩
def RF(fs:List (Str×V))(fa:Addr):Prop:=fs.lookup ("function":Str)=some (.ref fa)/\fs.lookup ("reckon":Str)=none
section
inductive wB(K:Fg)(p:Addr)(vs:List V)(H:Hp)(Q:VK)(E:XK):Prop
 |mk (x:_) (d:_):vs= [x] ->Dt K H x d->jS d->(∀H',aH H H'->Q (if jF d then x else .ref p) H')->wB K p vs H Q E
theorem a8f:bD ["thing"] ["thing"] (aO a2L):={}
theorem a8R(T:bF K mg){p:Addr}(hp:mg "ODD"=some (.ref p)):bG P w K mg af aE 4 "settled" ["thing"] (wB K p):=by
 have G_is_value:bG P w K mg af aE 3 "is_value" ["thing"] (rH K):=xO T
 refine T.d_settled.known a8f (fun _ _ _ _ _ _ us hl=>fL (fun _=>rfl) us hl) (fun vs H Q E h=> ?_) (fun f ah A ag s H vs Q E hr h=> ?_)
 ·obtain⟨x,d,rfl,_⟩:=h
  rfl
 ·obtain⟨x,d,rfl,hd,hsh,q⟩:=h
  refine⟨_,(aK (bK (dI (bQ G_is_value hr.mn aR (aA (pv 0) aG)) (fun _=>rfl)) (aL (bL (pv 0))) bO)
   (aL (bL (yM hp)))),?_⟩
  refine⟨_,rfl,x,d,rfl,hd,hsh,fun H' s'=>⟨_,rfl,?_⟩⟩
  have q':=q H' s'
  refine dM (fun h1=> ?_) (fun h1=> ?_)
  ·rw[if_pos h1]at q'
   exact⟨_,rfl,q'⟩
  ·rw[if_neg h1]at q'
   exact q'
inductive wR(P:Program)(w:World)(K:Fg)(mg:Str->Option Value)(af:Heap)(k:Nat)(C:Addr)(vs:List V)(H:Hp)(Q:VK)(E:XK):Prop
 |mk (p a fa dx:Addr) (ca:Option Addr) (mk:Option V) (fs:List (Str×V)) (g:List Int->PyData) (ok:List Int->Prop) (is:List Int) (cs:List V):vs= [.ref p,.ref a] ->H p=some (.ins C dx fs)->RF fs fa->lR P w K mg af k H fa ca mk g ok->H a=some (.lst (is.map V.int))->fF ca cs H->cs.length<900->ok is->is.length<=100->jS (g is)->(∀H' v ns,ButO ca H H'->fF ca (cs++ ns) H'->qM ca mk is H H' ns->Dt K H' v (fK (g is))->Q v H')->wR P w K mg af k C vs H Q E
theorem a8N:bD ["self","some"] ["self","some"] (aO vD):={}
structure qO(K:Fg)(C:Addr):Prop where
 cl:cI K C
 rk:bM K C "reckon" "Rule.reckon" vD
 nf:cH K C "function"
theorem a46(T:bF K mg)(Y:qO K C){k:Nat}(hk:4<=k):aS P w K mg af aE (k+ 1) C "reckon" ["self","some"] (wR P w K mg af k C):=by
 obtain⟨pO,hpO,hO⟩:=T.g_ODD
 have G_settled:bG P w K mg af aE 4 "settled" ["thing"] (wB K pO):=a8R T hpO
 refine Y.rk.known a8N (fun _ _ _ _ _ _ us hl=>eC (fun _ _=>rfl) us hl) (fun vs H Q E h=> ?_) (fun f ah A ag s H vs Q E hr h=> ?_)
 ·obtain⟨p,a,fa,dx,ca,mk,fs,g,ok,is,cs,rfl,_⟩:=h
  rfl
 ·obtain⟨p,a,fa,dx,ca,mk,fs,g,ok,is,cs,rfl,hp,hfs,⟨LP,F,lp,stb⟩,ha,hca,cl,l0,l1,hsh,q⟩:=h
  refine⟨_,(aL (bL (bQ G_settled (hr.mono hk) aR (aA (a5m (k:=k) (pv 0) hr (aA (nK rS rfl T.list jL (aA (pv 1) aG)) aG)) aG)))),?_⟩
  refine⟨_,rfl,p,C,dx,_,fa,_,rfl,hp,Y.cl,Y.nf,hfs.1,F,_,rfl,a,_,rfl,.inl (aM.of ha),fun xl hxl=> ?_⟩
  have s1:=aH.new (o:=.lst (is.map V.int)) hxl
  refine⟨xl,is,cs,rfl,stb _ _ (cL.of s1) lp,aJ,hca.same s1,cl,l0,l1,hca.new hxl,fun H3 v ns b3 c3 n3 hd=> ?_⟩
  refine⟨v,_,rfl,hd,hsh,fun H4 s4=> ?_⟩
  refine q H4 _ ns (fun b o n e=>s4 _ _ (b3 _ _ n (s1 _ _ e))) (c3.same s4) ⟨n3.1,fun x e=> ?_⟩ ?_
  ·obtain⟨nv,lc,e1,e2,e3⟩:=n3.2 x e
   exact⟨nv,lc,e1,jH s1 e2,e3.mv (bS.of s4) (s4 _ _ e3.1)⟩
  unfold fK
  by_cases c:jF (g is)=true
  ·rw[if_pos c,if_pos c]
   exact hd.same s4
  ·rw[if_neg c,if_neg c]
   exact .tup (hO H4) (.cons (.str _) (.cons (.str _) .nil))
theorem tY(is:List Int):(PyData.list (is.map PyData.int)).canLay0=true/\(PyData.list (is.map PyData.int)).depth<=64:=by
 have h1:PyData.canLayAll0 (is.map PyData.int)=true:=by
  induction is with
  |nil=>rfl
  |cons i r ih=>rw[List.map_cons,PyData.canLayAll0,ih];rfl
 have h2:PyData.depthAll (is.map PyData.int)=0:=by
  induction is with
  |nil=>rfl
  |cons i r ih=>
   have h3:PyData.canLayAll0 (r.map PyData.int)=true:=by
    have:=h1
    rw[List.map_cons,PyData.canLayAll0,Bool.and_eq_true]at this
    exact this.2
   rw[List.map_cons]
   show max 0 (PyData.depthAll (r.map PyData.int))=0
   rw[ih h3]
   rfl
 refine⟨h1,?_⟩
 show PyData.depthAll (is.map PyData.int)+ 1<=64
 rw[h2]
 decide
theorem oN{K:Fg}{H:Hp}:∀is:List Int,dN K H (is.map V.int) (is.map PyData.int)
 | []=> .nil
 |i::r=> .cons (.int i) (oN r)
theorem uM:∀is js:List Int,PyData.eqv (.list (is.map PyData.int)) (.list (js.map PyData.int))=decide (is=js)
 | [],[]=>by simp[PyData.eqv,PyData.eqvAll]
 | [],j::js=>by simp[PyData.eqv,PyData.eqvAll]
 |i::is,[]=>by simp[PyData.eqv,PyData.eqvAll]
 |i::is,j::js=>by
  have ih:=uM is js
  simp only[PyData.eqv]at ih
  simp only[List.map_cons,PyData.eqv,PyData.eqvAll,ih]
  by_cases h1:i=j<;>by_cases h2:is=js<;>simp[h1,h2]
theorem a5A{m:Addr}{v:V}(hv:Vd d)(h:Dt K H v d)(hm:H m=some (.dK kvs))(u:∀x o,x≠m->H x=some o->H' x=some o):Dt K H' v d:=by
 rcases hv with⟨i,rfl,hb⟩|⟨z,rfl,hz⟩
 ·cases h
  exact .int i
 ·cases h with
  |tup hq hall=>
   cases hall with
   |cons h1 t=>
    cases h1
    cases t with
    |cons h2 t=>
     cases h2
     cases t
     refine .tup ?_ (.cons (.str _) (.cons (.str _) .nil))
     rcases hq with h|h
     ·rcases h with h|⟨o,h⟩
      ·exact .inl (.inl (u _ _ (fun y=>by rw[y,hm]at h;cases h) h))
      ·exact .inl (.inr ⟨o,u _ _ (fun y=>by rw[y,hm]at h;cases h) h⟩)
     ·exact .inr h
def Was(H:Hp)(mk:List (aB×V))(num:Int)(js:List Int)(vv:V):Prop:=∃tp lo,aF mk (.inl num:aB)=some (.ref tp)/\H tp=some (.tup [.ref lo,vv])/\H lo=some (.lst (js.map V.int))
def RkR(P:Program)(w:World)(K:Fg)(mg:Str->Option Value)(af:Heap)(k:Nat)(C:Addr)(sp:Sp):Prop:=qO K C/\sp=wR P w K mg af k C
inductive wZ(P:Program)(w:World)(K:Fg)(mg:Str->Option Value)(af:Heap)(k:Nat)(CB CT:Addr)(vs:List V)(H:Hp)(Q:VK)(E:XK):Prop
 |mk (sm gr mc fa dx CG:Addr) (ca:Option Addr) (mkk:Option V) (c:Str) (fs:List (Str×V)) (p:Nat) (num:Int) (B:BM) (mk:List (aB×V)) (g:List Int->PyData) (ok:List Int->Prop) (is:List Int) (cs:List V):vs= [.ref B.b,.str c,.int (p:Int),.ref sm] ->cR CB CT H B->aF B.rus (.inr c:aB)=some (.ref gr)->aF B.mes (.inr c:aB)=some (.ref mc)->H mc=some (.dK mk)->mk.length<100->p<B.xs.length->cQ B.xs (p:Int)=some (.int num)->H gr=some (.ins CG dx fs)->qO K CG->RF fs fa->lR P w K mg af k H fa ca mkk g ok->H sm=some (.lst (is.map V.int))->fF ca cs H->cs.length<900->ok is->is.length<=100->jS (g is)->Vd (fK (g is))->((∃vv,Was H mk num is vv/\Q vv H)\/ ((aF mk (.inl num:aB)=none\/ ∃js vv,Was H mk num js vv/\js≠is)/\
  ∀H' v ns tp,(∀x o,ca≠some x->x≠mc->H x=some o->H' x=some o)->fF ca (cs++ ns) H'->qM ca mkk is H H' ns->H tp=none->H' tp=some (.tup [.ref sm,v])->H' mc=some (.dK (aU mk (.inl num:aB) (.ref tp)))->Dt K H' v (fK (g is))->Q v H'))->wZ P w K mg af k CB CT vs H Q E
abbrev Nou:List Str:=["self","column","place","some","remembered","number"]
theorem yC:bD Nou ["self","column","place","some"] (aO vU):={}
theorem a5g(T:bF K mg)(Y:dG K mg CB)(Z:dZ K mg CT){k:Nat}(hk:4<=k):aS P w K mg af aE (k+ 2) CB "outcome" ["self","column","place","some"] (wZ P w K mg af k CB CT):=by
 have G_num:aS P w K mg af aE 3 CT "number_at" ["self","place"] (vX CT):=a8j T Z
 have G_rck:∀C sp,RkR P w K mg af k C sp->cI K C/\aS P w K mg af aE (k+ 1) C "reckon" ["self","some"] sp:=fun C sp h=>by
  obtain⟨h1,rfl⟩:=h
  exact⟨h1.cl,a46 T h1 hk⟩
 refine Y.m_outcome.known yC (fun _ _ _ _ _ _ us hl=>mS (fun _ _ _ _=>rfl) us hl) (fun vs H Q E h=> ?_) (fun f ah A ag s H vs Q E hr h=> ?_)
 ·obtain⟨sm,gr,mc,fa,dx,CG,ca,mkk,c,fs,p,num,B,mk,g,ok,is,cs,rfl,_⟩:=h
  rfl
 ·obtain⟨sm,gr,mc,fa,dx,CG,ca,mkk,c,fs,p,num,B,mk,g,ok,is,cs,rfl,hB,hru,hme,hmc,ml,hp,hnum,hgr,hW,hfs,FN,hsm,hca,cl,l0,l1,hsh,hvd,q⟩:=h
  have hu:=dQ hr
  have cT:∃t,eS (eJ aE P w K mg af Nou "Board.outcome" (aO vU) f ah A ag s H E).nox ((eZ vU).drop 3) t/\
   ∀(H1:Hp) (tp:Addr) (x v:V) (mk':List (aB×V)),H1 mc=some (.dK mk')->aF mk' (.inl num:aB)=some (.ref tp)->H1 tp=some (.tup [x,v])->Q v H1->t {nx:=fun _ H'=>Q .non H',rt:=Q} [some (.ref B.b),some (.str c),some (.int (p:Int)),some (.ref sm),some (.ref mc),some (.int num)] H1:=by
   refine⟨_,(aL (bL (dA fG (fQ hu (pv 4) (pv 5) (fun _ _=>rfl)) aY (fun _ _=>rfl)))),fun H1 tp x v mk' e1 e2 e3 q'=> ?_⟩
   exact⟨_,rfl,_,rfl,mc,_,rfl,e2▸bW.k (k:=Sum.inl num) e1,tp,_,_,_,rfl,rfl,cF.of e3,rfl,q'⟩
  obtain⟨tR,hR,qR⟩:=cT
  refine⟨_,(aK (bU (i:=4) yC.nd rfl (Or.inl rfl) (fQ hu (aW (pv 0) rfl) (pv 1) (fun _ _=>rfl)))
   (aK (bU (i:=5) yC.nd rfl (Or.inl rfl) (cB (aW (pv 0) rfl) Z.cl G_num (hr.mono (by omega)) aR (aA (pv 2) aG)))
   (aK (bK (PW.pt (gZ (iR (lY hu (pv 5) (pv 4))) (jK (cU (nR hr.units) (dA fG (fQ hu (pv 4) (pv 5) (fun _ _=>rfl)) aY (fun _ _=>rfl)) (pv 3) (cO _))))) (aL (jI hu (pv 4) (pv 5) (hZ (aA (pv 3) (aA (yQ (fQ hu (aW (pv 0) rfl) (pv 1) (fun _ _=>rfl)) G_rck hr aR (aA (pv 3) aG)) aG))) rfl)) bO)
   hR))),?_⟩
  obtain⟨⟨d1,b1⟩,tb,b3,b4,_⟩:=id hB
  obtain⟨⟨d2,b2⟩,_,_⟩:=id tb
  refine⟨_,rfl,B.b,CB,d1,_,_,rfl,b1,Y.cl,Y.n_memory,(dL _ _ _ _).2.2.1,_,rfl,B.me,_,rfl,hme▸bW.k (k:=Sum.inr c) b4,?_⟩
  refine⟨_,rfl,B.b,CB,d1,_,_,rfl,b1,Y.cl,Y.n_given,(dL _ _ _ _).1,B.g,d2,_,rfl,b2,gU,_,rfl,B.g,B.r,B.e,B.xs,B.n,B.kvs,p,_,rfl,tb,hp,hnum,?_⟩
  refine⟨_,rfl,_,rfl,mc,_,rfl,bW.k (k:=Sum.inl num) hmc,_,rfl,?_⟩
  have lay:=tY is
  have ncm:ca≠some mc:=hca.ne hmc (fun _ z=>by cases z)
  rcases q with⟨vv,⟨tp,lo,e1,e2,e3⟩,qv⟩|⟨hw,q⟩
  ·rw[e1]
   refine bH ⟨_,rfl,_,rfl,mc,_,rfl,e1▸bW.k (k:=Sum.inl num) hmc,tp,_,_,_,rfl,rfl,cF.of e2,rfl,_,rfl,.list (is.map .int),.list (is.map .int),.lst (aM.of e3) (oN is),.lst (aM.of hsm) (oN is),lay.1,lay.1,lay.2,_,rfl,?_⟩
   rw[uM,decide_eq_true rfl]
   exact bH (qR H tp _ vv mk hmc e1 e2 qv)
  have fin:∀(H1:Hp) (v:V) (ns:List V) (tp:Addr),ButO ca H H1->fF ca (cs++ ns) H1->qM ca mkk is H H1 ns->Dt K H1 v (fK (g is))->H1 tp=none->
   ∃H4,gI (upd H1 tp (.tup [.ref sm,v])) mc (.int num) (.ref tp) H4/\tR {nx:=fun _ H'=>Q .non H',rt:=Q} [some (.ref B.b),some (.str c),some (.int (p:Int)),some (.ref sm),some (.ref mc),some (.int num)] H4:=fun H1 v ns tp bb h1 hn hd htp=>by
   have s2:=aH.new (o:=.tup [.ref sm,v]) htp
   have m2:=s2 _ _ (bb _ _ ncm hmc)
   have t2:upd H1 tp (.tup [.ref sm,v]) tp=some (.tup [.ref sm,v]):=aJ
   refine⟨_,gI.k (k:=Sum.inl num) m2 (dJ (by omega)),?_⟩
   generalize upd H1 tp (.tup [.ref sm,v])=H2 at s2 m2 t2|-
   have u3:∀x o,x≠mc->H2 x=some o->upd H2 mc (.dK (aU mk (.inl num:aB) (.ref tp))) x=some o:=fun x o n z=>by rw[aI n];exact z
   have m3:upd H2 mc (.dK (aU mk (.inl num:aB) (.ref tp))) mc=some (.dK (aU mk (.inl num:aB) (.ref tp))):=aJ
   generalize upd H2 mc (.dK (aU mk (.inl num:aB) (.ref tp)))=H3 at u3 m3|-
   have nm:∀{x:Addr} {o:HO},H2 x=some o->(∀kvs,o≠ .dK kvs)->x≠mc:=fun z n y=>by rw[y,m2]at z;exact n _ (Option.some.inj z).symm
   have t3:=u3 _ _ (nm t2 (fun _ z=>by cases z)) t2
   have kt3:bS H1 H3:=fun a xs e=>u3 _ _ (nm (s2 _ _ e) (fun _ z=>by cases z)) (s2 _ _ e)
   have htp0:H tp=none:=by
    cases e:H tp with
    |none=>rfl
    |some o=>
     by_cases z:ca=some tp
     ·rw[h1.2 tp z]at htp;cases htp
     ·rw[bb _ _ z e]at htp;cases htp
   refine qR H3 tp _ v _ m3 (by rw[fD,if_pos rfl]) t3 (q H3 v ns tp (fun x o n1 n2 z=>u3 _ _ n2 (s2 _ _ (bb _ _ n1 z))) ⟨h1.1,fun a e=>u3 _ _ (fun y=>ncm (y▸e)) (s2 _ _ (h1.2 a e))⟩ ⟨hn.1,fun a e=> ?_⟩ htp0 t3 m3 ?_)
   ·obtain⟨nv,lc,e1,e2,e3⟩:=hn.2 a e
    exact⟨nv,lc,e1,e2,e3.mv kt3 (u3 _ _ (nm (s2 _ _ e3.1) (fun _ z=>by cases z)) (s2 _ _ e3.1))⟩
   ·exact a5A hvd (hd.same s2) m2 u3
  rcases hw with e0|⟨js,vv,⟨tp0,lo,e1,e2,e3⟩,hne⟩
  ·rw[e0]
   refine cE (cE ?_)
   refine⟨_,rfl,_,rfl,B.b,CB,d1,_,_,rfl,b1,Y.cl,Y.n_rules,(dL _ _ _ _).2.1,_,rfl,B.ru,_,rfl,hru▸bW.k (k:=Sum.inr c) b3,CG,_,gr,dx,_,⟨hW,rfl⟩,rfl,hgr,hfs.2,_,rfl,gr,sm,fa,dx,ca,mkk,fs,g,ok,is,cs,rfl,hgr,hfs,FN,hsm,hca,cl,l0,l1,hsh,fun H1 v ns bb h1 hn hd=>⟨sl,fun tp htp=> ?_⟩⟩
   obtain⟨H4,p4,q4⟩:=fin H1 v ns tp bb h1 hn hd htp
   exact⟨_,rfl,_,rfl,mc,H4,rfl,p4,q4⟩
  ·rw[e1]
   refine bH ⟨_,rfl,_,rfl,mc,_,rfl,e1▸bW.k (k:=Sum.inl num) hmc,tp0,_,_,_,rfl,rfl,cF.of e2,rfl,_,rfl,.list (js.map .int),.list (is.map .int),.lst (aM.of e3) (oN js),.lst (aM.of hsm) (oN is),(tY js).1,lay.1,(tY js).2,_,rfl,?_⟩
   rw[uM,decide_eq_false hne]
   refine cE ?_
   refine⟨_,rfl,_,rfl,B.b,CB,d1,_,_,rfl,b1,Y.cl,Y.n_rules,(dL _ _ _ _).2.1,_,rfl,B.ru,_,rfl,hru▸bW.k (k:=Sum.inr c) b3,CG,_,gr,dx,_,⟨hW,rfl⟩,rfl,hgr,hfs.2,_,rfl,gr,sm,fa,dx,ca,mkk,fs,g,ok,is,cs,rfl,hgr,hfs,FN,hsm,hca,cl,l0,l1,hsh,fun H1 v ns bb h1 hn hd=>⟨sl,fun tp htp=> ?_⟩⟩
   obtain⟨H4,p4,q4⟩:=fin H1 v ns tp bb h1 hn hd htp
   exact⟨_,rfl,_,rfl,mc,H4,rfl,p4,q4⟩
end
def eV(M:List Addr)(H H':Hp):Prop:=∀b o,b∉M->H b=some o->H' b=some o
theorem eV.of(s:aH H H'):eV M H H':=fun b o _ e=>s _ _ e
theorem eV.trans(a:eV M H H1)(b:eV M H1 H2):eV M H H2:=fun x o n e=>b _ _ n (a _ _ n e)
structure gG(J:Option GT->Hp->Prop)(W M:List Addr):Prop where
 there:∀o H,J o H->∀b∈W,H b≠none
 stay:∀o H H',(∀b ob,b∈W->H b=some ob->H' b=some ob)->cL H H'->dP H H'->J o H->J o H'
 mt:∀o H,J o H->∀b∈M,(∃k,H b=some (.dT k))\/ ∃C dx fs,H b=some (.ins C dx fs)
theorem gG.same{W:List Addr}(S:gG J W M){o:Option GT}(s:aH H H')(h:J o H):J o H':=S.stay _ _ _ (fun b ob _ e=>s _ _ e) (cL.of s) (dP.of s) h
theorem gG.out{W:List Addr}(S:gG J W M){o:Option GT}(h:J o H){ob:HO}(e:H b=some ob)(n1:∀k,ob≠ .dT k)(n2:∀C dx fs,ob≠ .ins C dx fs):b∉M:=fun hm=>by
 rcases S.mt o H h b hm with⟨k,e2⟩|⟨C,dx,fs,e2⟩<;>rw[e]at e2
 ·exact n1 _ (Option.some.inj e2)
 ·exact n2 _ _ _ (Option.some.inj e2)
theorem gG.tup{W:List Addr}(S:gG J W M){o:Option GT}(h:J o H)(f:eV M H H'):dP H H':=fun x ob hx e=>f _ _ (S.out h e (fun k y=>by obtain⟨xs,rfl|⟨q,rfl⟩⟩:=hx<;>cases y) (fun C dx fs y=>by obtain⟨xs,rfl|⟨q,rfl⟩⟩:=hx<;>cases y)) e
inductive pK(K:Fg)(Vc:aQ->Prop)(J:Option GT->Hp->Prop)(M:List Addr)(vs:List V)(H:Hp)(Q:VK)(E:XK):Prop
 |mk (t c:Str) (p:Nat) (o:Option GT):vs= [.str t,.str c,.int (p:Int)] ->J o H->Vc (t,c,p)->(∀τ,o=some τ->∃k,τ= .look (t,c,p) k)->(∀H' v d,eV M H H'->Pd K H' v d->((∃k,o=some (.look (t,c,p) k)/\J (some (k d)) H')\/ (d=lO/\J none H'))->Q v H')->pK K Vc J M vs H Q E
inductive vL(J:Option GT->Hp->Prop)(mv:Str->Nat->Prop)(vs:List V)(H:Hp)(Q:VK)(E:XK):Prop
 |mk (t:Str) (m:Nat) (o:Option GT):vs= [.str t] ->mv t m->J o H->(∀H',aH H H'->Q (.int (m:Int)) H')->vL J mv vs H Q E
def oX(K:Fg)(H H':Hp)(fv:V):PyData ⊕ List Int->Prop
 | .inl d=>∃ta v,fv= .ref ta/\H' ta=some (.tup [.str ("value":Str),v])/\Pd K H' v d
 | .inr is=>∃ta l,fv= .ref ta/\H' ta=some (.tup [.str ("call":Str),.ref l])/\H' l=some (.lst (is.map V.int))/\H l=none
theorem a6w{H0:Hp}{fv:V}(s:aH H H0):∀{t:PyData ⊕ List Int},oX K H0 H' fv t->oX K H H' fv t
 | .inl d,h=>h
 | .inr is,⟨ta,l,a,b,c,d⟩=>⟨ta,l,a,b,c,jH s d⟩
def oB(H:Hp)(x:V)(c:aQ):Prop:=∃a,x= .ref a/\H a=some (.tup [.str c.1,.str c.2.1,.int (c.2.2:Int)])
theorem oB.keep{x:V}{c:aQ}(k:bS H H')(h:oB H x c):oB H' x c:=h.imp fun _ e=>⟨e.1,k _ _ e.2⟩
section
inductive xZ(P:Program)(w:World)(K:Fg)(mg:Str->Option Value)(af:Heap)(k:Nat)(vs:List V)(H:Hp)(Q:VK)(E:XK):Prop
 |mk (look cl:Addr) (Vc:aQ->Prop) (J:Option GT->Hp->Prop) (W M:List Addr) (kn:PyData ⊕ List Int->GT) (cv:List V) (cs:List aQ):vs= [.ref look,.ref cl] ->eO P w K mg af k look (pK K Vc J M)->J (some (iK kn cs [])) H->gG J W M->H cl=some (.lst cv)->Paired (oB H) cv cs->(∀c∈cs,Vc c)->cs.length<=100->(∀H' fv tf,eV M H H'->oX K H H' fv tf->(J (some (kn tf)) H'\/ (tf= .inl lO/\J none H'))->Q fv H')->xZ P w K mg af k vs H Q E
abbrev a4l:List Str:=["look","cells","numbers","table","column","place","value"]
theorem pB:bD a4l ["look","cells"] (aO a2c):={}
theorem a4o(T:bF K mg){k:Nat}(hk:2<=k):bG P w K mg af aE (k+ 1) "look_in_turn" ["look","cells"] (xZ P w K mg af k):=by
 have G_is_fault:bG P w K mg af aE 2 "is_fault" ["thing"] (rG K):=yR T
 refine T.d_look_in_turn.known pB (fun _ _ _ _ _ _ us hl=>eC (fun _ _=>rfl) us hl) (fun vs H Q E h=> ?_) (fun f ah A ag s H vs Q E hr h=> ?_)
 ·obtain⟨look,cl,Vc,J,W,M,kn,cv,cs,rfl,_⟩:=h
  rfl
 ·obtain⟨look,cl,Vc,J,W,M,kn,cv,cs,rfl,F1,hJ,S,hc,hp,hV,l100,q⟩:=h
  refine⟨_,(aK (bU (i:=2) pB.nd rfl (Or.inl rfl) (fV aG))
   (aK (kO PassesOwn.never rfl (kR (pv 1)) (a1S rfl (rB (gQ (i:=3) pB.nd rfl (Or.inl rfl)) (rB (gQ (i:=4) pB.nd rfl (Or.inl rfl)) (rB (gQ (i:=5) pB.nd rfl (Or.inl rfl)) a3L)))) (aK (bU (i:=6) pB.nd rfl (Or.inl rfl) (a7m 0 hr (aA (pv 3) (aA (pv 4) (aA (pv 5) aG)))))
   (aK (bK (dI (bQ G_is_fault (hr.mono hk) aR (aA (pv 6) aG)) (fun _=>rfl)) (aL (bL (hZ (aA dY (aA (pv 6) aG))))) bO)
   (aL (cG (kI F.plainAttrs_list F.slot_list_append F.type_list_append jN (pv 2) (aA (pv 6) aG)))))))
   (aL (bL (hZ (aA dY (aA (pv 2) aG))))))),?_⟩
  refine⟨sl,fun nl hnl=> ?_⟩
  have s1:=aH.new (o:=.lst []) hnl
  have n1:upd H nl (.lst []) nl=some (.lst []):=aJ
  have J1:=S.same s1 hJ
  generalize upd H nl (.lst [])=H1 at s1 n1 J1|-
  have lcv:cv.length=cs.length:=Paired.length hp
  have ncl:=S.out hJ hc (fun _ z=>by cases z) (fun _ _ _ z=>by cases z)
  have nnl:=S.out J1 n1 (fun _ z=>by cases z) (fun _ _ _ z=>by cases z)
  have nW:nl∉W:=fun mw=>S.there _ _ hJ nl mw hnl
  refine⟨_,rfl,cl,rfl,⟨_,aM.of (s1 _ _ hc)⟩,?_⟩
  refine pC (K:=K) (a:=cl) (xs:=cv) (fun i σ H2=>∃o3 o4 o5 o6 is,σ= [some (.ref look),some (.ref cl),some (.ref nl),o3,o4,o5,o6] /\eV M H H2/\J (some (iK kn (cs.drop i) is)) H2/\H2 nl=some (.lst (is.map V.int))/\is.length<=i)
   ⟨_,_,_,_,[],rfl,eV.of s1,J1,n1,Nat.le_refl _⟩ (by rintro i σ H2 _ ⟨_,_,_,_,_,_,f2,_⟩;exact aM.of (f2 _ _ ncl hc)) ?_ ?_
  ·rintro i v0 σ H2 hx ⟨o3,o4,o5,o6,is,rfl,f2,J2,h2,li⟩
   obtain⟨c,hd,hcel⟩:=a12 hp hx
   have hi:i<cv.length:=(List.getElem?_eq_some_iff.mp hx).1
   obtain⟨a,rfl,ha⟩:=hcel.keep (S.tup hJ f2).t
   rw[mZ hd,a0a]at J2
   refine⟨a,_,rfl,cF.of ha,rfl,_,_,rfl,_,_,rfl,_,_,rfl,rfl,?_⟩
   refine⟨look,_,rfl,F1,_,rfl,_,rfl,_,rfl,c.1,c.2.1,c.2.2,_,rfl,J2,hV c (List.mem_of_getElem? hd),fun τ e=>⟨_,(Option.some.inj e).symm⟩,fun H3 v d f3 p3 end3=> ?_⟩
   have f23:=f2.trans f3
   have h3:=f3 _ _ nnl h2
   refine⟨_,rfl,v,d,rfl,p3.2,p3.1.short.1,fun H4 s4=>⟨_,rfl,?_⟩⟩
   rw[p3.1.isT]
   have h4:=s4 _ _ h3
   have f4:=f23.trans (eV.of s4)
   have p4:=p3.same s4
   rcases end3 with⟨k,ek,J3⟩|⟨rfl,J3⟩
   ·cases ek
    have J4:=S.same s4 J3
    cases hT:isT d with
    |false=>
     obtain⟨j,rfl,bj⟩:∃j,d= .int j/\iF (.int j)=true:=by
      rcases p3.1 with h|⟨z,rfl,_⟩
      ·exact h
      ·cases hT
     have ev:v= .int j:=by
      cases p3.2
      rfl
     subst ev
     have J4:J (some (iK kn (cs.drop (i+ 1)) (is++ [j]))) H4:=J4
     refine bH ⟨_,rfl,.inl ⟨rfl,_,aM.of h4⟩,_,rfl,nl,_,_,rfl,rfl,h4,dJ (by rw[List.length_map];omega),?_⟩
     have bu:∀b ob,b≠nl->H4 b=some ob->upd H4 nl (.lst (is.map V.int++ [.int j])) b=some ob:=fun b ob nb e=>by rw[aI nb];exact e
     refine⟨_,_,_,_,is++ [j],rfl,fun b ob n1 e=>bu _ _ (bE e hnl) (f4 _ _ n1 e),S.stay _ _ _ (fun b ob mb e=>bu _ _ (fun z=>nW (z▸mb)) e) (fun b u e=>bu _ _ (fun z=>by rw[z,h4]at e;cases e) e) (dP.upd h4 (fun _ z=>by cases z) (fun _ _ z=>by cases z)) J4,(by rw[List.map_append];exact aJ),by rw[List.length_append];show is.length+ 1<=i+ 1;omega⟩
    |true=>
     have J4:J (some (if isT d then kn (.inl d) else iK kn (cs.drop (i+ 1)) (is++ [eW d]))) H4:=J4
     rw[if_pos hT]at J4
     refine cE ⟨_,rfl,sl,fun tp htp=> ?_⟩
     have s5:=aH.new (o:=.tup [.str ("value":Str),v]) htp
     exact q _ _ (.inl d) (f4.trans (eV.of s5)) ⟨tp,_,rfl,aJ,p4.same s5⟩ (.inl (S.same s5 J4))
   ·have J4:=S.same s4 J3
    refine cE ⟨_,rfl,sl,fun tp htp=> ?_⟩
    have s5:=aH.new (o:=.tup [.str ("value":Str),v]) htp
    exact q _ _ (.inl lO) (f4.trans (eV.of s5)) ⟨tp,_,rfl,aJ,p4.same s5⟩ (.inr ⟨rfl,S.same s5 J4⟩)
  ·rintro σ H2 ⟨o3,o4,o5,o6,is,rfl,f2,J2,h2,li⟩
   rw[lcv,List.drop_length]at J2
   refine⟨_,rfl,sl,fun tp htp=> ?_⟩
   have s3:=aH.new (o:=.tup [.str ("call":Str),.ref nl]) htp
   exact q _ _ (.inr is) (f2.trans (eV.of s3)) ⟨tp,nl,rfl,aJ,s3 _ _ h2,hnl⟩ (.inl (S.same s3 J2))
def mvX(tabs:List (Str×BM))(t:Str)(m:Nat):Prop:=∃B,(t,B)∈tabs/\B.xs.length=m
def mN(P:Program)(w:World)(K:Fg)(mg:Str->Option Value)(af:Heap)(spg:Sp)(gr:Addr)(ft:List Addr)(tabs:List (Str×BM))(Vc:aQ->Prop)(nm c:Str)(p:Nat)(τ:GT)(H:Hp):Prop:=
 ∀(look many:Addr) (J:Option GT->Hp->Prop) (W M:List Addr) (HB:Hp) (Q':VK),(∀b∈ft,∀o,H b=some o->HB b=some o)->gr∉M->J (some τ) HB->gG J W M->eO P w K mg af 6 look (pK K Vc J M)->eO P w K mg af 6 many (vL J (mvX tabs))->
  (∀H' fv tf,eV M HB H'->oX K HB H' fv tf->(J (some (.done tf)) H'\/ J none H')->Q' fv H')->spg [.ref gr,.ref look,.ref many,.str nm,.str c,.int (p:Int)] HB Q' E0
theorem mN.mv{spg:Sp}{ft:List Addr}{nm:Str}{τ:GT}(k:∀b∈ft,∀o,H b=some o->H' b=some o)(h:mN P w K mg af spg gr ft tabs Vc nm c p τ H):mN P w K mg af spg gr ft tabs Vc nm c p τ H':=
 fun look many J W M HB Q' kx n hJ S L1 L2 q=>h look many J W M HB Q' (fun b hb o e=>kx b hb o (k b hb o e)) n hJ S L1 L2 q
def ShAt(CS CB CT:Addr)(s bd ch fi:Addr)(kb:List (aB×V))(nm:Str)(B:BM)(H:Hp):Prop:=(∃dx,H s=some (.ins CS dx (dF bd ch fi)))/\H bd=some (.dK kb)/\Nl nm/\aF kb (.inr nm:aB)=some (.ref B.b)/\cR CB CT H B
inductive spSc(CS CF CB CT:Addr)(sp:Sp)(vs:List V)(H:Hp)(Q:VK)(E:XK):Prop
 |mk (s bd ch fi df:Addr) (kb:List (aB×V)) (nm t:Str) (p:Nat) (B:BM) (fs:List (Str×V)):vs= [.ref s,.str nm,.str t,.int (p:Int)] ->ShAt CS CB CT s bd ch fi kb nm B H->Nl t->t∈B.ord->p<B.xs.length->H fi=some (.ins CF df fs)->fs.lookup ("value_of":Str)=none->(∀H1 ce,H ce=none->aH H H1->H1 ce=some (.tup ((bI nm t p).map kV))->sp [.ref fi,.ref ce] H1 Q E0)->spSc CS CF CB CT sp vs H Q E
end
theorem a61:nB (sY C CB CT):=fun vs H Q Q' hQ h=>by
 obtain⟨p,dx,bd,nm,m,kb,e1,e2,e3,e4,e5,q⟩:=h
 exact⟨p,dx,bd,nm,m,kb,e1,e2,e3,e4,e5,fun H' b g r e ru me od a1 a2 a3 a4 a5=>hQ _ _ (q H' b g r e ru me od a1 a2 a3 a4 a5)⟩
theorem a6V:nB (uH K CB CT):=fun vs H Q Q' hQ h=>by
 obtain⟨B,t,a,ys,ds,e1,e2,e3,e4,e5,e6,e7,e8,e9,e10,e11,e12,q⟩:=h
 exact⟨B,t,a,ys,ds,e1,e2,e3,e4,e5,e6,e7,e8,e9,e10,e11,e12,fun H' l a1 a2 a3 a4=>hQ _ _ (q H' l a1 a2 a3 a4)⟩
theorem a8Q:nB (uC K CB CT):=fun vs H Q Q' hQ h=>by
 obtain⟨B,t,a,C,dx,fs,e1,e2,e3,e4,e5,e6,e7,e8,e9,e10,q⟩:=h
 exact⟨B,t,a,C,dx,fs,e1,e2,e3,e4,e5,e6,e7,e8,e9,e10,fun H' m a1 a2 a3 a4=>hQ _ _ (q H' m a1 a2 a3 a4)⟩
theorem a1V(h:nB sp):nB (qL C CB CT sp):=fun vs H Q Q' hQ g=>by
 obtain⟨p,dx,a,B,t,e1,e2,e3,e4,q⟩:=g
 exact⟨p,dx,a,B,t,e1,e2,e3,e4,h _ _ _ _ (fun v H' z=>hQ _ _ z) q⟩
theorem a4y:nB (uJ K C CB CT):=fun vs H Q Q' hQ h=>by
 obtain⟨p,dx,l,B,t,i,v,u,d,ys,e1,e2,e3,e4,e5,e6,e7,e8,e9,q⟩:=h
 exact⟨p,dx,l,B,t,i,v,u,d,ys,e1,e2,e3,e4,e5,e6,e7,e8,e9,fun H' a1 a2=>hQ _ _ (q H' a1 a2)⟩
theorem kH(h:upd H a o b=none):H b=none/\b≠a:=by
 have:b≠a:=fun y=>by rw[y,aJ]at h;cases h
 rw[aI this]at h
 exact⟨h,this⟩
section
theorem a6D(bd ch fi:Addr):aN "finder" (.ref fi) (aN "changes" (.ref ch) (aN "boards" (.ref bd) []))=dF bd ch fi:=by
 rfl
inductive wE(CS CF:Addr)(vs:List V)(H:Hp)(Q:VK)(E:XK):Prop
 |mk (p dx:Addr):vs= [.ref p] ->H p=some (.ins CS dx [])->(∀H' bd ch fi fd lk df,(∀x∈ [bd,ch,fi,fd,lk],H x=none)->fd≠lk->H' p=some (.ins CS dx (dF bd ch fi))->H' bd=some (.dK [])->H' ch=some (.lst [])->H' fi=some (.ins CF df (gD bd fd lk))->H' fd=some (.dT [])->H' lk=some (.dT [])->bC p H H'->Q .non H')->wE CS CF vs H Q E
theorem a7f:bD ["self"] ["self"] (aO a3q):={}
theorem a4d(T:bF K mg)(Y:gM K mg CS)(Z:fC K mg CF):eU P w K mg af aE 3 CS ["self"] (wE CS CF):=by
 have GI:eU P w K mg af aE 1 CF ["self","boards"] (uO CF):=a3N T Z
 refine(Y.m_init.known a7f (fun _ _ _ _ _ _ us hl=>fL (fun _=>rfl) us hl) (fun vs H Q E h=> ?_) (fun f ah A ag s H vs Q E hr h=> ?_)).init Y.mks Y.kc
 ·obtain⟨p,dx,rfl,_⟩:=h
  rfl
 ·obtain⟨p,dx,rfl,hp,q⟩:=h
  refine⟨_,(aK (cY (pv 0) rN rfl)
   (aK (cY (pv 0) (fV aG) rfl)
   (aL (cY (pv 0) (lL GI hr Z.c aR (aA (aW (pv 0) rfl) aG)) rfl)))),?_⟩
  intro bd hbd
  have s1:=aH.new (o:=.dK []) hbd
  have b1:upd H bd (.dK []) bd=some (.dK []):=aJ
  have n1:∀{b:Addr},upd H bd (.dK []) b=none->H b=none/\b≠bd:=kH
  generalize upd H bd (.dK [])=H1 at s1 b1 n1|-
  refine⟨_,rfl,p,CS,dx,[],rfl,s1 _ _ hp,Y.cl,Y.n_boards,(by show 0<1000;decide),?_⟩
  have u2:bC p H1 (upd H1 p (.ins CS dx (aN "boards" (.ref bd) []))):=fun b o n z=>by rw[aI n];exact z
  have p2:upd H1 p (.ins CS dx (aN "boards" (.ref bd) [])) p=some (.ins CS dx (aN "boards" (.ref bd) [])):=aJ
  have n2:∀{b:Addr},upd H1 p (.ins CS dx (aN "boards" (.ref bd) [])) b=none->H1 b=none/\b≠p:=kH
  generalize upd H1 p (.ins CS dx (aN "boards" (.ref bd) []))=H2 at u2 p2 n2|-
  refine⟨sl,fun ch hch=> ?_⟩
  have s3:=aH.new (o:=.lst []) hch
  have c3:upd H2 ch (.lst []) ch=some (.lst []):=aJ
  have n3:∀{b:Addr},upd H2 ch (.lst []) b=none->H2 b=none/\b≠ch:=kH
  generalize upd H2 ch (.lst [])=H3 at s3 c3 n3|-
  refine⟨_,rfl,p,CS,dx,_,rfl,s3 _ _ p2,Y.cl,Y.n_changes,(by show 1<1000;decide),?_⟩
  have u4:bC p H3 (upd H3 p (.ins CS dx (aN "changes" (.ref ch) (aN "boards" (.ref bd) [])))):=fun b o n z=>by rw[aI n];exact z
  have p4:upd H3 p (.ins CS dx (aN "changes" (.ref ch) (aN "boards" (.ref bd) []))) p=some (.ins CS dx (aN "changes" (.ref ch) (aN "boards" (.ref bd) []))):=aJ
  have n4:∀{b:Addr},upd H3 p (.ins CS dx (aN "changes" (.ref ch) (aN "boards" (.ref bd) []))) b=none->H3 b=none/\b≠p:=kH
  generalize upd H3 p (.ins CS dx (aN "changes" (.ref ch) (aN "boards" (.ref bd) [])))=H4 at u4 p4 n4|-
  have npb:bd≠p:=fun y=>by rw[y,hp]at hbd;cases hbd
  have npc:ch≠p:=fun y=>by rw[y,p2]at hch;cases hch
  refine⟨_,rfl,p,CS,dx,_,_,rfl,p4,Y.cl,Y.n_boards,(show List.lookup ("boards":Str) (aN "changes" (V.ref ch) (aN "boards" (V.ref bd) []))=some (.ref bd) from rfl),?_⟩
  intro fi df hfi hdf ne
  refine⟨fi,df,bd,rfl,aJ,fun H5 fd lk hfd hlk nfl g1 g2 g3 b5=>⟨rfl,?_⟩⟩
  have s5:aH H4 H5:=fun b o z=>b5 b o (bE z hfi) (by rw[aI (bE z hfi),aI (bE z hdf)];exact z)
  have fr:∀{x:Addr},upd (upd H4 df (.own fi)) fi (.ins CF df []) x=none->H4 x=none:=fun{x} z=>(kH (kH z).1).1
  refine⟨_,rfl,p,CS,dx,_,rfl,s5 _ _ p4,Y.cl,Y.n_finder,(by show 2<1000;decide),?_⟩
  rw[a6D]
  have u6:bC p H5 (upd H5 p (.ins CS dx (dF bd ch fi))):=fun b o n z=>by rw[aI n];exact z
  have dn:∀{x:Addr},H4 x=none->H x=none/\x≠p:=fun z=>⟨(n1 (n2 (n3 (n4 z).1).1).1).1,(n4 z).2⟩
  have fS:=dn (fr hfd)
  have frl:=dn (fr hlk)
  have frf:=dn hfi
  have hc0:H ch=none:=(n1 (n2 hch).1).1
  refine q _ bd ch fi fd lk df (fun x hx=> ?_) nfl aJ (u6 _ _ npb (s5 _ _ (u4 _ _ npb (s3 _ _ (u2 _ _ npb b1))))) (u6 _ _ npc (s5 _ _ (u4 _ _ npc c3))) (u6 _ _ frf.2 g1) (u6 _ _ fS.2 g2) (u6 _ _ frl.2 g3) (fun b o n z=>u6 _ _ n (s5 _ _ (u4 _ _ n (s3 _ _ (u2 _ _ n (s1 _ _ z))))))
  simp only[List.mem_cons,List.not_mem_nil,or_false]at hx
  rcases hx with rfl|rfl|rfl|rfl|rfl
  ·exact hbd
  ·exact hc0
  ·exact frf.1
  ·exact fS.1
  ·exact frl.1
def vE(CS:Addr)(s bd ch:Addr)(cs:List V)(kb:List (aB×V))(H:Hp):Prop:=(∃dx fi,H s=some (.ins CS dx (dF bd ch fi)))/\H ch=some (.lst cs)/\H bd=some (.dK kb)
inductive oP(CS CF:Addr)(s bd ch fi fd lk:Addr)(cs:List V)(kb:List (aB×V))(H0 H:Hp):Prop
 |mk:(∃dx,H s=some (.ins CS dx (dF bd ch fi)))->H ch=some (.lst cs)->H bd=some (.dK kb)->(∃df,H fi=some (.ins CF df (gD bd fd lk)))->H fd=some (.dT [])->H lk=some (.dT [])->fd≠lk->H0 fi=none->H0 fd=none->H0 lk=none->oP CS CF s bd ch fi fd lk cs kb H0 H
inductive xE(CS CF CB CT:Addr)(vs:List V)(H:Hp)(Q:VK)(E:XK):Prop
 |mk (s bd ch:Addr) (cs:List V) (kb:List (aB×V)) (nm:Str) (m:Nat):vs= [.ref s,.str nm,.int (m:Int)] ->vE CS s bd ch cs kb H->cs.length<900->kb.length<4->Nl nm->aF kb (.inr nm:aB)=none->m<=30->(∀H' fi fd lk c b g r e ru me od,oP CS CF s bd ch fi fd lk (cs++ [.ref c]) (aU kb (.inr nm:aB) (.ref b)) H H'->cR CB CT H' ⟨b,g,r,e,ru,me,od,fP 0 m,(m:Int),[],[],[],[]⟩ ->BM.sep ⟨b,g,r,e,ru,me,od,fP 0 m,(m:Int),[],[],[],[]⟩ ->(∀x∈ [b,g,r,e,ru,me,od],H x=none)->(∀x o,x≠s->x≠ch->x≠bd->H x=some o->H' x=some o)->Q .non H')->xE CS CF CB CT vs H Q E
theorem a6x:bD ["self","name","many"] ["self","name","many"] (aO a3v):={}
theorem a4b(T:bF K mg)(Y:gM K mg CS)(Z:fC K mg CF)(W:dG K mg CB)(U:dZ K mg CT)(C:vS K mg CC):aS P w K mg af aE 9 CS "table" ["self","name","many"] (xE CS CF CB CT):=by
 have G_is_name:bG P w K mg af aE 1 "is_name" ["thing"] (kT K):=mQ T
 have G_size:bG P w K mg af aE 2 "check_size" ["many"] tJ:=a32 T
 have GI:eU P w K mg af aE 1 CC ["self","boards","name","size"] (yT CC):=a7j T C
 have G_make:aS P w K mg af aE 8 CS "make" ["self","change"] (pJ CS CF CC (sY CC CB CT)):=uV T Y Z C.cl a61 (a7t T C W U)
 refine Y.m_table.known a6x (fun _ _ _ _ _ _ us hl=>iN (fun _ _ _=>rfl) us hl) (fun vs H Q E h=> ?_) (fun f ah A ag s H vs Q E hr h=> ?_)
 ·obtain⟨s',bd,ch,cs,kb,nm,m,rfl,_⟩:=h
  rfl
 ·obtain⟨s',bd,ch,cs,kb,nm,m,rfl,hS,cl,kl,hn,hv,hm,q⟩:=h
  have hu:=dQ hr
  refine⟨_,(aK (bK (PW.pt (gZ (eI (dI (bQ G_is_name hr.mn aR (aA (pv 1) aG)) (fun _=>rfl))) (jK (iR (nM hu (pv 1) (aW (pv 0) rfl)))))) (aL cJ) bO)
   (aK (cG (bQ G_size hr.mn aR (aA (pv 2) aG)))
   (aK (bK (cU a0s (cS a1I rfl T.len gB (aA (aW (pv 0) rfl) aG)) (pA T.g_MOST_TABLES) (cO _)) (aL cJ) bO)
   (aL (cG (cB (pv 0) Y.cl G_make hr aR (aA (lL GI hr.mn C.c aR (aA (aW (pv 0) rfl) (aA (pv 1) (aA (pv 2) aG)))) aG))))))),?_⟩
  have h8:=hn.2.1
  obtain⟨⟨dx,fi0,h1⟩,h2,h3⟩:=hS
  obtain⟨a1,a2,a3,a4⟩:=lJ bd ch fi0
  refine⟨_,rfl,_,.str nm,rfl,.str nm,lP (by omega),fun H0 s9=>⟨_,rfl,?_⟩⟩
  rw[show fN (.str nm)=true from hn.name]
  have h1:=s9 _ _ h1
  have h2':=s9 _ _ h2
  have h3':=s9 _ _ h3
  refine bH ⟨_,rfl,_,rfl,s',CS,dx,_,_,rfl,h1,Y.cl,Y.n_boards,a1,bd,_,rfl,bW.k (k:=Sum.inr nm) h3',_,rfl,?_⟩
  rw[hv]
  refine bH ⟨_,rfl,m,rfl,hm,?_⟩
  refine⟨_,rfl,s',CS,dx,_,_,rfl,h1,Y.cl,Y.n_boards,a1,bd,kb,rfl,h3',_,_,rfl,rfl,_,rfl,?_⟩
  refine dM (fun g=>absurd (of_decide_eq_true g) (by omega)) (fun g=> ?_)
  refine⟨_,rfl,s',dx,_,rfl,h1,fE,_,rfl,s',CS,dx,_,_,rfl,h1,Y.cl,Y.n_boards,a1,_,rfl,_,rfl,?_⟩
  intro c dc hc hdc ne
  refine⟨c,dc,bd,nm,m,rfl,aJ,fun H1 b1 c1=>⟨rfl,?_⟩⟩
  have s1:aH H0 H1:=fun b o z=>b1 b o (bE z hc) (by rw[aI (bE z hc),aI (bE z hdc)];exact z)
  refine⟨s',c,bd,ch,fi0,dx,dc,cs,_,rfl,c1,(sU _ _ _).2.2.2,c,dc,bd,nm,m,kb,rfl,c1,s1 _ _ h3',by omega,hm,fun H2 b g r e ru me od B2 sp2 fr2 bd2 u2=> ?_⟩
  have ns:s'≠bd:=fun y=>by rw[y,h3']at h1;cases h1
  have nc:ch≠bd:=fun y=>by rw[y,h3']at h2';cases h2'
  have nsc:s'≠ch:=fun y=>by rw[y,h2']at h1;cases h1
  refine⟨u2 _ _ ns (s1 _ _ h1),u2 _ _ nc (s1 _ _ h2'),cl,fun H3 fi fd lk df f1 f2 f3 nfl g1 g2 g3 g4 g5 u3=> ?_⟩
  have n0:∀{x:Addr},H2 x=none->H x=none:=fun{x} e=>by
   cases e2:H x with
   |none=>rfl
   |some o=>
    by_cases y:x=bd
    ·rw[y,bd2]at e;cases e
    ·rw[u2 _ _ y (s1 _ _ (s9 _ _ e2))]at e;cases e
  have k3:∀{x:Addr} {o:HO},H2 x=some o->x≠s'->x≠ch->H3 x=some o:=fun e n m=>u3 _ _ n m e
  have fr:∀x∈ [b,g,r,e,ru,me,od],H x=none:=fun x hx=>jH (s9.trans s1) (fr2 x hx)
  have nb:∀{x:Addr},x∈ [b,g,r,e,ru,me,od] ->x≠s'/\x≠ch:=fun hx=>⟨fun y=>by{have:=s1 _ _ h1;rw[<- y,fr2 _ hx]at this;cases this},fun y=>by{have:=s1 _ _ h2';rw[<- y,fr2 _ hx]at this;cases this}⟩
  obtain⟨⟨d1,e1⟩,⟨⟨d2,e2⟩,e3,e4⟩,e5,e6,e7⟩:=B2
  have kb2:∀{x:Addr} {o:HO},x∈ [b,g,r,e,ru,me,od] ->H2 x=some o->H3 x=some o:=fun hx e=>k3 e (nb hx).1 (nb hx).2
  exact q H3 fi fd lk c b g r e ru me od ⟨⟨dx,g1⟩,g2,k3 bd2 ns.symm nc.symm,⟨df,g3⟩,g4,g5,nfl,n0 f1,n0 f2,n0 f3⟩ ⟨⟨d1,kb2 (by simp) e1⟩,⟨⟨d2,kb2 (by simp) e2⟩,kb2 (by simp) e3,kb2 (by simp) e4⟩,kb2 (by simp) e5,kb2 (by simp) e6,kb2 (by simp) e7⟩ sp2 fr (fun x o n1 n2 n3 e=>k3 (u2 _ _ n3 (s1 _ _ (s9 _ _ e))) n1 n2)
theorem cR.off{s:Addr}{B:BM}(h:cR CB CT H B)(hs:∃dx bd ch' fi,H s=some (.ins CS dx (dF bd ch' fi)))(hc:H ch=some (.lst cs))(n1:ch≠B.r)(n2:ch≠B.od)(u:∀x o,x≠s->x≠ch->H x=some o->H' x=some o):cR CB CT H' B:=by
 obtain⟨dx,bd,ch',fi,hs⟩:=hs
 obtain⟨⟨d1,e1⟩,⟨⟨d2,e2⟩,e3,e4⟩,e5,e6,e7⟩:=h
 have k:∀{x:Addr} {o:HO},H x=some o->(∀a b c,o≠ .ins a b c)->x≠ch->H' x=some o:=fun e n m=>u _ _ (fun y=>by rw[y,hs]at e;exact n _ _ _ (Option.some.inj e).symm) m e
 have nc:∀{x:Addr} {o:HO},H x=some o->(∀a,o≠ .lst a)->x≠ch:=fun e n y=>by rw[y,hc]at e;exact n _ (Option.some.inj e).symm
 refine⟨⟨d1,u _ _ (uS e1 hs (show 4≠3 by decide)) (nc e1 nk) e1⟩,⟨⟨d2,u _ _ (fun y=> ?_) (nc e2 nk) e2⟩,k e3 (fun _ _ _ y=>by cases y) n1.symm,k e4 (fun _ _ _ y=>by cases y) (nc e4 nk)⟩,k e5 (fun _ _ _ y=>by cases y) (nc e5 nk),k e6 (fun _ _ _ y=>by cases y) (nc e6 nk),k e7 (fun _ _ _ y=>by cases y) n2.symm⟩
 rw[y,hs]at e2
 cases e2
structure qF(bd ch:Addr)(B:BM):Prop where
 r:ch≠B.r
 o:ch≠B.od
 e:bd≠B.e
 u:bd≠B.ru
 m:bd≠B.me
inductive yD(K:Fg)(CS CF CB CT:Addr)(vs:List V)(H:Hp)(Q:VK)(E:XK):Prop
 |mk (s bd ch a:Addr) (cs:List V) (kb:List (aB×V)) (nm t:Str) (ys:List V) (ds:List PyData) (B:BM):vs= [.ref s,.str nm,.str t,.ref a] ->vE CS s bd ch cs kb H->cs.length<900->Nl nm->aF kb (.inr nm:aB)=some (.ref B.b)->cR CB CT H B->B.sep->qF bd ch B->pH B t->Nl t->H a=some (.lst ys)->a≠B.od->cV K H ys ds->ys.length=B.xs.length->ys.length<=30->B.kvs.length<8->B.ord.length<8->(∀H' fi fd lk c l,oP CS CF s bd ch fi fd lk (cs++ [.ref c]) kb H H'->H l=none->cR CB CT H' {B with kvs:=aU B.kvs (.inr t:aB) (.ref l),ord:=B.ord++ [t]} ->H' l=some (.lst ys)->(∀x o,x≠s->x≠ch->x≠B.od->x≠B.e->H x=some o->H' x=some o)->Q .non H')->yD K CS CF CB CT vs H Q E
theorem a1Y:bD ["self","table","column","values","board"] ["self","table","column","values"] (aO a3r):={}
theorem a7Q(T:bF K mg)(Y:gM K mg CS)(Z:fC K mg CF)(W:dG K mg CB)(U:dZ K mg CT)(C:rE K mg CC):aS P w K mg af aE 9 CS "give" ["self","table","column","values"] (yD K CS CF CB CT):=by
 have G_for:aS P w K mg af aE 3 CS "board_for" ["self","table","column"] (tL CS CB CT):=a3z T Y W
 have G_many:aS P w K mg af aE 1 CT "many" ["self"] (lF CT):=mP T U
 have G_cv:bG P w K mg af aE 4 "check_values" ["values","many"] (sO K):=a04 T
 have GI:eU P w K mg af aE 1 CC ["self","board","column","content"] (uD CC):=a2K T C
 have G_make:aS P w K mg af aE 8 CS "make" ["self","change"] (pJ CS CF CC (qL CC CB CT (uH K CB CT))):=uV T Y Z C.cl (a1V a6V) (a0W T C W (a4t T W U))
 refine Y.m_give.known a1Y (fun _ _ _ _ _ _ us hl=>mS (fun _ _ _ _=>rfl) us hl) (fun vs H Q E h=> ?_) (fun f ah A ag s H vs Q E hr h=> ?_)
 ·obtain⟨s',bd,ch,a,cs,kb,nm,t,ys,ds,B,rfl,_⟩:=h
  rfl
 ·obtain⟨s',bd,ch,a,cs,kb,nm,t,ys,ds,B,rfl,hS,cl,hn,hv,hB,sep,ss,new,ht,ha,nao,hp,ly,l30,k8,o8,q⟩:=h
  refine⟨_,(aK (bU (i:=4) a1Y.nd rfl (Or.inl rfl) (cB (pv 0) Y.cl G_for hr.mn aR (aA (pv 1) (aA (pv 2) aG))))
   (aK (cG (bQ G_cv hr.mn aR (aA (pv 3) (aA (lM (aW (pv 4) rfl) U.cl G_many hr.mn aR) aG))))
   (aL (cG (cB (pv 0) Y.cl G_make hr aR (aA (lL GI hr.mn C.c aR (aA (pv 4) (aA (pv 2) (aA (pv 3) aG)))) aG)))))),?_⟩
  obtain⟨⟨dx,fi0,h1⟩,h2,h3⟩:=hS
  refine⟨_,rfl,s',dx,_,rfl,h1,fE,_,rfl,_,rfl,s',bd,ch,fi0,dx,kb,nm,t,B,rfl,h1,h3,hn,hv,hB,ht,o8,fun H1 s1=> ?_⟩
  obtain⟨dB,b1⟩:=(hB.same s1).at_
  obtain⟨dT,t1⟩:=(hB.same s1).tab.at_
  refine⟨_,rfl,_,rfl,B.b,CB,dB,_,_,rfl,b1,W.cl,W.n_given,(dL _ _ _ _).1,B.g,dT,_,rfl,t1,gU,B.g,B.r,B.e,B.xs,B.n,B.kvs,rfl,(hB.same s1).tab,?_⟩
  refine⟨a,ys,ds,by rw[ly];rfl,aM.of (s1 _ _ ha),hp.keep (bS.of s1),by omega,fun H2 s2=> ?_⟩
  have s12:=s1.trans s2
  refine⟨_,rfl,s',dx,_,rfl,s12 _ _ h1,fE,_,rfl,_,rfl,_,rfl,?_⟩
  intro c dc hc hdc ne
  refine⟨c,dc,B.b,a,t,rfl,aJ,fun H3 b3 c3=>⟨rfl,?_⟩⟩
  have s3:aH H H3:=fun b o z=>b3 b o (bE (s12 _ _ z) hc) (by rw[aI (bE (s12 _ _ z) hc),aI (bE (s12 _ _ z) hdc)];exact s12 _ _ z)
  have hB3:=hB.same s3
  refine⟨s',c,bd,ch,fi0,dx,dc,cs,_,rfl,c3,(wJ _ _ _).2.2.2.1,c,dc,a,B,t,rfl,c3,hB3,new,B,t,a,ys,ds,rfl,hB3,sep,new,ht,s3 _ _ ha,nao,hp.keep (bS.of s3),ly,l30,k8,by omega,fun H4 l hl B4 l4 u4=> ?_⟩
  have hB0:=hB.ord
  have he0:=hB.tab.kept
  have k4:∀{x:Addr} {o:HO},H x=some o->x≠B.od->x≠B.e->H4 x=some o:=fun e n m=>u4 _ _ n m (s3 _ _ e)
  have ns:s'≠B.od/\s'≠B.e:=⟨fun y=>by{rw[y,hB0]at h1;cases h1},fun y=>by{rw[y,he0]at h1;cases h1}⟩
  have nce:ch≠B.e:=fun y=>by rw[y,he0]at h2;cases h2
  have nbo:bd≠B.od:=fun y=>by rw[y,hB0]at h3;cases h3
  have ns4:=k4 h1 ns.1 ns.2
  have ch4:=k4 h2 ss.o nce
  refine⟨ns4,ch4,cl,fun H5 fi fd lk df f1 f2 f3 nfl g1 g2 g3 g4 g5 u5=> ?_⟩
  have nn:∀{x:Addr},H4 x=none->H x=none:=fun{x} e=>by
   cases e2:H x with
   |none=>rfl
   |some o=>
    by_cases y:x=B.od
    ·rw[y,B4.ord]at e;cases e
    ·by_cases y2:x=B.e
     ·rw[y2,B4.tab.kept]at e;cases e
     ·rw[k4 e2 y y2]at e;cases e
  have hl0:H l=none:=jH s3 hl
  have nl:l≠s'/\l≠ch:=⟨fun y=>by{rw[y,h1]at hl0;cases hl0},fun y=>by{rw[y,h2]at hl0;cases hl0}⟩
  have nb:bd≠s'/\bd≠ch:=⟨fun y=>by{rw[y,h1]at h3;cases h3},fun y=>by{rw[y,h2]at h3;cases h3}⟩
  exact q H5 fi fd lk c l ⟨⟨dx,g1⟩,g2,u5 _ _ nb.1 nb.2 (k4 h3 nbo ss.e),⟨df,g3⟩,g4,g5,nfl,nn f1,nn f2,nn f3⟩ hl0 (B4.off ⟨dx,bd,ch,fi0,ns4⟩ ch4 ss.r ss.o u5) (u5 _ _ nl.1 nl.2 l4) (fun x o n1 n2 n3 n4 e=>u5 _ _ n1 n2 (k4 e n3 n4))
inductive zL(K:Fg)(CS CF CB CT:Addr)(vs:List V)(H:Hp)(Q:VK)(E:XK):Prop
 |mk (s bd ch l:Addr) (cs:List V) (kb:List (aB×V)) (nm t:Str) (p:Nat) (v:V) (d:PyData) (ys:List V) (B:BM):vs= [.ref s,.str nm,.str t,.int (p:Int),v] ->vE CS s bd ch cs kb H->cs.length<900->Nl nm->aF kb (.inr nm:aB)=some (.ref B.b)->cR CB CT H B->qF bd ch B->Nl t->t∈B.ord->aF B.rus (.inr t:aB)=none->aF B.kvs (.inr t:aB)=some (.ref l)->H l=some (.lst ys)->p<B.xs.length->ys.length=B.xs.length->Pv K H v d->l≠ch->l≠B.r->l≠B.od->(∀H' fi fd lk c,oP CS CF s bd ch fi fd lk (cs++ [.ref c]) kb H H'->cR CB CT H' B->H' l=some (.lst (ys.set p v))->(∀x o,x≠s->x≠ch->x≠l->H x=some o->H' x=some o)->Q .non H')->zL K CS CF CB CT vs H Q E
theorem a2Z:bD ["self","table","column","place","value","board"] ["self","table","column","place","value"] (aO a1c):={}
theorem a5z(T:bF K mg)(Y:gM K mg CS)(Z:fC K mg CF)(W:dG K mg CB)(U:dZ K mg CT)(C:rR K mg CC):aS P w K mg af aE 9 CS "put" ["self","table","column","place","value"] (zL K CS CF CB CT):=by
 have G_with:aS P w K mg af aE 3 CS "board_with" ["self","table","column"] (qT CS CB CT):=wN T Y W
 have GI:eU P w K mg af aE 1 CC ["self","board","column","place","value"] (a0v CC):=a4G T C
 have G_make:aS P w K mg af aE 8 CS "make" ["self","change"] (pJ CS CF CC (uJ K CC CB CT)):=uV T Y Z C.cl a4y (a8z T C W U)
 refine Y.m_put.known a2Z (fun _ _ _ _ _ _ us hl=>qV (fun _ _ _ _ _=>rfl) us hl) (fun vs H Q E h=> ?_) (fun f ah A ag s H vs Q E hr h=> ?_)
 ·obtain⟨s',bd,ch,l,cs,kb,nm,t,p,v,d,ys,B,rfl,_⟩:=h
  rfl
 ·obtain⟨s',bd,ch,l,cs,kb,nm,t,p,v,d,ys,B,rfl,hS,cl,hn,hv,hB,ss,ht,to,hru,hkv,hl,hp,ly,hpv,nlc,nlr,nlo,q⟩:=h
  have hu:=dQ hr
  refine⟨_,(aK (bU (i:=5) a2Z.nd rfl (Or.inl rfl) (cB (pv 0) Y.cl G_with hr.mn aR (aA (pv 1) (aA (pv 2) aG))))
   (aK (bK (iR (nM hu (pv 2) (aW (pv 5) rfl))) (aL cJ) bO)
   (aL (cG (cB (pv 0) Y.cl G_make hr aR (aA (lL GI hr.mn C.c aR (aA (pv 5) (aA (pv 2) (aA (pv 3) (aA (pv 4) aG))))) aG)))))),?_⟩
  obtain⟨⟨dx,fi0,h1⟩,h2,h3⟩:=hS
  refine⟨_,rfl,s',dx,_,rfl,h1,fE,_,rfl,_,rfl,s',bd,ch,fi0,dx,kb,nm,t,B,rfl,h1,h3,hn,hv,hB,ht,to,fun H1 s1=> ?_⟩
  obtain⟨dB,b1⟩:=(hB.same s1).at_
  refine⟨_,rfl,_,rfl,B.b,CB,dB,_,_,rfl,b1,W.cl,W.n_rules,(dL _ _ _ _).2.1,B.ru,_,rfl,bW.k (k:=Sum.inr t) (hB.same s1).rul,_,rfl,?_⟩
  rw[hru]
  refine bH ?_
  refine⟨_,rfl,s',dx,_,rfl,s1 _ _ h1,fE,_,rfl,_,rfl,_,rfl,_,rfl,?_⟩
  intro c dc hc hdc ne
  refine⟨c,dc,B.b,t,p,v,rfl,aJ,fun H3 b3 c3=>⟨rfl,?_⟩⟩
  have s3:aH H H3:=fun b o z=>b3 b o (bE (s1 _ _ z) hc) (by rw[aI (bE (s1 _ _ z) hc),aI (bE (s1 _ _ z) hdc)];exact s1 _ _ z)
  have hB3:=hB.same s3
  refine⟨s',c,bd,ch,fi0,dx,dc,cs,_,rfl,c3,(a0c _ _ _ _ _).2.2.2.2.1,c,dc,l,B,t,p,v,.non,d,ys,rfl,c3,hB3,ht,hkv,s3 _ _ hl,hp,ly,hpv.keep (bS.of s3),fun H4 u4 l4=> ?_⟩
  have hc0:H c=none:=jH s1 hc
  have k4:∀{x:Addr} {o:HO},H x=some o->x≠l->H4 x=some o:=fun e n=>u4 _ _ (fun y=>by rw[y,hc0]at e;cases e) n (s3 _ _ e)
  have nl:∀{x:Addr} {o:HO},H x=some o->(∀y,o≠ .lst y)->x≠l:=fun e n y=>by rw[y,hl]at e;exact n _ (Option.some.inj e).symm
  have ns4:=k4 h1 (nl h1 nk)
  have ch4:=k4 h2 nlc.symm
  refine⟨ns4,ch4,cl,fun H5 fi fd lk df f1 f2 f3 nfl g1 g2 g3 g4 g5 u5=> ?_⟩
  have nn:∀{x:Addr},H4 x=none->H x=none:=fun{x} e=>by
   cases e2:H x with
   |none=>rfl
   |some o=>
    by_cases y:x=l
    ·rw[y,l4]at e;cases e
    ·rw[k4 e2 y]at e;cases e
  have nb:bd≠s'/\bd≠ch:=⟨fun y=>by{rw[y,h1]at h3;cases h3},fun y=>by{rw[y,h2]at h3;cases h3}⟩
  have nls:l≠s':=fun y=>by rw[y,h1]at hl;cases hl
  have B4:cR CB CT H4 B:=by
   obtain⟨⟨d1,e1⟩,⟨⟨d2,e2⟩,e3,e4⟩,e5,e6,e7⟩:=hB
   exact⟨⟨d1,k4 e1 (nl e1 nk)⟩,⟨⟨d2,k4 e2 (nl e2 nk)⟩,k4 e3 nlr.symm,k4 e4 (nl e4 nk)⟩,k4 e5 (nl e5 nk),k4 e6 (nl e6 nk),k4 e7 nlo.symm⟩
  exact q H5 fi fd lk c ⟨⟨dx,g1⟩,g2,u5 _ _ nb.1 nb.2 (k4 h3 (nl h3 nk)),⟨df,g3⟩,g4,g5,nfl,nn f1,nn f2,nn f3⟩ (B4.off ⟨dx,bd,ch,fi0,ns4⟩ ch4 ss.r ss.o u5) (u5 _ _ nls nlc l4) (fun x o n1 n2 n3 e=>u5 _ _ n1 n2 (k4 e n3))
end
abbrev aC:=Str×Str
inductive gW(adj:aC->List aC)(s:aC):Nat->aC->Prop
 |zero:gW adj s 0 s
 |step {n:Nat} {x y:aC}:gW adj s n x->y∈adj x->gW adj s (n+ 1) y
variable{adj:My.aC->List My.aC}{cm:My.aC->Option My.aC}{nodes wz fz:List My.aC}
theorem gW.inv{s:aC}{n:Nat}{y:aC}(h:gW adj s (n+ 1) y):∃x,gW adj s n x/\y∈adj x:=by
 cases h with
 |step h1 h2=>exact⟨_,h1,h2⟩
structure mY(adj:aC->List aC)(s:aC)(ys:List aC):Prop where
 hd:ys[0]?=some s
 nd:ys.Nodup
 nx:∀i x,ys[i]?=some x->∃y,ys[(i+ 1)% ys.length]?=some y/\y∈adj x
inductive cW(cm:aC->Option aC)(s:aC):aC->List aC->Prop
 |nil:cW cm s s [s]
 |cons {x u:aC} {ps:List aC}:x≠s->cm x=some u->cW cm s u ps->cW cm s x (x::ps)
theorem cW.uniq{cm:aC->Option aC}{s:aC}:∀{x:aC} {ps qs:List aC},cW cm s x ps->cW cm s x qs->ps=qs
 |_,_,_,.nil,.nil=>rfl
 |_,_,_,.nil,.cons h _ _=>absurd rfl h
 |_,_,_,.cons h _ _,.nil=>absurd rfl h
 |_,_,_,.cons _ e b,.cons _ e' b'=>by
  rw[e]at e'
  cases e'
  rw[cW.uniq b b']
theorem cW.mem{cm:aC->Option aC}{s:aC}:∀{x y:aC} {ps:List aC},cW cm s x ps->y∈ps->∃qs,cW cm s y qs/\qs.length<=ps.length/\∃pre,ps=pre++ qs
 |_,y,_,.nil,h=>by rw[List.mem_singleton.mp h];exact⟨[_],.nil,Nat.le_refl _,[],rfl⟩
 |_,y,_,.cons (x:=x) (ps:=ps) h e b,hm=>by
  rcases List.mem_cons.mp hm with rfl|hm
  ·exact⟨_,.cons h e b,Nat.le_refl _,[],rfl⟩
  ·obtain⟨qs,h1,h2,pre,h3⟩:=cW.mem b hm
   exact⟨qs,h1,Nat.le_succ_of_le h2,x::pre,by rw[h3];rfl⟩
theorem cW.nodup{s:aC}:∀{x:aC} {ps:List aC},cW cm s x ps->ps.Nodup
 |_,_,.nil=>by simp
 |_,_,.cons (x:=x) (ps:=ps) h e b=>by
  rw[List.nodup_cons]
  refine⟨fun hm=> ?_,b.nodup⟩
  obtain⟨qs,h1,h2,_⟩:=b.mem hm
  have:=cW.uniq h1 (.cons h e b)
  rw[this,List.length_cons]at h2
  omega
theorem cW.last{s:aC}:∀{x:aC} {ps:List aC},cW cm s x ps->ps.getLast?=some s
 |_,_,.nil=>rfl
 |_,_,.cons (x:=x) (ps:=ps) h e b=>by
  have:=b.last
  cases ps with
  |nil=>cases b
  |cons p r=>rw[List.getLast?_cons_cons];exact this
theorem cW.head{s:aC}{x:aC}{ps:List aC}(h:cW cm s x ps):ps[0]?=some x:=by
 cases h<;>rfl
theorem cW.next{cm:aC->Option aC}{s:aC}:∀{x:aC} {ps:List aC} {i:Nat} {y z:aC},cW cm s x ps->ps[i]?=some y->ps[i+ 1]?=some z->y≠s/\cm y=some z
 |_,_,i,y,z,.nil,h1,h2=>by simp at h2
 |_,_,0,y,z,.cons (x:=x) (ps:=ps) h e b,h1,h2=>by
  simp at h1
  subst h1
  have h2:ps[0]?=some z:=by simpa using h2
  rw[b.head]at h2
  cases h2
  exact⟨h,e⟩
 |_,_,i+ 1,y,z,.cons h e b,h1,h2=>cW.next (i:=i) b (by simpa using h1) (by simpa using h2)
theorem cW.ext{cm':aC->Option aC}{s:aC}(hc:∀x u,cm x=some u->cm' x=some u):∀{x:aC} {ps:List aC},cW cm s x ps->cW cm' s x ps
 |_,_,.nil=> .nil
 |_,_,.cons h e b=> .cons h (hc _ _ e) (b.ext hc)
theorem cW.drop{cm:aC->Option aC}{s:aC}:∀{x y:aC} {ps:List aC} {i:Nat},cW cm s x ps->ps[i]?=some y->cW cm s y (ps.drop i)
 |_,_,_,0,h,e=>by
  rw[h.head]at e
  cases e
  exact h
 |_,_,_,i+ 1,.nil,e=>by simp at e
 |_,_,_,i+ 1,.cons _ _ b,e=>cW.drop (i:=i) b (by simpa using e)
theorem cW.ring{s x:aC}{ps:List aC}(hc:∀z u,cm z=some u->z∈adj u)(hs:s∈adj x)(h:cW cm s x ps):mY adj s ps.reverse:=by
 have hl:ps.getLast?=some s:=h.last
 have hpos:0<ps.length:=by
  cases ps with
  |nil=>simp at hl
  |cons=>simp
 have hls:ps[ps.length- 1]?=some s:=by rw[<- List.getLast?_eq_getElem?];exact hl
 refine⟨?_,?_,fun i z hz=> ?_⟩
 ·rw[List.getElem?_reverse hpos]
  simpa using hls
 ·exact List.pairwise_reverse.mpr (h.nodup.imp fun h=>Ne.symm h)
 ·have hi:i<ps.length:=by
   have:=(List.getElem?_eq_some_iff.mp hz).1
   simpa using this
  rw[List.length_reverse]
  rw[List.getElem?_reverse hi]at hz
  by_cases g:i+ 1<ps.length
  ·rw[Nat.mod_eq_of_lt g,List.getElem?_reverse g]
   obtain⟨y,hy⟩:∃y,ps[ps.length- 1- (i+ 1)]?=some y:=⟨_,List.getElem?_eq_getElem (by omega)⟩
   have e:ps.length- 1- i=(ps.length- 1- (i+ 1))+ 1:=by omega
   rw[e]at hz
   exact⟨y,hy,hc _ _ (h.next hy hz).2⟩
  ·have e:i+ 1=ps.length:=by omega
   rw[e,Nat.mod_self,List.getElem?_reverse hpos]
   have e0:ps.length- 1- i=0:=by omega
   rw[e0,h.head]at hz
   cases hz
   exact⟨s,by simpa using hls,hs⟩
theorem mY.walk{s:aC}{ys:List aC}(R:mY adj s ys):∀(i:Nat) (x:aC),ys[i]?=some x->gW adj s i x
 |0,x,h=>by
  rw[R.hd]at h
  cases h
  exact .zero
 |i+ 1,x,h=>by
  have hi:i+ 1<ys.length:=(List.getElem?_eq_some_iff.mp h).1
  obtain⟨z,hz⟩:∃z,ys[i]?=some z:=⟨_,List.getElem?_eq_getElem (by omega)⟩
  obtain⟨y,h1,h2⟩:=R.nx i z hz
  rw[Nat.mod_eq_of_lt hi,h]at h1
  cases h1
  exact .step (R.walk i z hz) h2
theorem mY.pos{s:aC}{ys:List aC}(R:mY adj s ys):0<ys.length:=(List.getElem?_eq_some_iff.mp R.hd).1
theorem mY.back{s:aC}{ys:List aC}(R:mY adj s ys):gW adj s ys.length s:=by
 have hp:=R.pos
 obtain⟨z,hz⟩:∃z,ys[ys.length- 1]?=some z:=⟨_,List.getElem?_eq_getElem (by omega)⟩
 obtain⟨y,h1,h2⟩:=R.nx _ z hz
 have e:ys.length- 1+ 1=ys.length:=by omega
 rw[e,Nat.mod_self,R.hd]at h1
 cases h1
 have:=gW.step (R.walk _ z hz) h2
 rw[e]at this
 exact this
def iW(cm:aC->Option aC)(nodes:List aC):Nat:=(nodes.filter fun z=>(cm z).isNone).length
theorem a1z{cm cm':aC->Option aC}(hc:∀x,(cm x).isSome->(cm' x).isSome):∀nodes:List aC,iW cm' nodes<=iW cm nodes
 | []=>Nat.le_refl _
 |z::r=>by
  have ih:=a1z hc r
  unfold iW at ih|-
  rw[List.filter_cons,List.filter_cons]
  cases e:cm z with
  |none=>cases e':cm' z<;>simp<;>omega
  |some u=>
   have:=hc z (by rw[e];rfl)
   cases e':cm' z with
   |none=>rw[e']at this;cases this
   |some u'=>simpa using ih
theorem a0r{cm cm':aC->Option aC}(hc:∀x,(cm x).isSome->(cm' x).isSome){y:aC}(h0:cm y=none)(h1:(cm' y).isSome):∀{nodes:List aC},y∈nodes->iW cm' nodes+ 1<=iW cm nodes
 |z::r,hy=>by
  have le:=a1z hc r
  unfold iW at le|-
  rw[List.filter_cons,List.filter_cons]
  rcases List.mem_cons.mp hy with rfl|hy
  ·rw[h0]
   cases e':cm' y with
   |none=>rw[e']at h1;cases h1
   |some u=>simpa using Nat.succ_le_succ le
  ·have ih:=a0r hc h0 h1 hy
   unfold iW at ih
   cases e:cm z with
   |none=>cases e':cm' z<;>simp<;>omega
   |some u=>
    have:=hc z (by rw[e];rfl)
    cases e':cm' z with
    |none=>rw[e']at this;cases this
    |some u'=>simpa using ih
theorem a0o(cm:aC->Option aC)(nodes:List aC):iW cm nodes<=nodes.length:=List.length_filter_le _ _
def vO(adj:aC->List aC)(s:aC)(cm:aC->Option aC)(x:aC):Prop:=∀y∈adj x,y≠s/\(cm y).isSome
structure lK(adj:aC->List aC)(s:aC)(nodes:List aC)(r:Nat)(cm:aC->Option aC)(wz:List aC):Prop where
 c:∀z u,cm z=some u->z∈adj u/\z≠s
 d:∀x∈wz,∃ps,cW cm s x ps/\ps.length=r+ 1
 f:∀x,(x=s\/ (cm x).isSome)->vO adj s cm x\/ x∈wz
 w:∀x∈wz,x=s\/ (cm x).isSome
 q:∀x,gW adj s r x->x=s\/ (cm x).isSome
 n:∀k,k+ 1<=r->¬gW adj s (k+ 1) s
 b:wz= []\/ r+ iW cm nodes<=nodes.length
theorem lK.start{s:aC}:lK adj s nodes 0 (fun _=>none) [s] where
 c:=fun _ _ h=>by cases h
 d:=fun x hx=>by rw[List.mem_singleton.mp hx];exact⟨[s],.nil,rfl⟩
 f:=fun x hx=>by
  rcases hx with rfl|hx
  ·exact .inr (by simp)
  ·cases hx
 w:=fun x hx=> .inl (List.mem_singleton.mp hx)
 q:=fun x hx=>by cases hx;exact .inl rfl
 n:=fun k hk=>by omega
 b:=.inr (by have:=a0o (fun _=>none) nodes;omega)
theorem lK.over{s:aC}{r:Nat}(B:lK adj s nodes r cm []):∀n,¬gW adj s (n+ 1) s:=by
 have all:∀n x,gW adj s n x->x=s\/ (cm x).isSome:=by
  intro n
  induction n with
  |zero=>intro x h;cases h;exact .inl rfl
  |succ n ih=>
   intro x h
   obtain⟨z,h1,h2⟩:=h.inv
   rcases B.f z (ih z h1)with g|g
   ·exact .inr (g x h2).2
   ·cases g
 intro n h
 obtain⟨z,h1,h2⟩:=h.inv
 rcases B.f z (all n z h1)with g|g
 ·exact(g s h2).1 rfl
 ·cases g
structure iT(adj:aC->List aC)(s:aC)(nodes:List aC)(r:Nat)(cm0:aC->Option aC)(wz:List aC)(i:Nat)(cm:aC->Option aC)(fz:List aC):Prop where
 c:∀z u,cm z=some u->z∈adj u/\z≠s
 e:∀z u,cm0 z=some u->cm z=some u
 d:∀x∈fz,∃ps,cW cm s x ps/\ps.length=r+ 2
 f:∀x,(x=s\/ (cm x).isSome)->vO adj s cm x\/ x∈wz.drop i\/ x∈fz
 w:∀x∈fz,x≠s/\(cm x).isSome/\cm0 x=none
 l:fz.length+ iW cm nodes<=iW cm0 nodes
theorem iT.start{s:aC}{r:Nat}(B:lK adj s nodes r cm wz):iT adj s nodes r cm wz 0 cm [] where
 c:=B.c
 e:=fun _ _ h=>h
 d:=fun _ h=>by cases h
 f:=fun x hx=>(B.f x hx).imp id fun h=> .inl (by simpa using h)
 w:=fun _ h=>by cases h
 l:=by simp
theorem iT.next{s:aC}{r:Nat}{cm0:aC->Option aC}{x:aC}(M:iT adj s nodes r cm0 wz i cm fz)(hx:wz[i]?=some x)(hd:vO adj s cm x):iT adj s nodes r cm0 wz (i+ 1) cm fz:=
 ⟨M.c,M.e,M.d,fun y hy=>by
  rcases M.f y hy with h|h|h
  ·exact .inl h
  ·have hi:i<wz.length:=(List.getElem?_eq_some_iff.mp hx).1
   rw[List.drop_eq_getElem_cons hi]at h
   rcases List.mem_cons.mp h with h|h
   ·have:wz[i]=x:=(List.getElem?_eq_some_iff.mp hx).2
    rw[h,this]
    exact .inl hd
   ·exact .inr (.inl h)
  ·exact .inr (.inr h),M.w,M.l⟩
noncomputable def gH (cm:aC->Option aC) (y x:aC):aC->Option aC:=fun z=>if z=y then some x else cm z
theorem iT.put{s:aC}{r:Nat}{cm0:aC->Option aC}{x y:aC}(B:lK adj s nodes r cm0 wz)(M:iT adj s nodes r cm0 wz i cm fz)(hx:x∈wz)(hy:y∈adj x)(hs:y≠s)(h0:cm y=none)(hn:y∈nodes):
 iT adj s nodes r cm0 wz i (gH cm y x) (fz++ [y]):=by
 have ext:∀z u,cm z=some u->gH cm y x z=some u:=fun z u h=>by
  unfold gH
  rw[if_neg (fun e=>by rw[e,h0]at h;cases h)]
  exact h
 have some':∀z,(cm z).isSome->(gH cm y x z).isSome:=fun z h=>by
  obtain⟨u,hu⟩:=Option.isSome_iff_exists.mp h
  rw[ext z u hu];rfl
 have at':gH cm y x y=some x:=by unfold gH;rw[if_pos rfl]
 refine⟨fun z u h=> ?_,fun z u h=>ext z u (M.e z u h),fun z hz=> ?_,fun z hz=> ?_,fun z hz=> ?_,?_⟩
 ·unfold gH at h
  by_cases e:z=y
  ·rw[if_pos e]at h
   cases h
   rw[e]
   exact⟨hy,hs⟩
  ·rw[if_neg e]at h
   exact M.c z u h
 ·rcases List.mem_append.mp hz with hz|hz
  ·obtain⟨ps,h1,h2⟩:=M.d z hz
   exact⟨ps,h1.ext ext,h2⟩
  ·rw[List.mem_singleton.mp hz]
   obtain⟨ps,h1,h2⟩:=B.d x hx
   exact⟨y::ps,.cons hs at' ((h1.ext M.e).ext ext),by rw[List.length_cons,h2]⟩
 ·by_cases e:z=y
  ·exact .inr (.inr (by rw[e];simp))
  ·have hz':z=s\/ (cm z).isSome:=hz.imp id fun h=>by
    unfold gH at h
    rw[if_neg e]at h
    exact h
   rcases M.f z hz' with h|h|h
   ·exact .inl fun u hu=>⟨(h u hu).1,some' u (h u hu).2⟩
   ·exact .inr (.inl h)
   ·exact .inr (.inr (List.mem_append_left _ h))
 ·rcases List.mem_append.mp hz with hz|hz
  ·obtain⟨h1,h2,h3⟩:=M.w z hz
   exact⟨h1,some' z h2,h3⟩
  ·rw[List.mem_singleton.mp hz]
   refine⟨hs,by rw[at'];rfl,?_⟩
   cases e:cm0 y with
   |none=>rfl
   |some u=>rw[M.e y u e]at h0;cases h0
 ·have h1:=a0r some' h0 (by rw[at'];rfl) hn
  have h2:=M.l
  rw[List.length_append,List.length_singleton]
  omega
theorem iT.over{s:aC}{r:Nat}{cm0:aC->Option aC}(B:lK adj s nodes r cm0 wz)(M:iT adj s nodes r cm0 wz wz.length cm fz)(hw:wz≠ []):lK adj s nodes (r+ 1) cm fz:=by
 have some':∀z,(cm0 z).isSome->(cm z).isSome:=fun z h=>by
  obtain⟨u,hu⟩:=Option.isSome_iff_exists.mp h
  rw[M.e z u hu];rfl
 have old:∀x,(x=s\/ (cm0 x).isSome)->vO adj s cm x:=fun x hx=>by
  rcases M.f x (hx.imp id (some' x))with h|h|h
  ·exact h
  ·simp at h
  ·obtain⟨h1,_,h3⟩:=M.w x h
   rcases hx with hx|hx
   ·exact absurd hx h1
   ·rw[h3]at hx;cases hx
 refine⟨M.c,M.d,fun x hx=> ?_,fun x hx=> .inr (M.w x hx).2.1,fun x hx=> ?_,fun k hk h=> ?_,?_⟩
 ·rcases M.f x hx with h|h|h
  ·exact .inl h
  ·simp at h
  ·exact .inr h
 ·obtain⟨z,h1,h2⟩:=hx.inv
  exact .inr (old z (B.q z h1) x h2).2
 ·by_cases g:k+ 1<=r
  ·exact B.n k g h
  ·have e:k=r:=by omega
   subst e
   obtain⟨z,h1,h2⟩:=h.inv
   exact(old z (B.q z h1) s h2).1 rfl
 ·by_cases g:fz= []
  ·exact .inl g
  ·refine .inr ?_
   have hl:=M.l
   have hp:0<fz.length:=List.length_pos_iff.mpr g
   rcases B.b with b|b
   ·exact absurd b hw
   ·omega
theorem a7n:bootBuiltins "reversed"=some (.type "reversed"):=by kernel_rfl
def N2(z:aC):Prop:=Nl z.1/\Nl z.2
theorem N2.lay{z:aC}(h:N2 z):(iG z).canLay0=true:=yZ h.1 h.2
theorem bC.upd{p:Addr}:bC p H (upd H p o):=fun b u n e=>by rw[aI n];exact e
def kS(z:aC):List aB:=[.inr z.1,.inr z.2]
theorem a26{z u:aC}(h:kS z=kS u):z=u:=by
 obtain⟨a,b⟩:=z
 obtain⟨c,d⟩:=u
 simp only[kS,List.cons.injEq,Sum.inr.injEq,and_true]at h
 rw[h.1,h.2]
def fO(H:Hp)(v:V)(z:aC):Prop:=∃a,v= .ref a/\H a=some (.tup [.str z.1,.str z.2])
theorem fO.mapT{v:V}{z:aC}(k:∀a xs,H a=some (.tup xs)->H' a=some (.tup xs))(h:fO H v z):fO H' v z:=let ⟨a,e,g⟩:=h;⟨a,e,k _ _ g⟩
theorem fO.same{v:V}{z:aC}(s:aH H H')(h:fO H v z):fO H' v z:=h.mapT fun a xs e=>s _ _ e
theorem fO.dt{v:V}{z:aC}(h:fO H v z):Dt K H v (iG z):=by
 obtain⟨a,rfl,g⟩:=h
 exact .tup (cF.of g) (.cons (.str _) (.cons (.str _) .nil))
def cA(H:Hp):List V->List aC->Prop:=Paired (fO H)
theorem cA.mapT{H H':Hp}(k:∀a xs,H a=some (.tup xs)->H' a=some (.tup xs)):∀{vs:List V} {zs:List aC},cA H vs zs->cA H' vs zs
 |_,_,.nil=> .nil
 |_,_,.cons r t=> .cons (r.mapT k) (cA.mapT k t)
theorem cA.same{zs:List aC}(s:aH H H')(h:cA H vs zs):cA H' vs zs:=h.mapT fun a xs e=>s _ _ e
theorem cA.length{zs:List aC}(h:cA H vs zs):vs.length=zs.length:=Paired.length h
theorem cA.at{H:Hp}:∀{vs:List V} {zs:List aC} {i:Nat} {v:V},cA H vs zs->vs[i]?=some v->∃z,zs[i]?=some z/\fO H v z
 |_,_,_,_,.nil,e=>by simp at e
 |_,_,0,_,.cons r _,e=>by simp at e;subst e;exact⟨_,rfl,r⟩
 |_,_,i+ 1,v,.cons _ t,e=>by
  obtain⟨z,h1,h2⟩:=cA.at (i:=i) (v:=v) t (by simpa using e)
  exact⟨z,by simpa using h1,h2⟩
theorem cA.snoc{H:Hp}{v:V}{z:aC}(h:fO H v z):∀{vs:List V} {zs:List aC},cA H vs zs->cA H (vs++ [v]) (zs++ [z])
 |_,_,.nil=> .cons h .nil
 |_,_,.cons r t=> .cons r (cA.snoc h t)
theorem cA.rev{H:Hp}:∀{vs:List V} {zs:List aC},cA H vs zs->cA H vs.reverse zs.reverse
 |_,_,.nil=> .nil
 |_,_,.cons r t=>by
  rw[List.reverse_cons,List.reverse_cons]
  exact(cA.rev t).snoc r
theorem cA.dt{K:Fg}{H:Hp}:∀{vs:List V} {zs:List aC},cA H vs zs->dN K H vs (zs.map iG)
 |_,_,.nil=> .nil
 |_,_,.cons r t=> .cons r.dt (cA.dt t)
theorem cA.last{zs:List aC}{z:aC}(h:cA H vs (zs++ [z])):∃ws v,vs=ws++ [v] /\fO H v z:=by
 have hl:=h.length
 rw[List.length_append,List.length_singleton]at hl
 have ne:vs≠ []:=fun e=>by rw[e]at hl;simp at hl
 refine⟨vs.dropLast,vs.getLast ne,(List.dropLast_concat_getLast ne).symm,?_⟩
 have hi:vs[zs.length]?=some (vs.getLast ne):=by
  rw[List.getLast_eq_getElem,List.getElem?_eq_getElem (by omega)]
  congr 2
  omega
 obtain⟨u,h1,h2⟩:=h.at hi
 rw[List.getElem?_append_right (Nat.le_refl _)]at h1
 simp at h1
 rw[h1]
 exact h2
def mL(H:Hp)(cvs:List (List aB×V))(cm:aC->Option aC):Prop:=∀z,(cm z=none/\aF cvs (kS z)=none)\/ ∃u v,cm z=some u/\aF cvs (kS z)=some v/\fO H v u
theorem mL.mapT{cvs:List (List aB×V)}(k:∀a xs,H a=some (.tup xs)->H' a=some (.tup xs))(h:mL H cvs cm):mL H' cvs cm:=fun z=>(h z).imp id fun⟨u,v,e1,e2,e3⟩=>⟨u,v,e1,e2,e3.mapT k⟩
theorem oJ{α:Type}{xs:List α}{x:α}(h:xs[i]?=some x):xs.take (i+ 1)=xs.take i++ [x]:=by
 rw[List.take_add_one,h]
 rfl
section
inductive zM(K:Fg)(vs:List V)(H:Hp)(Q:VK)(E:XK):Prop
 |mk (cd:Addr) (v0 vl:V) (cvs:List (List aB×V)) (cm:aC->Option aC) (s x:aC) (ps:List aC):vs= [.ref cd,v0,vl] ->H cd=some (.dT cvs)->mL H cvs cm->fO H v0 s->fO H vl x->cW cm s x ps->ps.length<=900->(∀p∈ps,N2 p)->(∀H' l vs',aH H H'->H l=none->H' l=some (.lst vs')->cA H' vs' ps.reverse->Q (.ref l) H')->zM K vs H Q E
theorem a1X:bD ["came_from","spot","last","way"] ["came_from","spot","last"] (aO a2E):={}
theorem a4a(T:bF K mg):bG P w K mg af aE 1 "way_to" ["came_from","spot","last"] (zM K):=by
 refine T.d_way_to.known a1X (fun _ _ _ _ _ _ us hl=>iN (fun _ _ _=>rfl) us hl) (fun vs H Q E h=> ?_) (fun f ah A ag s H vs Q E hr h=> ?_)
 ·obtain⟨cd,v0,vl,cvs,cm,z,x,ps,rfl,_⟩:=h
  rfl
 ·obtain⟨cd,v0,vl,cvs,cm,z,x,ps,rfl,hcd,hcm,h0,hx,hB,h900,hN,q⟩:=h
  have hu:=dQ hr
  refine⟨_,(aK (bU (i:=3) a1X.nd rfl (Or.inl rfl) (fV (aA (pv 2) aG)))
   (aK (xY PassesOwn.never (cU (nR hr.units) (dA iY (pv 3) (yJ yL aY) (fun _ _=>rfl)) (pv 1) (cO _)) (aL (cG (kI F.plainAttrs_list F.slot_list_append F.type_list_append jN (pv 3) (aA (fQ hu (pv 0) (dA iY (pv 3) (yJ yL aY) (fun _ _=>rfl)) (fun _ _=>rfl)) aG)))))
   (aL (bL (a6C rfl (pv 3) rfl T.list jL rfl T.reversed a7n))))),?_⟩
  refine⟨_,rfl,sl,fun wl hwl=> ?_⟩
  have tup0:∀{H2:Hp},bC wl H H2->∀a xs,H a=some (.tup xs)->H2 a=some (.tup xs):=fun{H2} b a xs e=>b _ _ (bE e hwl) e
  have hNz:N2 z:=by
   have:=hB.last
   exact hN z (List.mem_of_getLast? this)
  refine⟨fun m σ H2=>∃(i:Nat) (ws:List V),σ= [some (.ref cd),some v0,some vl,some (.ref wl)] /\m=ps.length- i/\i<ps.length/\bC wl H H2/\H2 wl=some (.lst ws)/\cA H2 ws (ps.take (i+ 1)),⟨ps.length,0,[vl],rfl,by omega,?_,fun b o n e=>by rw[aI n];exact e,aJ,?_⟩,?_⟩
  ·have:=(List.getElem?_eq_some_iff.mp hB.head).1
   exact this
  ·rw[oJ hB.head]
   exact .cons (hx.same (aH.new hwl)) .nil
  ·rintro m σ H2 ⟨i,ws,rfl,rfl,hi,b2,hw2,hS⟩
   obtain⟨y,hy⟩:∃y,ps[i]?=some y:=⟨_,List.getElem?_eq_getElem hi⟩
   have hyN:N2 y:=hN y (List.mem_of_getElem? hy)
   have hBi:=hB.drop hy
   rw[oJ hy]at hS
   obtain⟨ws',v,rfl,hv⟩:=hS.last
   have h02:=h0.mapT (tup0 b2)
   refine⟨_,rfl,_,rfl,wl,_,_,_,rfl,rfl,aM.of hw2,zF _ _,_,rfl,_,_,hv.dt,h02.dt,hyN.lay,hNz.lay,(show max 0 (max 0 0)+ 1<=64 by decide),_,rfl,?_⟩
   rw[xJ]
   refine dM (fun g=> ?_) (fun g=> ?_)
   ·have g:y≠z:=by simpa using g
    have hlen:(ps.drop i).length=ps.length- i:=List.length_drop
    generalize hD:ps.drop i=pd at hBi hlen
    cases hBi with
    |nil=>exact absurd rfl g
    | @cons _ u ps' _ hu' hb'=>
     have hps':ps.drop (i+ 1)=ps':=by
      have:(ps.drop i).drop 1=ps':=by rw[hD];rfl
      rw[List.drop_drop]at this
      exact this
     have hi1:ps[i+ 1]?=some u:=by
      have:=hb'.head
      rw[<- hps',List.getElem?_drop]at this
      exact this
     obtain⟨av,rfl,hav⟩:=hv
     rcases hcm y with⟨e,_⟩|⟨u',v',e1,e2,e3⟩
     ·rw[e]at hu';cases hu'
     ·rw[e1]at hu'
      cases hu'
      have hl2:ps.take i++ [y]=ps.take (i+ 1):=(oJ hy).symm
      have hwl':(ws'++ [V.ref av]).length<=900:=by
       rw[hS.length,hl2,List.length_take]
       omega
      refine⟨fun σ' H'=>∃(j:Nat) (ws:List V),σ'= [some (.ref cd),some v0,some vl,some (.ref wl)] /\j=i+ 1/\j<ps.length/\bC wl H H'/\H' wl=some (.lst ws)/\cA H' ws (ps.take (j+ 1)),fun σ' H' ⟨j,ws,h1,h2,h3,h4,h5,h6⟩=>⟨ps.length- j,by omega,j,ws,h1,rfl,h3,h4,h5,h6⟩,?_⟩
      refine⟨_,rfl,.inl ⟨rfl,_,aM.of hw2⟩,_,rfl,_,rfl,_,rfl,wl,_,_,_,rfl,rfl,aM.of hw2,zF _ _,cd,v',rfl,e2▸bW.t (k:=kS y) (b2 _ _ (bE hcd hwl) hcd) hav,wl,_,_,rfl,rfl,hw2,dJ (by omega),?_⟩
      have tup2:∀a xs,H2 a=some (.tup xs)->upd H2 wl (.lst (ws'++ [.ref av] ++ [v'])) a=some (.tup xs):=fun a xs e=>by rw[aI (jZ e hw2 (fun z=>by cases z))];exact e
      refine⟨i+ 1,_,rfl,rfl,(List.getElem?_eq_some_iff.mp hi1).1,b2.trans bC.upd,aJ,?_⟩
      rw[oJ hi1,<- hl2]
      exact(hS.mapT tup2).snoc ((e3.mapT (tup0 b2)).mapT tup2)
   ·have g:y=z:=by
     by_cases e:y=z
     ·exact e
     ·exact absurd (by simp[e]) g
    subst g
    have hi1:i+ 1=ps.length:=by
     have:=cW.uniq hBi .nil
     have hl:(ps.drop i).length=1:=by rw[this];rfl
     rw[List.length_drop]at hl
     omega
    refine⟨_,rfl,wl,_,rfl,aM.of hw2,fun l hl=> ?_⟩
    have s2:=aH.new (o:=.lst (ws'++ [v]).reverse) hl
    refine q _ l _ (fun b o e=>s2 _ _ (b2 _ _ (bE e hwl) e)) ?_ aJ ?_
    ·cases e:H l with
     |none=>rfl
     |some o=>rw[b2 _ _ (fun z=>by rw[z,hw2]at hl;cases hl) e]at hl;cases hl
    ·have e:ps.take i++ [y]=ps:=by rw[<- oJ hy,hi1,List.take_length]
     rw[e]at hS
     exact(hS.same s2).rev
end
theorem a7k{n:Nat}(h:n<3000):n<sizeLine:=Nat.lt_trans h (by decide)
def fR(p q:Addr)(H H':Hp):Prop:=∀b o,b≠p->b≠q->H b=some o->H' b=some o
theorem fR.of{p q:Addr}(s:aH H H'):fR p q H H':=fun b o _ _ e=>s b o e
theorem fR.trans{p q:Addr}(a:fR p q H H1)(b:fR p q H1 H2):fR p q H H2:=fun c o n m e=>b c o n m (a c o n m e)
theorem fR.u1{p q:Addr}:fR p q H (upd H p o):=fun b u n _ e=>by rw[aI n];exact e
theorem fR.u2{p q:Addr}:fR p q H (upd H q o):=fun b u _ n e=>by rw[aI n];exact e
theorem wC(s:aH H H')(h:H' l=none):H l=none:=by
 cases e:H l with
 |none=>rfl
 |some o=>rw[s l o e]at h;cases h
theorem cW.each{s:aC}:∀{x:aC} {ps:List aC},cW cm s x ps->∀p∈ps,p=s\/ ∃u,cm p=some u
 |_,_,.nil,p,hp=> .inl (List.mem_singleton.mp hp)
 |_,_,.cons h e b,p,hp=>by
  rcases List.mem_cons.mp hp with rfl|hp
  ·exact .inr ⟨_,e⟩
  ·exact b.each p hp
structure pN(H:Hp)(gd:Addr)(kvs:List (List aB×V))(adj:aC->List aC):Prop where
 d:H gd=some (.dT kvs)
 a:∀z,(aF kvs (kS z)=none/\adj z= [])\/ ∃l vs,aF kvs (kS z)=some (.ref l)/\H l=some (.lst vs)/\cA H vs (adj z)
 n:∀z,∀y∈adj z,N2 y
 l:∀z,(adj z).length<=100
theorem pN.same{gd:Addr}{kvs:List (List aB×V)}(s:aH H H')(h:pN H gd kvs adj):pN H' gd kvs adj:=
 ⟨s _ _ h.d,fun z=>(h.a z).imp id fun⟨l,vs,e1,e2,e3⟩=>⟨l,vs,e1,s _ _ e2,e3.same s⟩,h.n,h.l⟩
theorem mL.put{cvs:List (List aB×V)}{y x:aC}{v:V}(h:mL H cvs cm)(hv:fO H v x):mL H (aU cvs (kS y) v) (gH cm y x):=fun z=>by
 unfold gH
 rw[fD]
 by_cases e:z=y
 ·rw[if_pos e,if_pos (by rw[e])]
  exact .inr ⟨x,v,rfl,rfl,hv⟩
 ·rw[if_neg e,if_neg (fun h=>e (a26 h))]
  exact h z
theorem a3a{κ:Type} [DecidableEq κ](kvs:List (κ×V))(k:κ)(y:V):(aU kvs k y).length<=kvs.length+ 1:=by
 unfold aU
 split
 ·rw[List.length_map];omega
 ·rw[List.length_append];exact Nat.le_refl _
structure nD(H0 H:Hp)(cd fl:Addr)(cvs:List (List aB×V))(cm:aC->Option aC)(nodes:List aC)(fvs:List V)(fz:List aC):Prop where
 s:aH H0 H
 c:H cd=some (.dT cvs)
 o:mL H cvs cm
 l:cvs.length+ iW cm nodes<=nodes.length
 f:H fl=some (.lst fvs)
 z:cA H fvs fz
theorem nD.same{H0:Hp}{cd fl:Addr}{cvs:List (List aB×V)}{fvs:List V}(s:aH H H')(h:nD H0 H cd fl cvs cm nodes fvs fz):nD H0 H' cd fl cvs cm nodes fvs fz:=
 ⟨h.s.trans s,s _ _ h.c,h.o.mapT fun a xs e=>s _ _ e,h.l,s _ _ h.f,h.z.same s⟩
section
inductive xF(K:Fg)(vs:List V)(H:Hp)(Q:VK)(E:XK):Prop
 |mk (gd:Addr) (v0:V) (kvs:List (List aB×V)) (adj:aC->List aC) (s:aC) (nodes:List aC):vs= [.ref gd,v0] ->pN H gd kvs adj->fO H v0 s->N2 s->(∀z,∀y∈adj z,y∈nodes)->nodes.length<=100->(∀H',aH H H'->((∀n,¬gW adj s (n+ 1) s)->Q .non H')/\∀l vs' ys,H l=none->H' l=some (.lst vs')->cA H' vs' ys->mY adj s ys->(∀n,n+ 1<ys.length->¬gW adj s (n+ 1) s)->Q (.ref l) H')->xF K vs H Q E
theorem nF:bD ["leanings","spot","came_from","waiting","farther","leaning","leant"] ["leanings","spot"] (aO a1q):={}
theorem a8U(T:bF K mg):bG P w K mg af aE 2 "ring_from" ["leanings","spot"] (xF K):=by
 have G_way_to:bG P w K mg af aE 1 "way_to" ["came_from","spot","last"] (zM K):=a4a T
 refine T.d_ring_from.known nF (fun _ _ _ _ _ _ us hl=>eC (fun _ _=>rfl) us hl) (fun vs H Q E h=> ?_) (fun f ah A ag s H vs Q E hr h=> ?_)
 ·obtain⟨gd,v0,kvs,adj,z,nodes,rfl,_⟩:=h
  rfl
 ·obtain⟨gd,v0,kvs,adj,z,nodes,rfl,hG,h0,hzN,hnodes,h100,q⟩:=h
  have hu:=dQ hr
  refine⟨_,(aK (bU (i:=2) nF.nd rfl (Or.inl rfl) qJ)
   (aK (bU (i:=3) nF.nd rfl (Or.inl rfl) (fV (aA (pv 1) aG)))
   (aK (xY PassesOwn.never (a25 (pv 3) (fun _=>rfl)) (aK (bU (i:=4) nF.nd rfl (Or.inl rfl) (fV aG))
   (aK (kO PassesOwn.never rfl (kR (pv 3)) (gQ (i:=5) nF.nd rfl (Or.inl rfl)) (aL (kO PassesOwn.never rfl (kR (a68 hu (pv 0) (pv 5) (fV aG) ⟨rfl,rfl,rfl,rfl⟩)) (gQ (i:=6) nF.nd rfl (Or.inl rfl))
   (aK (bK (cU (nO hr.units) (pv 6) (pv 1) (cO _)) (aL (bL (bQ G_way_to hr.mn aR (aA (pv 2) (aA (pv 1) (aA (pv 5) aG)))))) bO)
   (aL (bK (iR (lY hu (pv 6) (pv 2))) (aK (jI hu (pv 2) (pv 6) (pv 5) rfl) (aL (cG (kI F.plainAttrs_list F.slot_list_append F.type_list_append jN (pv 4) (aA (pv 6) aG))))) bO))))))
   (aL (bU (i:=3) nF.nd rfl (Or.inl rfl) (pv 4))))))
   (aL (bL gE))))),?_⟩
  intro cd hcd
  have s1:=aH.new (o:=.dT []) hcd
  have hc1:=aJ (H:=H) (a:=cd) (o:=.dT [])
  generalize upd H cd (.dT [])=H1 at s1 hc1|-
  refine⟨_,rfl,sl,fun wl hwl=> ?_⟩
  have s2:=aH.new (o:=.lst [v0]) hwl
  let Wf:Nat->St->Hp->Prop:=fun m σ H2=>∃(r:Nat) (cm:aC->Option aC) (wz:List aC) (cvs:List (List aB×V)) (wl:Addr) (wvs:List V) (o4 o5 o6:Option V),σ= [some (.ref gd),some v0,some (.ref cd),some (.ref wl),o4,o5,o6] /\m=2* iW cm nodes+ (if wz= [] then 0 else 1)/\nD H H2 cd wl cvs cm nodes wvs wz/\H wl=none/\lK adj z nodes r cm wz
  refine⟨Wf,⟨_,0,fun _=>none,[z],[],wl,[v0],_,_,_,rfl,rfl,⟨s1.trans s2,s2 _ _ hc1,fun y=> .inl ⟨rfl,rfl⟩,by have:=a0o (fun _=>none) nodes;simpa using this,aJ,.cons (h0.same (s1.trans s2)) .nil⟩,wC s1 hwl,lK.start⟩,?_⟩
  clear hwl s2 wl
  rintro m σ H2 ⟨r,cm,wz,cvs,wl,wvs,o4,o5,o6,rfl,hm,A2,hwl,B⟩
  refine⟨_,rfl,_,.inl ⟨wvs,aM.of A2.f,rfl⟩,?_⟩
  refine dM (fun g=> ?_) (fun g=> ?_)
  ·have hwz:wz≠ []:=fun e=>by
    have:=A2.z.length
    rw[e]at this
    have:wvs= []:=List.length_eq_zero_iff.mp this
    rw[this]at g
    cases g
   refine⟨fun σ' H'=>∃m',m'<m/\Wf m' σ' H',fun σ' H' h=>h,?_⟩
   refine⟨sl,fun fl hfl=> ?_⟩
   have s3:=aH.new (o:=.lst []) hfl
   have A3:nD H (upd H2 fl (.lst [])) cd fl cvs cm nodes [] []:=⟨A2.s.trans s3,s3 _ _ A2.c,A2.o.mapT fun a xs e=>s3 _ _ e,A2.l,aJ,.nil⟩
   have hw3:=s3 _ _ A2.f
   have hwz3:=A2.z.same s3
   have ncf:cd≠fl:=bE A2.c hfl
   have nwf:wl≠fl:=bE A2.f hfl
   have nwc:wl≠cd:=jZ A2.f A2.c (fun z=>by cases z)
   have hfl0:H fl=none:=wC A2.s hfl
   generalize upd H2 fl (.lst [])=H3 at A3 hw3 hwz3|-
   refine⟨_,rfl,wl,rfl,⟨_,aM.of hw3⟩,?_⟩
   refine pC (K:=K) (a:=wl) (xs:=wvs) (fun i σ H4=>∃(cm':aC->Option aC) (fz:List aC) (cvs':List (List aB×V)) (fvs:List V) (o5 o6:Option V),σ= [some (.ref gd),some v0,some (.ref cd),some (.ref wl),some (.ref fl),o5,o6] /\fR cd fl H3 H4/\nD H H4 cd fl cvs' cm' nodes fvs fz/\iT adj z nodes r cm wz i cm' fz)
    ⟨cm,[],cvs,[],_,_,rfl,fR.of (aH.refl _),A3,iT.start B⟩ (by rintro i σ H4 _ ⟨_,_,_,_,_,_,_,b4,_⟩;exact aM.of (b4 _ _ nwc nwf hw3)) ?_ ?_
   ·rintro i x σ H4 hx ⟨cm',fz,cvs',fvs,o5,o6,rfl,b4,A4,M4⟩
    obtain⟨xz,hxz,hxs⟩:=hwz3.at hx
    have tup34:∀a xs,H3 a=some (.tup xs)->H4 a=some (.tup xs):=fun a xs e=>b4 _ _ (jZ e A3.c (fun z=>by cases z)) (jZ e A3.f (fun z=>by cases z)) e
    have hx4:=hxs.mapT tup34
    have hG4:=hG.same A4.s
    obtain⟨ax,rfl,hax⟩:=hx4
    refine⟨_,rfl,gd,rfl,.inr ⟨kvs,.inl hG4.d⟩,_,rfl,sl,fun dl hdl=> ?_⟩
    have s5:=aH.new (o:=.lst []) hdl
    have hdl5:=aJ (H:=H4) (a:=dl) (o:=.lst [])
    have A5:=A4.same s5
    have b5:fR cd fl H3 (upd H4 dl (.lst [])):=b4.trans (fR.of s5)
    have ndc:dl≠cd:=fun e=>by rw[e,A4.c]at hdl;cases hdl
    have ndf:dl≠fl:=fun e=>by rw[e,A4.f]at hdl;cases hdl
    have hG5:=hG4.same s5
    have hax5:=s5 _ _ hax
    generalize upd H4 dl (.lst [])=H5 at s5 hdl5 A5 b5 hG5 hax5|-
    obtain⟨la,avs,hget,hla,hSa,nlc,nlf⟩:∃(la:Addr) (avs:List V),(aF kvs (kS xz)).getD (.ref dl)= .ref la/\H5 la=some (.lst avs)/\cA H5 avs (adj xz)/\la≠cd/\la≠fl:=by
     rcases hG.a xz with⟨e1,e2⟩|⟨l,vs,e1,e2,e3⟩
     ·exact⟨dl,[],by rw[e1];rfl,hdl5,by rw[e2];exact .nil,ndc,ndf⟩
     ·have hs:=A5.s
      exact⟨l,vs,by rw[e1];rfl,hs _ _ e2,e3.same hs,bE e2 hcd,bE e2 hfl0⟩
    refine⟨_,bW.t (k:=kS xz) hG5.d hax5,?_⟩
    refine⟨la,hget,⟨_,aM.of hla⟩,?_⟩
    have hxw:xz∈wz:=List.mem_of_getElem? hxz
    refine pC (K:=K) (a:=la) (xs:=avs) (fun j σ H6=>∃(cm':aC->Option aC) (fz:List aC) (cvs':List (List aB×V)) (fvs:List V) (o6:Option V),σ= [some (.ref gd),some v0,some (.ref cd),some (.ref wl),some (.ref fl),some (.ref ax),o6] /\fR cd fl H5 H6/\nD H H6 cd fl cvs' cm' nodes fvs fz/\iT adj z nodes r cm wz i cm' fz/\∀y∈(adj xz).take j,y≠z/\(cm' y).isSome)
     ⟨cm',fz,cvs',fvs,_,rfl,fR.of (aH.refl _),A5,M4,fun y hy=>by simp at hy⟩ (by rintro j σ H6 _ ⟨_,_,_,_,_,_,b6,_⟩;exact aM.of (b6 _ _ nlc nlf hla)) ?_ ?_
    ·have hc5:=A5.c
     have hf5:=A5.f
     clear A4 M4 A5
     rintro j y σ H6 hy ⟨cm',fz,cvs',fvs,o6,rfl,b6,A6,M6,D6⟩
     obtain⟨yz,hyz,hys⟩:=hSa.at hy
     have tup56:∀a xs,H5 a=some (.tup xs)->H6 a=some (.tup xs):=fun a xs e=>b6 _ _ (jZ e hc5 (fun z=>by cases z)) (jZ e hf5 (fun z=>by cases z)) e
     have hy6:=hys.mapT tup56
     have hx6:=tup56 _ _ hax5
     have h06:=h0.same A6.s
     have hya:yz∈adj xz:=List.mem_of_getElem? hyz
     have hyN:=hG.n xz yz hya
     refine⟨_,rfl,_,rfl,_,_,hy6.dt,h06.dt,hyN.lay,hzN.lay,(show max 0 (max 0 0)+ 1<=64 by decide),_,rfl,?_⟩
     rw[xJ]
     refine dM (fun g1=> ?_) (fun g1=> ?_)
     ·have g1:yz=z:=by simpa using g1
      subst g1
      obtain⟨ps,hB,hl⟩:=B.d xz hxw
      have hB':=hB.ext M6.e
      have hbl:r<=100:=by
       rcases B.b with b|b
       ·exact absurd b hwz
       ·omega
      refine⟨_,rfl,_,rfl,_,rfl,cd,v0,.ref ax,cvs',cm',yz,xz,ps,rfl,A6.c,A6.o,h06,⟨ax,rfl,hx6⟩,hB',by omega,fun p hp=> ?_,fun H' l vs' s7 hl' hl7 hS=> ?_⟩
      ·rcases hB'.each p hp with e|⟨u,e⟩
       ·rw[e];exact hzN
       ·exact hG.n u p (M6.c p u e).1
      ·exact(q H' (A6.s.trans s7)).2 l vs' ps.reverse (wC A6.s hl') hl7 hS (hB'.ring (fun z u h=>(M6.c z u h).1) hya) fun n hn=>B.n n (by rw[List.length_reverse]at hn;omega)
     ·have g1:yz≠z:=by simpa using g1
      obtain⟨ay,rfl,hay⟩:=hy6
      refine⟨_,rfl,_,rfl,cd,_,rfl,bW.t (k:=kS yz) A6.c hay,_,rfl,?_⟩
      have tk:(adj xz).take (j+ 1)=(adj xz).take j++ [yz]:=oJ hyz
      rcases A6.o yz with⟨c1,c2⟩|⟨u,v,c1,c2,c3⟩
      ·rw[c2]
       refine cE ?_
       have hl6:=A6.l
       have hMl:=M6.l
       have hll:=a0o cm nodes
       refine⟨_,rfl,_,rfl,_,rfl,cd,_,rfl,gI.t (k:=kS yz) A6.c hay (a7k (by omega)),?_⟩
       have s7:aH H (upd H6 cd (.dT (aU cvs' (kS yz) (.ref ax)))):=A6.s.on hcd
       have hf7:upd H6 cd (.dT (aU cvs' (kS yz) (.ref ax))) fl=some (.lst fvs):=by rw[aI ncf.symm];exact A6.f
       have tup67:∀a xs,H6 a=some (.tup xs)->upd H6 cd (.dT (aU cvs' (kS yz) (.ref ax))) a=some (.tup xs):=fun a xs e=>by rw[aI (jZ e A6.c (fun z=>by cases z))];exact e
       have hc7:=aJ (H:=H6) (a:=cd) (o:=.dT (aU cvs' (kS yz) (.ref ax)))
       have b7:fR cd fl H5 (upd H6 cd (.dT (aU cvs' (kS yz) (.ref ax)))):=b6.trans fR.u1
       generalize upd H6 cd (.dT (aU cvs' (kS yz) (.ref ax)))=H7 at s7 hf7 tup67 hc7 b7|-
       have hfz:fvs.length<=100:=by rw[A6.z.length];omega
       refine⟨_,rfl,.inl ⟨rfl,_,aM.of hf7⟩,_,rfl,fl,_,_,rfl,rfl,hf7,dJ (by omega),?_⟩
       have tup78:∀a xs,H7 a=some (.tup xs)->upd H7 fl (.lst (fvs++ [.ref ay])) a=some (.tup xs):=fun a xs e=>by rw[aI (jZ e hf7 (fun z=>by cases z))];exact e
       have tup68:=fun a xs e=>tup78 a xs (tup67 a xs e)
       have M8:=M6.put B hxw hya g1 c1 (hnodes xz yz hya)
       refine⟨gH cm' yz xz,fz++ [yz],aU cvs' (kS yz) (.ref ax),fvs++ [.ref ay],_,rfl,b7.trans fR.u2,⟨s7.on hfl0,by rw[aI ncf];exact hc7,(A6.o.mapT tup68).put ⟨ax,rfl,tup68 _ _ hx6⟩,?_,aJ,(A6.z.mapT tup68).snoc ⟨ay,rfl,tup68 _ _ hay⟩⟩,M8,fun y' hy'=> ?_⟩
       ·have h1:=a3a cvs' (kS yz) (.ref ax)
        have h2:=a0r (cm:=cm') (cm':=gH cm' yz xz) (y:=yz) (fun x h=>by unfold gH;split<;>simp_all) c1 (by unfold gH;rw[if_pos rfl];rfl) (hnodes xz yz hya)
        omega
       ·rw[tk]at hy'
        rcases List.mem_append.mp hy' with h|h
        ·obtain⟨d1,d2⟩:=D6 y' h
         exact⟨d1,by unfold gH;split<;>simp_all⟩
        ·rw[List.mem_singleton.mp h]
         exact⟨g1,by unfold gH;rw[if_pos rfl];rfl⟩
      ·rw[c2]
       refine bH ?_
       refine⟨cm',fz,cvs',fvs,_,rfl,b6,A6,M6,fun y' hy'=> ?_⟩
       rw[tk]at hy'
       rcases List.mem_append.mp hy' with h|h
       ·exact D6 y' h
       ·rw[List.mem_singleton.mp h]
        exact⟨g1,by rw[c1];rfl⟩
    ·rintro σ H6 ⟨cm',fz,cvs',fvs,o6,rfl,b6,A6,M6,D6⟩
     refine⟨cm',fz,cvs',fvs,_,_,rfl,b5.trans b6,A6,M6.next hxz fun y hy=>D6 y ?_⟩
     rw[hSa.length,List.take_length]
     exact hy
   ·rintro σ H4 ⟨cm',fz,cvs',fvs,o5,o6,rfl,b4,A4,M4⟩
    rw[hwz3.length]at M4
    have B':=M4.over B hwz
    have hMl:=M4.l
    refine⟨_,rfl,_,?_,r+ 1,cm',fz,cvs',fl,fvs,_,_,_,rfl,rfl,A4,hfl0,B'⟩
    rw[hm,if_neg hwz]
    by_cases e:fz= []
    ·rw[if_pos e]
     omega
    ·rw[if_neg e]
     have:0<fz.length:=List.length_pos_iff.mpr e
     omega
  ·have hwz:wz= []:=by
    have:=A2.z.length
    cases wvs with
    |nil=>exact List.length_eq_zero_iff.mp this.symm
    |cons=>exact absurd rfl g
   subst hwz
   exact(q H2 A2.s).1 B.over
inductive yE(K:Fg)(vs:List V)(H:Hp)(Q:VK)(E:XK):Prop
 |mk (p C dx:Addr) (fs:List (Str×V)) (v:V):vs= [.ref p,v] ->H p=some (.ins C dx fs)->cI K C->cH K C "function" ->fs.length<1000->Q .non (upd H p (.ins C dx (aN "function" v fs)))->yE K vs H Q E
theorem a4K:bD ["self","function"] ["self","function"] (aO a30):={}
theorem a7h(T:bF K mg)(Y:wH K mg C):aS P w K mg af aE 1 C "__init__" ["self","function"] (yE K):=by
 refine Y.m_init.known a4K (fun _ _ _ _ _ _ us hl=>eC (fun _ _=>rfl) us hl) (fun vs H Q E h=> ?_) (fun f ah A ag s H vs Q E hr h=> ?_)
 ·obtain⟨p,C',dx,fs,v,rfl,_⟩:=h
  rfl
 ·obtain⟨p,C',dx,fs,v,rfl,hp,hC,hN,hl,q⟩:=h
  refine⟨_,(aL (cY (pv 0) (pv 1) rfl)),?_⟩
  exact⟨_,rfl,_,rfl,p,C',dx,fs,rfl,hp,hC,hN,hl,q⟩
def iE(nl fa:Addr):List (Str×V):=[("function",V.ref fa),("names",V.ref nl)]
theorem pS(nl fa:Addr):(iE nl fa).lookup ("function":Str)=some (.ref fa)/\(iE nl fa).lookup ("names":Str)=some (.ref nl)/\(iE nl fa).lookup ("leans":Str)=none/\(iE nl fa).lookup ("gather":Str)=none/\(iE nl fa).lookup ("reckon":Str)=none:=⟨rfl,rfl,rfl,rfl,rfl⟩
inductive xT(K:Fg)(C:Addr)(vs:List V)(H:Hp)(Q:VK)(E:XK):Prop
 |mk (p dx a fa:Addr) (zs:List Str):vs= [.ref p,.ref a,.ref fa] ->H p=some (.ins C dx [])->aM K H a (zs.map V.str)->a≠p->zs.length<=6->(∀z∈zs,Nl z)->(∀H' nl,bC p H H'->H nl=none->H' p=some (.ins C dx (iE nl fa))->H' nl=some (.lst (zs.map V.str))->Q .non H')->xT K C vs H Q E
theorem a5F:bD ["self","names","function"] ["self","names","function"] (aO a1y):={}
theorem a5I(T:bF K mg){R:Addr}(Z:wH K mg R)(Y:nA K mg C):eU P w K mg af aE 4 C ["self","names","function"] (xT K C):=by
 have G_init:aS P w K mg af aE 1 R "__init__" ["self","function"] (yE K):=a7h T Z
 have G_names:bG P w K mg af aE 3 "checked_names" ["names"] (xS K):=a7i T
 refine(Y.m_init.known a5F (fun _ _ _ _ _ _ us hl=>iN (fun _ _ _=>rfl) us hl) (fun vs H Q E h=> ?_) (fun f ah A ag s H vs Q E hr h=> ?_)).init Y.mks Y.kc
 ·obtain⟨p,dx,a,fa,zs,rfl,_⟩:=h
  rfl
 ·obtain⟨p,dx,a,fa,zs,rfl,hp,hS,nap,z6,hz,q⟩:=h
  refine⟨_,(aK (cG (a54 (yM Z.c) Z.v_init G_init hr.mn aR (aA (pv 0) (aA (pv 2) aG))))
   (aL (cY (pv 0) (bQ G_names hr aR (aA (pv 1) aG)) rfl))),?_⟩
  refine⟨_,rfl,_,rfl,p,C,dx,[],.ref fa,rfl,hp,Y.cl,Y.n_function,by decide,?_⟩
  have b1:bC p H (upd H p (.ins C dx (aN "function" (.ref fa) []))):=bC.upd
  have p1:upd H p (.ins C dx (aN "function" (.ref fa) [])) p=some (.ins C dx (aN "function" (.ref fa) [])):=aJ
  have n1:∀{b:Addr},upd H p (.ins C dx (aN "function" (.ref fa) [])) b=none->H b=none/\b≠p:=kH
  generalize upd H p (.ins C dx (aN "function" (.ref fa) []))=H1 at b1 p1 n1|-
  have hS1:aM K H1 a (zs.map V.str):=by
   rcases hS with(h|⟨o,h⟩)|h
   ·exact .inl (.inl (b1 _ _ nap h))
   ·exact .inl (.inr ⟨o,b1 _ _ nap h⟩)
   ·exact .inr h
  refine⟨_,rfl,a,zs,rfl,hS1,z6,hz,fun H2 nl s2 hnl h2=> ?_⟩
  obtain⟨hn0,nnp⟩:=n1 hnl
  refine⟨_,rfl,p,C,dx,_,rfl,s2 _ _ p1,Y.cl,Y.n_names,(by show 1<1000;decide),?_⟩
  exact q _ nl ((b1.trans (bC.of s2)).trans bC.upd) hn0 aJ (by rw[aI nnp];exact h2)
inductive yI(vs:List V)(H:Hp)(Q:VK)(E:XK):Prop
 |mk (a:Addr) (xs:List V) (zs:List aC):vs= [.ref a] ->H a=some (.lst xs)->cA H xs zs->(∀z∈zs,N2 z)->zs.length<=100->(∀H' l ys,aH H H'->H l=none->H' l=some (.lst ys)->cA H' ys (fI zs)->Q (.ref l) H')->yI vs H Q E
theorem a4E(T:bF K mg):bG P w K mg af aE 2 "each_once" ["spots"] yI:=by
 refine T.d_each_once.known xL (fun _ _ _ _ _ _ us hl=>fL (fun _=>rfl) us hl) (fun vs H Q E h=> ?_) (fun f ah A ag s H vs Q E hr h=> ?_)
 ·obtain⟨a,xs,ps,rfl,_⟩:=h
  rfl
 ·obtain⟨a,xs,ps,rfl,ha,hsp,hN,h100,q⟩:=h
  refine⟨_,(aK (bU (i:=1) xL.nd rfl (Or.inl rfl) (fV aG))
   (aK (kO PassesOwn.never rfl (kR (pv 0)) (gQ (i:=2) xL.nd rfl (Or.inl rfl)) (aL (bK (cU (a6a hr.units) (pv 2) (pv 1) (by with_unfolding_all rfl)) (aL (cG (kI F.plainAttrs_list F.slot_list_append F.type_list_append jN (pv 1) (aA (pv 2) aG)))) bO)))
   (aL (bL (pv 1))))),?_⟩
  have hq:aM K H a xs:=aM.of ha
  have hlx:xs.length=ps.length:=hsp.length
  refine⟨sl,fun l hl=> ?_⟩
  refine⟨_,rfl,a,rfl,⟨_,(aH.new hl).seq hq⟩,?_⟩
  refine pC (K:=K) (a:=a) (xs:=xs) (fun i σ H2=>∃o ys,σ= [some (.ref a),some (.ref l),o] /\aH H H2/\H2 l=some (.lst ys)/\cA H ys (fI (ps.take i))) ⟨_,[],rfl,aH.new hl,aJ,.nil⟩ (fun i σ H2 _ ⟨_,_,_,s2,_⟩=>s2.seq hq) ?_ ?_
  ·rintro i x σ H2 hx ⟨o,ys,rfl,s2,h2,hd⟩
   obtain⟨p,e,hp2⟩:=hsp.at hx
   have hp:=List.mem_of_getElem? e
   have hle:=hd.length
   have hyl:ys.length<=100:=by
    have h3:=a2I (ps.take i)
    rw[List.length_take]at h3
    omega
   have lay2:(PyData.list ((fI (ps.take i)).map iG)).canLay0=true:=a00 fun p' hp'=>hN p' (List.mem_of_mem_take (a2D hp'))
   have et:fI (ps.take (i+ 1))=if p∈fI (ps.take i) then fI (ps.take i) else fI (ps.take i)++ [p]:=by
    rw[List.take_add_one,e]
    exact a4f _ _
   refine⟨_,rfl,_,rfl,iG p,_,(fO.dt hp2).same s2,Dt.lst (aM.of h2) (dN.same s2 (cA.dt hd)),yZ (hN p hp).1 (hN p hp).2,lay2,(show max 0 (max 0 0)+ 1<=62 by decide),_,rfl,?_⟩
   rw[a1T]
   by_cases hm:p∈fI (ps.take i)
   ·rw[decide_eq_true hm]
    rw[if_pos hm]at et
    exact bH ⟨_,ys,rfl,s2,h2,by rw[et];exact hd⟩
   ·rw[decide_eq_false hm]
    rw[if_neg hm]at et
    refine cE ?_
    refine⟨_,rfl,.inl ⟨rfl,_,aM.of h2⟩,_,rfl,l,_,_,rfl,rfl,h2,dJ (by omega),?_⟩
    have s3:aH H (upd H2 l (.lst (ys++ [x]))):=s2.on hl
    refine⟨_,ys++ [x],rfl,s3,aJ,?_⟩
    rw[et]
    exact hd.snoc hp2
  ·rintro σ H2 ⟨o,ys,rfl,s2,h2,hd⟩
   refine⟨_,rfl,q H2 l ys s2 hl h2 ?_⟩
   rw[hlx,List.take_length]at hd
   exact hd.same s2
inductive uI(C:Addr)(vs:List V)(H:Hp)(Q:VK)(E:XK):Prop
 |mk (p dx nl fa:Addr) (t:Str) (zs:List Str):vs= [.ref p,.str t] ->H p=some (.ins C dx (iE nl fa))->H nl=some (.lst (zs.map V.str))->zs.length<=6->(∀z∈zs,Nl z)->Nl t->(∀H' l ys,aH H H'->H l=none->H' l=some (.lst ys)->cA H' ys (fI (zs.map fun z=>(t,z)))->Q (.ref l) H')->uI C vs H Q E
theorem a4v:bD ["self","table"] ["self","table"] (aO qP):={}
theorem a8Y(T:bF K mg)(Y:nA K mg C):aS P w K mg af aE 3 C "leans" ["self","table"] (uI C):=by
 have G_each_once:bG P w K mg af aE 2 "each_once" ["spots"] yI:=a4E T
 refine Y.m_leans.known a4v (fun _ _ _ _ _ _ us hl=>eC (fun _ _=>rfl) us hl) (fun vs H Q E h=> ?_) (fun f ah A ag s H vs Q E hr h=> ?_)
 ·obtain⟨p,dx,nl,fa,t,zs,rfl,_⟩:=h
  rfl
 ·obtain⟨p,dx,nl,fa,t,zs,rfl,h1,h4,h6,h5,ht,q⟩:=h
  have hcl:∀x,(eJ aE P w K mg af ["self","table"] "Cells.leans" (aO qP) f ah A ag s H E).nox.env.scope.names.lookup x=some .cell->∃c,(eJ aE P w K mg af ["self","table"] "Cells.leans" (aO qP) f ah A ag s H E).nox.env.cells.lookup x=some c:=fun x hx=>Option.isSome_iff_exists.mp (W.cellsFrom_some _ _ _ (.inl hx))
  refine⟨_,(aL (bL (bQ G_each_once hr.mn aR (aA (sK (mF (sc:=aO qP) (N:=["self","table"]) (cp:=[(1,"table")]) hcl) rfl rfl (by decide) (kR (aW (pv 0) rfl)) (fun _ _ _ _ _=>mG) (fun _ _ _ _ _=>(hZ (aA (pv 1) (aA (pv 0) aG))))) aG)))),?_⟩
  refine⟨_,rfl,p,C,dx,_,_,rfl,h1,Y.cl,Y.n_names,(pS nl fa).2.1,nl,rfl,⟨_,aM.of h4⟩,fun D hD=> ?_⟩
  refine uL (K:=K) (a:=nl) (xs:=zs.map V.str) (fun i ys H2=>aH H H2/\cA H2 ys ((zs.take i).map fun z=>(t,z))) ⟨aH.new hD,.nil⟩ (by rintro i ys H2 _ ⟨s2,_⟩;exact aM.of (s2 _ _ h4)) ?_ ?_
  ·rintro i x ys H2 hx h2D ⟨s2,hd⟩
   rw[List.getElem?_map]at hx
   cases e:zs[i]? with
   |none=>rw[e]at hx;cases hx
   |some z=>
    rw[e]at hx
    cases hx
    have hi:i<zs.length:=(List.getElem?_eq_some_iff.mp e).1
    have hyl:ys.length<=6:=by
     have:=hd.length
     rw[List.length_map,List.length_take]at this
     omega
    refine⟨_,rfl,_,rfl,sl,fun tp htp=> ?_⟩
    have s3:aH H2 (upd H2 tp (.tup [.str t,.str z])):=aH.new htp
    have t3:upd H2 tp (.tup [.str t,.str z]) tp=some (.tup [.str t,.str z]):=aJ
    generalize upd H2 tp (.tup [.str t,.str z])=H3 at s3 t3|-
    have h3D:=s3 _ _ h2D
    refine⟨h3D,dJ (by omega),(s2.trans s3).on hD,?_⟩
    have kt:∀a xs,H3 a=some (.tup xs)->upd H3 D (.lst (ys++ [.ref tp])) a=some (.tup xs):=fun a xs e=>by
     rw[aI (fun y=>by rw[y,h3D]at e;cases e)]
     exact e
    have et:((zs.take (i+ 1)).map fun z=>(t,z))=((zs.take i).map fun z=>(t,z))++ [(t,z)]:=by
     rw[List.take_add_one,e,List.map_append]
     rfl
    rw[et]
    exact((hd.same s3).mapT kt).snoc ⟨tp,rfl,kt _ _ t3⟩
  ·rintro ys H2 h2D ⟨s2,hd⟩
   rw[List.length_map,List.take_length]at hd
   refine⟨D,ys,_,rfl,h2D,hd,fun z hz=> ?_,by rw[List.length_map];omega,fun H4 l' ys' s4 hl' h4' hs=> ?_⟩
   ·obtain⟨y,hy,rfl⟩:=List.mem_map.mp hz
    exact⟨ht,h5 y hy⟩
   ·exact q H4 l' ys' (s2.trans s4) (jH s2 hl') h4' hs
inductive a0u(CS CB CT:Addr)(vs:List V)(H:Hp)(Q:VK)(E:XK):Prop
 |mk (s bd ch fi dx l:Addr) (sv:V) (kb:List (aB×V)) (ys:List V) (zs:List aC):vs= [.ref s,sv,.ref l] ->H s=some (.ins CS dx (dF bd ch fi))->H bd=some (.dK kb)->H l=some (.lst ys)->cA H ys zs->(∀z∈zs,N2 z/\∃B:BM,aF kb (.inr z.1:aB)=some (.ref B.b)/\cR CB CT H B/\z.2∈B.ord)->(∀H',aH H H'->Q .non H')->a0u CS CB CT vs H Q E
theorem vQ:bD ["self","spot","leans","table","column","there"] ["self","spot","leans"] (aO a3x):={}
theorem a6g(T:bF K mg)(Y:gM K mg CS)(W:dG K mg CB):aS P w K mg af aE 3 CS "check_leans" ["self","spot","leans"] (a0u CS CB CT):=by
 have G_has:aS P w K mg af aE 2 CB "has_column" ["self","column"] (sT CB CT):=a3E T W
 refine Y.m_check_leans.known vQ (fun _ _ _ _ _ _ us hl=>iN (fun _ _ _=>rfl) us hl) (fun vs H Q E h=> ?_) (fun f ah A ag s H vs Q E hr h=> ?_)
 ·obtain⟨s',bd,ch,fi,dx,l,sv,kb,ys,zs,rfl,_⟩:=h
  rfl
 ·obtain⟨s',bd,ch,fi,dx,l,sv,kb,ys,zs,rfl,h1,h2,h3,hz,hb,q⟩:=h
  have hu:=dQ hr
  refine⟨_,(aL (kO PassesOwn.never rfl (kR (pv 2)) (a1S rfl (rB (gQ (i:=3) vQ.nd rfl (Or.inl rfl)) (rB (gQ (i:=4) vQ.nd rfl (Or.inl rfl)) a3L)))
   (aK (bU (i:=5) vQ.nd rfl (Or.inl rfl) (lZ (a0q (nM hu (pv 3) (aW (pv 0) rfl))) (mR (cB (fQ hu (aW (pv 0) rfl) (pv 3) (fun _ _=>rfl)) W.cl G_has hr aR (aA (pv 4) aG)))))
   (aL (bK (PW.pt (kU (eI (dI (pv 5) (fun _=>rfl))) (lU (cU (nR hr.units) (hZ (aA (pv 3) (aA (pv 4) aG))) (pv 1) (cO _))))) (aL cJ) bO))))),?_⟩
  refine⟨_,rfl,l,rfl,⟨_,aM.of h3⟩,?_⟩
  refine pC (K:=K) (a:=l) (xs:=ys) (fun i σ H2=>∃o3 o4 o5,σ= [some (.ref s'),some sv,some (.ref l),o3,o4,o5] /\aH H H2) ⟨_,_,_,rfl,aH.refl _⟩ (by rintro i σ H2 _ ⟨_,_,_,_,s2⟩;exact aM.of (s2 _ _ h3)) ?_ ?_
  ·rintro i x σ H2 hx ⟨o3,o4,o5,rfl,s2⟩
   obtain⟨z,e,hz2⟩:=hz.at hx
   obtain⟨a,rfl,ha⟩:=hz2.same s2
   obtain⟨nz,B,b1,b2,b3⟩:=hb z (List.mem_of_getElem? e)
   have hB2:=b2.same s2
   obtain⟨dB,hB⟩:=hB2.at_
   refine⟨a,_,rfl,cF.of ha,rfl,_,_,rfl,_,_,rfl,rfl,?_⟩
   refine⟨_,rfl,_,rfl,s',CS,dx,_,_,rfl,s2 _ _ h1,Y.cl,Y.n_boards,(lJ _ _ _).1,bd,_,rfl,bW.k (k:=Sum.inr z.1) (s2 _ _ h2),?_⟩
   rw[b1]
   refine⟨_,rfl,cE ?_⟩
   refine⟨_,rfl,s',CS,dx,_,_,rfl,s2 _ _ h1,Y.cl,Y.n_boards,(lJ _ _ _).1,_,rfl,bd,_,rfl,b1▸bW.k (k:=Sum.inr z.1) (s2 _ _ h2),B.b,dB,_,rfl,hB,oG,_,rfl,B,z.2,rfl,hB2,nz.2,fun H3 s3=> ?_⟩
   rw[decide_eq_true b3]
   exact⟨_,rfl,_,rfl,bH ⟨_,_,_,rfl,s2.trans s3⟩⟩
  ·rintro σ H2 ⟨o3,o4,o5,rfl,s2⟩
   exact q H2 s2
theorem yY{κ:Type} [DecidableEq κ]:∀{kvs:List (κ×V)} {kv:κ×V},(kvs.map (·.1)).Nodup->kv∈kvs->aF kvs kv.1=some kv.2
 | [],_,_,h=>by cases h
 |x::xs,kv,nd,h=>by
  rw[List.map_cons,List.nodup_cons]at nd
  unfold aF
  rcases List.mem_cons.mp h with rfl|h
  ·simp[List.find?]
  ·have ne:¬x.1=kv.1:=fun y=>nd.1 (y▸List.mem_map.mpr ⟨kv,h,rfl⟩)
   have ih:=yY nd.2 h
   unfold aF at ih
   rw[List.find?_cons_of_neg (by simpa using ne)]
   exact ih
def iP(H H':Hp):Prop:=∀b o,((∃C dx fs,o= .ins C dx fs)\/ ∃xs,o= .lst xs)->H b=some o->H' b=some o
theorem iP.of(s:aH H H'):iP H H':=fun b o _ e=>s _ _ e
theorem iP.trans(a:iP H H1)(b:iP H1 H2):iP H H2:=fun x o h e=>b _ _ h (a _ _ h e)
def pW(spl:Sp)(gr:Addr)(nm:Str)(ys:List aC)(H:Hp):Prop:=∀(Hb:Hp) (Q':VK),iP H Hb->(∀H' l vs,aH Hb H'->Hb l=none->H' l=some (.lst vs)->cA H' vs ys->Q' (.ref l) H')->spl [.ref gr,.str nm] Hb Q' E0
theorem a4m{nl:Addr}{nm:Str}{zs:List Str}(h1:H gr=some (.ins C dx (iE nl fa)))(h2:H nl=some (.lst (zs.map V.str)))(z6:zs.length<=6)(hz:∀z∈zs,Nl z)(ht:Nl nm):pW (uI C) gr nm (fI (zs.map fun z=>(nm,z))) H:=
 fun Hb Q' k q=>⟨gr,dx,nl,fa,nm,zs,rfl,k _ _ (.inl ⟨_,_,_,rfl⟩) h1,k _ _ (.inr ⟨_,rfl⟩) h2,z6,hz,ht,q⟩
inductive oO(CB CT CG bd:Addr)(spl:Sp)(gl:List aC)(H:Hp)(kv:aB×V):Prop
 |mk (nm:Str) (B:BM):kv=((.inr nm:aB),V.ref B.b)->Nl nm->cR CB CT H B->bd≠B.ru->(B.rus.map (·.1)).Nodup->B.rus.length<=8->(∀rv∈B.rus,∃(c:Str) (gr dx:Addr) (fs:List (Str×V)) (ys:List aC),rv=((.inr c:aB),V.ref gr)/\Nl c/\H gr=some (.ins CG dx fs)/\fs.lookup ("leans":Str)=none/\pW spl gr nm ys H/\(∀y∈ys,N2 y/\y∈gl)/\ys.length<=100)->oO CB CT CG bd spl gl H kv
inductive a0E(CS CB CT CG:Addr)(spl:Sp)(vs:List V)(H:Hp)(Q:VK)(E:XK):Prop
 |mk (s bd ch fi dx l:Addr) (sv:V) (kb:List (aB×V)) (ys:List V) (sp:aC) (zs gl:List aC):vs= [.ref s,sv,.ref l] ->H s=some (.ins CS dx (dF bd ch fi))->H bd=some (.dK kb)->(kb.map (·.1)).Nodup->kb.length<=4->H l=some (.lst ys)->cA H ys zs->(∀z∈zs,N2 z/\z∈gl)->zs.length<=100->fO H sv sp->N2 sp->sp∉gl->gl.length<=100->(∀kv∈kb,oO CB CT CG bd spl gl H kv)->(∀H',aH H H'->Q .non H')->a0E CS CB CT CG spl vs H Q E
abbrev Ncr:List Str:=["self","spot","leans","leanings","table","rules","column","found"]
theorem oH:bD Ncr ["self","spot","leans"] (aO a2V):={}
def iS(gl:List aC)(n:Nat)(gd:Addr)(H:Hp):Prop:=∃kvs adj,pN H gd kvs adj/\(∀z,∀y∈adj z,y∈gl)/\kvs.length<=n
theorem iS.put{gl:List aC}{n:Nat}{gd:Addr}{z:aC}{ys:List aC}{kvs:List (List aB×V)}(g:pN H gd kvs adj)(ha:∀z,∀y∈adj z,y∈gl)(hn:kvs.length<=n)(u:bC gd H H')(e:H' gd=some (.dT (aU kvs (kS z) (.ref l))))(hl:H l=some (.lst vs))(hs:cA H vs ys)(hy:∀y∈ys,N2 y/\y∈gl)(h100:ys.length<=100):iS gl (n+ 1) gd H':=by
 have k:∀{x:Addr} {o:HO},H x=some o->(∀y,o≠ .dT y)->H' x=some o:=fun e2 n=>u _ _ (fun y=>by rw[y,g.d]at e2;exact n _ (Option.some.inj e2).symm) e2
 have kt:∀a xs,H a=some (.tup xs)->H' a=some (.tup xs):=fun a xs e2=>k e2 nk
 refine⟨aU kvs (kS z) (.ref l),fun x=>if x=z then ys else adj x,⟨e,fun x=> ?_,fun x y hm=> ?_,fun x=> ?_⟩,fun x y hm=> ?_,Nat.le_trans (a3a _ _ _) (by omega)⟩
 ·rw[fD]
  by_cases h:x=z
  ·rw[if_pos (by rw[h])]
   exact .inr ⟨l,vs,rfl,k hl nk,by show cA H' vs (if x=z then ys else adj x);rw[if_pos h];exact hs.mapT kt⟩
  ·rw[if_neg (fun y=>h (a26 y))]
   rcases g.a x with⟨a1,a2⟩|⟨l',vs',a1,a2,a3⟩
   ·exact .inl ⟨a1,by show(if x=z then ys else adj x)= [];rw[if_neg h];exact a2⟩
   ·exact .inr ⟨l',vs',a1,k a2 nk,by show cA H' vs' (if x=z then ys else adj x);rw[if_neg h];exact a3.mapT kt⟩
 ·have hm:y∈(if x=z then ys else adj x):=hm
  split at hm
  ·exact(hy y hm).1
  ·exact g.n x y hm
 ·show(if x=z then ys else adj x).length<=100
  split
  ·exact h100
  ·exact g.l x
 ·have hm:y∈(if x=z then ys else adj x):=hm
  split at hm
  ·exact(hy y hm).2
  ·exact ha x y hm
theorem iS.mv{gl:List aC}{n:Nat}{gd:Addr}(u:∀b o,(∀y,o≠ .dK y)->(∀q y,o≠ .frz q y)->H b=some o->H' b=some o)(h:iS gl n gd H):iS gl n gd H':=by
 obtain⟨kvs,adj,g,h1,h2⟩:=h
 exact⟨kvs,adj,⟨u _ _ nk (fun _ _ y=>by cases y) g.d,fun z=>(g.a z).imp id fun⟨l,vs,e1,e2,e3⟩=>⟨l,vs,e1,u _ _ nk (fun _ _ y=>by cases y) e2,e3.mapT fun a xs e=>u _ _ nk (fun _ _ y=>by cases y) e⟩,g.n,g.l⟩,h1,h2⟩
theorem a6E(T:bF K mg)(Y:gM K mg CS)(W:dG K mg CB)(clG:cI K CG)(G_le:aS P w K mg af aE 3 CG "leans" ["self","table"] spl):aS P w K mg af aE 4 CS "check_ring" ["self","spot","leans"] (a0E CS CB CT CG spl):=by
 have G_ring:bG P w K mg af aE 2 "ring_from" ["leanings","spot"] (xF K):=a8U T
 refine Y.m_check_ring.known oH (fun _ _ _ _ _ _ us hl=>iN (fun _ _ _=>rfl) us hl) (fun vs H Q E h=> ?_) (fun f ah A ag s H vs Q E hr h=> ?_)
 ·obtain⟨s',bd,ch,fi,dx,l,sv,kb,ys,sp,zs,gl,rfl,_⟩:=h
  rfl
 ·obtain⟨s',bd,ch,fi,dx,l,sv,kb,ys,sp,zs,gl,rfl,h1,h2,nd,k4,h3,hz,hN,z100,hsv,nsp,hns,g100,hb,q⟩:=h
  have hu:=dQ hr
  refine⟨_,(aK (bU (i:=3) oH.nd rfl (Or.inl rfl) qJ)
   (aK (a1M PassesOwn.never rfl (aW (pv 0) rfl) (gQ (i:=4) oH.nd rfl (Or.inl rfl)) (aK (bU (i:=5) oH.nd rfl (Or.inl rfl) (aW (fQ hu (aW (pv 0) rfl) (pv 4) (fun _ _=>rfl)) rfl))
   (aL (a1M PassesOwn.never rfl (pv 5) (gQ (i:=6) oH.nd rfl (Or.inl rfl)) (aL (jI hu (pv 3) (hZ (aA (pv 4) (aA (pv 6) aG))) (cB (fQ hu (pv 5) (pv 6) (fun _ _=>rfl)) clG G_le hr aR (aA (pv 4) aG)) rfl))))))
   (aK (jI hu (pv 3) (pv 1) (pv 2) rfl)
   (aK (bU (i:=7) oH.nd rfl (Or.inl rfl) (bQ G_ring hr.mn aR (aA (pv 3) (aA (pv 1) aG))))
   (aL (bK (cU a5N (pv 7) gE (cO _)) (aL cJ) bO)))))),?_⟩
  intro gd hgd
  have s1:=aH.new (o:=.dT []) hgd
  have g1:upd H gd (.dT []) gd=some (.dT []):=aJ
  generalize upd H gd (.dT [])=H1 at s1 g1|-
  have h2':=s1 _ _ h2
  refine⟨_,rfl,s',CS,dx,_,_,rfl,s1 _ _ h1,Y.cl,Y.n_boards,(lJ _ _ _).1,bd,_,rfl,h2',fun nf ob=> ?_⟩
  obtain⟨Hf,eHf⟩:∃Hf,Hf=upd H1 bd (.frz ob (.dK kb)):=⟨_,rfl⟩
  rw[<- eHf]
  have hf:Hf bd=some (.frz ob (.dK kb)):=by rw[eHf,aJ]
  have ngb:gd≠bd:=fun y=>by rw[y,h2]at hgd;cases hgd
  have kf:∀{x:Addr} {o:HO},x≠bd->H1 x=some o->Hf x=some o:=fun n e=>by rw[eHf,aI n];exact e
  have gf:Hf gd=some (.dT []):=kf ngb g1
  have ins_f:iP H Hf:=fun b o h e=>kf (fun y=>by rw[y,h2]at e;rcases h with⟨_,_,_,rfl⟩|⟨_,rfl⟩<;>cases e) (s1 _ _ e)
  have gr0:iS gl 0 gd Hf:=⟨[],fun _=> [],⟨gf,fun z=> .inl ⟨rfl,rfl⟩,fun z y hy=>by{cases hy},fun z=>Nat.zero_le _⟩,fun z y hy=>by{cases hy},Nat.le_refl _⟩
  refine a2o (a:=bd) (ob:=ob) (kvs:=kb) (fun i σ H2=>(∃o4 o5 o6,σ= [some (.ref s'),some sv,some (.ref l),some (.ref gd),o4,o5,o6,none])/\bC gd Hf H2/\iS gl (8* i) gd H2) ⟨⟨_,_,_,rfl⟩,bC.of (aH.refl _),gr0⟩ (fun i σ H2 _ ⟨_,b2,_⟩=>b2 _ _ ngb.symm hf) ?_ ?_
  ·rintro j pv' σ H2 hp ⟨⟨o4,o5,o6,rfl⟩,b2,gS⟩
   have hpm:=List.mem_of_getElem? hp
   have hj:j<kb.length:=(List.getElem?_eq_some_iff.mp hp).1
   obtain⟨nm,B,rfl,nnm,b1,nbr,ndr,r8,hrv⟩:=hb pv' hpm
   have hv:aF kb (.inr nm:aB)=some (.ref B.b):=yY nd hpm
   obtain⟨dB,e1⟩:=(b1.same s1).at_
   have nb:B.b≠bd:=fun y=>by rw[y,h2']at e1;cases e1
   have ns:s'≠bd:=fun y=>by rw[y,h2]at h1;cases h1
   have ng:∀{x:Addr} {o:HO},Hf x=some o->(∀y,o≠ .dT y)->x≠gd:=fun e n y=>by rw[y,gf]at e;exact n _ (Option.some.inj e).symm
   have up2:∀{x:Addr} {o:HO},Hf x=some o->(∀y,o≠ .dT y)->H2 x=some o:=fun e n=>b2 _ _ (ng e n) e
   have eb:=up2 (kf nb e1) nk
   have es:=up2 (kf ns (s1 _ _ h1)) nk
   have er:=up2 (kf nbr.symm (b1.same s1).rul) nk
   have bd2:=up2 hf nk
   refine⟨_,rfl,s',CS,dx,_,_,rfl,es,Y.cl,Y.n_boards,(lJ _ _ _).1,_,rfl,bd,_,rfl,.inl ⟨kb,.inr nm,.inr ⟨ob,bd2⟩,rfl,hv.symm⟩,B.b,CB,dB,_,_,rfl,eb,W.cl,W.n_rules,(dL _ _ _ _).2.1,?_⟩
   refine⟨_,rfl,B.ru,_,rfl,er,fun nf2 ob2=> ?_⟩
   obtain⟨Hg,eHg⟩:∃Hg,Hg=upd H2 B.ru (.frz ob2 (.dK B.rus)):=⟨_,rfl⟩
   rw[<- eHg]
   have hg:Hg B.ru=some (.frz ob2 (.dK B.rus)):=by rw[eHg,aJ]
   have kg:∀{x:Addr} {o:HO},x≠B.ru->H2 x=some o->Hg x=some o:=fun n e=>by rw[eHg,aI n];exact e
   have gSg:iS gl (8* j) gd Hg:=gS.mv fun b o n1 n2 e=>kg (fun y=>by rw[y,er]at e;exact n1 _ (Option.some.inj e).symm) e
   have gg:∃kvs,Hg gd=some (.dT kvs):=let ⟨kvs,_,g,_⟩:=gSg;⟨kvs,g.d⟩
   obtain⟨kv0,gg0⟩:=gg
   have ngr:B.ru≠gd:=fun y=>by rw[y,gg0]at hg;cases hg
   have ins_g:iP H Hg:=fun b o h e=>kg (fun y=>by rw[y,b1.rul]at e;rcases h with⟨_,_,_,rfl⟩|⟨_,rfl⟩<;>cases e) (up2 (ins_f b o h e) (fun y ey=>by rcases h with⟨_,_,_,rfl⟩|⟨_,rfl⟩<;>cases ey))
   refine a2o (a:=B.ru) (ob:=ob2) (kvs:=B.rus) (fun i σ H3=>(∃o6,σ= [some (.ref s'),some sv,some (.ref l),some (.ref gd),some (.str nm),some (.ref B.ru),o6,none])/\bC gd Hg H3/\iS gl (8* j+ i) gd H3) ⟨⟨_,rfl⟩,bC.of (aH.refl _),gSg⟩ (fun i σ H3 _ ⟨_,b3,_⟩=>b3 _ _ ngr hg) ?_ ?_
   ·rintro i rv σ H3 hr3 ⟨⟨o6,rfl⟩,b3,gS3⟩
    have hi:i<B.rus.length:=(List.getElem?_eq_some_iff.mp hr3).1
    have hrm:=List.mem_of_getElem? hr3
    obtain⟨c,gr,dg,fs,ys2,rfl,nc,hgr,hnl,le,hy2,y100⟩:=hrv rv hrm
    have hvr:aF B.rus (.inr c:aB)=some (.ref gr):=yY ndr hrm
    have ng3:∀{x:Addr} {o:HO},Hg x=some o->(∀y,o≠ .dT y)->H3 x=some o:=fun e n=>b3 _ _ (fun y=>by rw[y,gg0]at e;exact n _ (Option.some.inj e).symm) e
    have ins_3:iP H H3:=fun b o h e=>ng3 (ins_g b o h e) (fun y ey=>by rcases h with⟨_,_,_,rfl⟩|⟨_,rfl⟩<;>cases ey)
    refine⟨_,rfl,_,rfl,B.ru,_,rfl,.inl ⟨B.rus,.inr c,.inr ⟨ob2,ng3 hg nk⟩,rfl,hvr.symm⟩,gr,dg,fs,rfl,ins_3 _ _ (.inl ⟨_,_,_,rfl⟩) hgr,hnl,_,rfl,le H3 _ ins_3 fun H4 l4 vs4 s4 hl4 h4 hs4=> ?_⟩
    obtain⟨kvs,adj,G3,ha3,hn3⟩:=gS3
    refine⟨_,rfl,_,rfl,_,rfl,sl,fun tp htp=> ?_⟩
    have s5:=aH.new (o:=.tup [V.str nm,kV ((Sum.inr c:aB),V.ref gr).fst]) htp
    have t5:upd H4 tp (.tup [V.str nm,kV ((Sum.inr c:aB),V.ref gr).fst]) tp=some (.tup [.str nm,.str c]):=aJ
    generalize upd H4 tp (.tup [V.str nm,kV ((Sum.inr c:aB),V.ref gr).fst])=H5 at s5 t5|-
    have s35:=s4.trans s5
    have G5:=G3.same s35
    refine⟨gd,_,rfl,.inr ⟨kvs,kS (nm,c),tp,G5.d,rfl,t5,dJ (by omega),rfl⟩,?_⟩
    have u6:bC gd H5 (upd H5 gd (.dT (aU kvs (kS (nm,c)) (.ref l4)))):=bC.upd
    have e6:upd H5 gd (.dT (aU kvs (kS (nm,c)) (.ref l4))) gd=some (.dT (aU kvs (kS (nm,c)) (.ref l4))):=aJ
    generalize upd H5 gd (.dT (aU kvs (kS (nm,c)) (.ref l4)))=H6 at u6 e6|-
    exact⟨⟨_,rfl⟩,fun b o n e=>u6 _ _ n (s35 _ _ (b3 _ _ n e)),iS.put G5 ha3 hn3 u6 e6 (s5 _ _ h4) (hs4.same s5) hy2 y100⟩
   ·rintro σ H3 ⟨⟨o6,rfl⟩,b3,gS3⟩
    refine⟨B.ru,ob2,B.rus,nf2,b3 _ _ ngr hg,⟨_,_,_,rfl⟩,fun b o n e=> ?_,?_⟩
    ·by_cases y:b=B.ru
     ·rw[y,aJ]
      rw[y]at e
      rw[b2 _ _ ngr e]at er
      exact er.symm
     ·rw[aI y]
      exact b3 _ _ n (kg y (b2 _ _ n e))
    ·have m:iS gl (8* j+ B.rus.length) gd (upd H3 B.ru (.dK B.rus)):=gS3.mv fun b o n1 n2 e=>by
      rw[aI (fun y=>by rw[y,b3 _ _ ngr hg]at e;exact n2 _ _ (Option.some.inj e).symm)]
      exact e
     obtain⟨kvs,adj,x1,x2,x3⟩:=m
     exact⟨kvs,adj,x1,x2,by omega⟩
  ·rintro σ H2 ⟨⟨o4,o5,o6,rfl⟩,b2,gS⟩
   have bd2:=b2 _ _ ngb.symm hf
   refine⟨bd,ob,kb,nf,bd2,?_⟩
   have b3:bC gd H1 (upd H2 bd (.dK kb)):=fun b o n e=>by
    by_cases y:b=bd
    ·rw[y,aJ]
     rw[y,h2']at e
     exact e
    ·rw[aI y]
     exact b2 _ _ n (kf y e)
   have gS3:iS gl (8* kb.length) gd (upd H2 bd (.dK kb)):=gS.mv fun b o n1 n2 e=>by
    rw[aI (fun y=>by rw[y,bd2]at e;exact n2 _ _ (Option.some.inj e).symm)]
    exact e
   generalize upd H2 bd (.dK kb)=H3 at b3 gS3|-
   have s13:aH H H3:=fun b o e=>b3 _ _ (bE e hgd) (s1 _ _ e)
   obtain⟨sa,rfl,hsa⟩:=hsv.same s13
   obtain⟨kvs,adj,G3,ha3,hn3⟩:=gS3
   refine⟨_,rfl,_,rfl,_,rfl,gd,_,rfl,.inr ⟨kvs,kS sp,sa,G3.d,rfl,hsa,dJ (by omega),rfl⟩,?_⟩
   have s4:aH H (upd H3 gd (.dT (aU kvs (kS sp) (.ref l)))):=s13.on hgd
   have u4:bC gd H3 (upd H3 gd (.dT (aU kvs (kS sp) (.ref l)))):=bC.upd
   have g4:upd H3 gd (.dT (aU kvs (kS sp) (.ref l))) gd=some (.dT (aU kvs (kS sp) (.ref l))):=aJ
   generalize upd H3 gd (.dT (aU kvs (kS sp) (.ref l)))=H4 at s4 u4 g4|-
   obtain⟨kvs',adj',G4,ha4,_⟩:=iS.put G3 ha3 hn3 u4 g4 (s13 _ _ h3) (hz.same s13) hN z100
   refine⟨_,rfl,_,rfl,gd,_,kvs',adj',sp,gl,rfl,G4,hsv.same s4,nsp,ha4,g100,fun H5 s5=>⟨fun _=> ?_,fun l' vs' ys' _ _ _ R _=> ?_⟩⟩
   ·exact⟨_,rfl,rfl,_,rfl,bH (q H5 (s4.trans s5))⟩
   ·exfalso
    have:=R.back
    obtain⟨m,hm⟩:∃m,ys'.length=m+ 1:=⟨ys'.length- 1,by have:=R.pos;omega⟩
    rw[hm]at this
    obtain⟨x,_,hx⟩:=this.inv
    exact hns (ha4 x sp hx)
theorem pW.mv{nm:Str}{ys:List aC}(k:iP H H')(h:pW spl gr nm ys H):pW spl gr nm ys H':=fun Hb Q' kb q=>h Hb Q' (k.trans kb) q
theorem oO.same{gl:List aC}{kv:aB×V}(s:aH H H')(h:oO CB CT CG bd spl gl H kv):oO CB CT CG bd spl gl H' kv:=by
 obtain⟨nm,B,h1,h2,h3,h4,h5,h6,h7⟩:=h
 refine⟨nm,B,h1,h2,h3.same s,h4,h5,h6,fun rv hrv=> ?_⟩
 obtain⟨c,gr,dx,fs,ys,e1,e2,e3,e4,e5,e6,e7⟩:=h7 rv hrv
 exact⟨c,gr,dx,fs,ys,e1,e2,s _ _ e3,e4,e5.mv (iP.of s),e6,e7⟩
inductive a0k(K:Fg)(CS CF CB CT CG:Addr)(spl:Sp)(vs:List V)(H:Hp)(Q:VK)(E:XK):Prop
 |mk (s bd ch gr dg:Addr) (cs:List V) (kb:List (aB×V)) (nm t:Str) (fs:List (Str×V)) (B:BM) (zs gl:List aC):vs= [.ref s,.str nm,.str t,.ref gr] ->vE CS s bd ch cs kb H->cs.length<900->Nl nm->aF kb (.inr nm:aB)=some (.ref B.b)->cR CB CT H B->B.sep->qF bd ch B->pH B t->Nl t->H gr=some (.ins CG dg fs)->fs.lookup ("leans":Str)=none->pW spl gr nm zs H->(∀z∈zs,N2 z/\z∈gl/\∃B':BM,aF kb (.inr z.1:aB)=some (.ref B'.b)/\cR CB CT H B'/\z.2∈B'.ord)->zs.length<=100->(nm,t)∉gl->gl.length<=100->(kb.map (·.1)).Nodup->kb.length<=4->(∀kv∈kb,oO CB CT CG bd spl gl H kv)->B.rus.length<100->B.mes.length<100->B.ord.length<8->(∀H' fi fd lk c m,oP CS CF s bd ch fi fd lk (cs++ [.ref c]) kb H H'->H m=none->cR CB CT H' {B with rus:=aU B.rus (.inr t:aB) (.ref gr),mes:=aU B.mes (.inr t:aB) (.ref m),ord:=B.ord++ [t]} ->H' m=some (.dK [])->(∀x o,x≠s->x≠ch->x≠B.od->x≠B.ru->x≠B.me->H x=some o->H' x=some o)->Q .non H')->a0k K CS CF CB CT CG spl vs H Q E
theorem wM:bD ["self","table","column","rule","board","leans"] ["self","table","column","rule"] (aO a3i):={}
structure RIs(K:Fg)(C:Addr):Prop where
 cl:cI K C
 ty:∀{H:Hp} {a dx:Addr} {fs:List (Str×V)},H a=some (.ins C dx fs)->gC K H (.ref a) (.ref C)
 isl:W.kitOne K (.ref C) (.type "list")=some false
theorem a4L(T:bF K mg)(Y:gM K mg CS)(Z:fC K mg CF)(W:dG K mg CB)(U:dZ K mg CT)(C:rE K mg CC)(Gr:RIs K CG)(G_le:aS P w K mg af aE 3 CG "leans" ["self","table"] spl):aS P w K mg af aE 9 CS "rule" ["self","table","column","rule"] (a0k K CS CF CB CT CG spl):=by
 have G_for:aS P w K mg af aE 3 CS "board_for" ["self","table","column"] (tL CS CB CT):=a3z T Y W
 have G_cl:aS P w K mg af aE 3 CS "check_leans" ["self","spot","leans"] (a0u CS CB CT):=a6g T Y W
 have G_cr:aS P w K mg af aE 4 CS "check_ring" ["self","spot","leans"] (a0E CS CB CT CG spl):=a6E T Y W Gr.cl G_le
 have GI:eU P w K mg af aE 1 CC ["self","board","column","content"] (uD CC):=a2K T C
 have G_make:aS P w K mg af aE 8 CS "make" ["self","change"] (pJ CS CF CC (qL CC CB CT (uC K CB CT))):=uV T Y Z C.cl (a1V a8Q) (a0W T C W (a8Z T W))
 refine Y.m_rule.known wM (fun _ _ _ _ _ _ us hl=>mS (fun _ _ _ _=>rfl) us hl) (fun vs H Q E h=> ?_) (fun f ah A ag s H vs Q E hr h=> ?_)
 ·obtain⟨s',bd,ch,gr,dg,cs,kb,nm,t,fs,B,zs,gl,rfl,_⟩:=h
  rfl
 ·obtain⟨s',bd,ch,gr,dg,cs,kb,nm,t,fs,B,zs,gl,rfl,hS,cl,hn,hv,hB,sep,ss,new,ht,hgr,hnl,le,hzs,z100,ngl,g100,nd,k4,hbd,r100,m100,o8,q⟩:=h
  refine⟨_,(aK (bU (i:=4) wM.nd rfl (Or.inl rfl) (cB (pv 0) Y.cl G_for hr.mn aR (aA (pv 1) (aA (pv 2) aG))))
   (aK (bU (i:=5) wM.nd rfl (Or.inl rfl) (cB (pv 3) Gr.cl G_le hr.mn aR (aA (pv 1) aG)))
   (aK (cG (cB (pv 0) Y.cl G_cl hr.mn aR (aA (hZ (aA (pv 1) (aA (pv 2) aG))) (aA (pv 5) aG))))
   (aK (cG (cB (pv 0) Y.cl G_cr hr.mn aR (aA (hZ (aA (pv 1) (aA (pv 2) aG))) (aA (pv 5) aG))))
   (aL (cG (cB (pv 0) Y.cl G_make hr aR (aA (lL GI hr.mn C.c aR (aA (pv 4) (aA (pv 2) (aA (pv 3) aG)))) aG)))))))),?_⟩
  obtain⟨⟨dx,fi0,h1⟩,h2,h3⟩:=hS
  refine⟨_,rfl,s',dx,_,rfl,h1,fE,_,rfl,_,rfl,s',bd,ch,fi0,dx,kb,nm,t,B,rfl,h1,h3,hn,hv,hB,ht,o8,fun H1 s1=> ?_⟩
  refine⟨_,rfl,gr,dg,_,rfl,s1 _ _ hgr,hnl,_,rfl,le H1 _ (iP.of s1) fun H2 l ys s2 hl h2l hsp=> ?_⟩
  have s12:=s1.trans s2
  refine⟨_,rfl,s',dx,_,rfl,s12 _ _ h1,fE,_,rfl,_,rfl,sl,fun t1 ht1=> ?_⟩
  have s3':=aH.new (o:=.tup [.str nm,.str t]) ht1
  have tt1:upd H2 t1 (.tup [.str nm,.str t]) t1=some (.tup [.str nm,.str t]):=aJ
  generalize upd H2 t1 (.tup [.str nm,.str t])=H3 at s3' tt1|-
  have s3:=s12.trans s3'
  refine⟨_,rfl,s',bd,ch,fi0,dx,l,.ref t1,kb,ys,zs,rfl,s3 _ _ h1,s3 _ _ h3,s3' _ _ h2l,hsp.same s3',fun z hz=> ?_,fun H4 s4=> ?_⟩
  ·obtain⟨n2,_,B',b1,b2,b3⟩:=hzs z hz
   exact⟨n2,B',b1,b2.same s3,b3⟩
  have s4':=s3.trans s4
  refine⟨_,rfl,s',dx,_,rfl,s4' _ _ h1,fE,_,rfl,_,rfl,sl,fun t2 ht2=> ?_⟩
  have s5':=aH.new (o:=.tup [.str nm,.str t]) ht2
  have tt2:upd H4 t2 (.tup [.str nm,.str t]) t2=some (.tup [.str nm,.str t]):=aJ
  generalize upd H4 t2 (.tup [.str nm,.str t])=H5 at s5' tt2|-
  have s5:=s4'.trans s5'
  have s25:=(s3'.trans s4).trans s5'
  refine⟨_,rfl,s',bd,ch,fi0,dx,l,.ref t2,kb,ys,(nm,t),zs,gl,rfl,s5 _ _ h1,s5 _ _ h3,nd,k4,s25 _ _ h2l,hsp.same s25,fun z hz=>⟨(hzs z hz).1,(hzs z hz).2.1⟩,z100,⟨t2,rfl,tt2⟩,⟨hn,ht⟩,ngl,g100,fun kv hkv=>(hbd kv hkv).same s5,fun H6 s6'=> ?_⟩
  have s6:=s5.trans s6'
  refine⟨_,rfl,s',dx,_,rfl,s6 _ _ h1,fE,_,rfl,_,rfl,_,rfl,?_⟩
  intro c dc hc hdc ne
  refine⟨c,dc,B.b,gr,t,rfl,aJ,fun H7 b7 c7=>⟨rfl,?_⟩⟩
  have s7:aH H H7:=fun b o z=>b7 b o (bE (s6 _ _ z) hc) (by rw[aI (bE (s6 _ _ z) hc),aI (bE (s6 _ _ z) hdc)];exact s6 _ _ z)
  have hB7:=hB.same s7
  have gr7:=s7 _ _ hgr
  refine⟨s',c,bd,ch,fi0,dx,dc,cs,_,rfl,c7,(wJ _ _ _).2.2.2.1,c,dc,gr,B,t,rfl,c7,hB7,new,B,t,gr,CG,dg,_,rfl,hB7,sep,new,gr7,Gr.ty gr7,Gr.isl,r100,m100,by omega,fun H8 m hm B8 m8 u8=> ?_⟩
  have ho:=hB.ord
  have hru:=hB.rul
  have hme:=hB.mem
  have k8:∀{x:Addr} {o:HO},H x=some o->x≠B.od->x≠B.ru->x≠B.me->H8 x=some o:=fun e n1 n2 n3=>u8 _ _ n1 n2 n3 (s7 _ _ e)
  have ns4:=k8 h1 (fun y=>by rw[y,ho]at h1;cases h1) (fun y=>by rw[y,hru]at h1;cases h1) (fun y=>by rw[y,hme]at h1;cases h1)
  have ch4:=k8 h2 ss.o (fun y=>by rw[y,hru]at h2;cases h2) (fun y=>by rw[y,hme]at h2;cases h2)
  refine⟨ns4,ch4,cl,fun H9 fi fd lk df f1 f2 f3 nfl g1 g2 g3 g4 g5 u9=> ?_⟩
  have nn:∀{x:Addr},H8 x=none->H x=none:=fun{x} e=>by
   cases e2:H x with
   |none=>rfl
   |some o=>
    by_cases y:x=B.od
    ·rw[y,B8.ord]at e;cases e
    ·by_cases y2:x=B.ru
     ·rw[y2,B8.rul]at e;cases e
     ·by_cases y3:x=B.me
      ·rw[y3,B8.mem]at e;cases e
      ·rw[k8 e2 y y2 y3]at e;cases e
  have hm0:H m=none:=jH s7 hm
  have nm':m≠s'/\m≠ch:=⟨fun y=>by{rw[y,h1]at hm0;cases hm0},fun y=>by{rw[y,h2]at hm0;cases hm0}⟩
  have nb:bd≠s'/\bd≠ch:=⟨fun y=>by{rw[y,h1]at h3;cases h3},fun y=>by{rw[y,h2]at h3;cases h3}⟩
  exact q H9 fi fd lk c m ⟨⟨dx,g1⟩,g2,u9 _ _ nb.1 nb.2 (k8 h3 (fun y=>by rw[y,ho]at h3;cases h3) ss.u ss.m),⟨df,g3⟩,g4,g5,nfl,nn f1,nn f2,nn f3⟩ hm0 (B8.off ⟨dx,bd,ch,fi0,ns4⟩ ch4 ss.r ss.o u9) (u9 _ _ nm'.1 nm'.2 m8) (fun x o n1 n2 n3 n4 n5 e=>u9 _ _ n1 n2 (k8 e n3 n4 n5))
theorem a36(Y:nA K mg C):RIs K C:=⟨Y.cl,fun e=> .ins e Y.cl Y.hc Y.own.2.1 Y.own.2.2 Y.own.1,Y.isl⟩
theorem a39(Y:nA K mg C):qO K C:=⟨Y.cl,Y.m_reckon,Y.n_function⟩
inductive rD(P:Program)(w:World)(K:Fg)(mg:Str->Option Value)(af:Heap)(C:Addr)(vs:List V)(H:Hp)(Q:VK)(E:XK):Prop
 |mk (gr look many nl fa dx:Addr) (nm c:Str) (p:Nat) (zs:List Str) (Vc:aQ->Prop) (J:Option GT->Hp->Prop) (W M:List Addr):vs= [.ref gr,.ref look,.ref many,.str nm,.str c,.int (p:Int)] ->H gr=some (.ins C dx (iE nl fa))->H nl=some (.lst (zs.map V.str))->zs.length<=6->eO P w K mg af 6 look (pK K Vc J M)->(J (some (iK .done (zs.map fun z=>(nm,z,p)) [])) H)->gG J W M->(∀z∈zs,Vc (nm,z,p))->(∀H' fv tf,eV M H H'->oX K H H' fv tf->(J (some (.done tf)) H'\/ J none H')->Q fv H')->rD P w K mg af C vs H Q E
abbrev rV:List Str:=["self","look","many","table","column","place"]
theorem a4M:bD rV rV (aO sF):={}
theorem a2e(T:bF K mg)(Y:nA K mg C):aS P w K mg af aE 8 C "gather" ["self","look","many","table","column","place"] (rD P w K mg af C):=by
 have G_turn:bG P w K mg af aE 7 "look_in_turn" ["look","cells"] (xZ P w K mg af 6):=a4o T (by decide)
 refine Y.m_gather.known a4M (fun _ _ _ _ _ _ us hl=>bi6 (fun _ _ _ _ _ _=>rfl) us hl) (fun vs H Q E h=> ?_) (fun f ah A ag s H vs Q E hr h=> ?_)
 ·obtain⟨gr,look,many,nl,fa,dx,nm,c,p,zs,Vc,J,W,M,rfl,_⟩:=h
  rfl
 ·obtain⟨gr,look,many,nl,fa,dx,nm,c,p,zs,Vc,J,W,M,rfl,h1,h4,z6,F1,hJ,S,hV,q⟩:=h
  have hcl:∀x,(eJ aE P w K mg af rV "Cells.gather" (aO sF) f ah A ag s H E).nox.env.scope.names.lookup x=some .cell->∃c,(eJ aE P w K mg af rV "Cells.gather" (aO sF) f ah A ag s H E).nox.env.cells.lookup x=some c:=fun x hx=>Option.isSome_iff_exists.mp (PySem.W.cellsFrom_some _ _ _ (.inl hx))
  refine⟨_,(aL (bL (bQ G_turn hr aR (aA (pv 1) (aA (sK (mF (sc:=aO sF) (N:=rV) (cp:=[(3,"table"),(5,"place")]) hcl) rfl rfl (by decide) (kR (aW (pv 0) rfl)) (fun _ _ _ _ _=>mG) (fun _ _ _ _ _=>(hZ (aA (pv 1) (aA (pv 0) (aA (pv 2) aG)))))) aG))))),?_⟩
  refine⟨_,rfl,_,rfl,gr,C,dx,_,_,rfl,h1,Y.cl,Y.n_names,(pS nl fa).2.1,nl,rfl,⟨_,aM.of h4⟩,fun D hD=> ?_⟩
  refine uL (K:=K) (a:=nl) (xs:=zs.map V.str) (fun i ys H2=>aH H H2/\Paired (oB H2) ys ((zs.map fun z=>(nm,z,p)).take i)) ⟨aH.new hD,.nil⟩ (by rintro i ys H2 _ ⟨s2,_⟩;exact aM.of (s2 _ _ h4)) ?_ ?_
  ·rintro i xv ys H2 hx h2D ⟨s2,hd⟩
   rw[List.getElem?_map]at hx
   cases e:zs[i]? with
   |none=>rw[e]at hx;cases hx
   |some z=>
    rw[e]at hx
    cases hx
    have hi:i<zs.length:=(List.getElem?_eq_some_iff.mp e).1
    have hyl:ys.length<=6:=by
     have:=Paired.length hd
     rw[List.length_take,List.length_map]at this
     omega
    refine⟨_,rfl,_,rfl,_,rfl,sl,fun tp htp=> ?_⟩
    have s3:aH H2 (upd H2 tp (.tup [.str nm,.str z,.int (p:Int)])):=aH.new htp
    have t3:upd H2 tp (.tup [.str nm,.str z,.int (p:Int)]) tp=some (.tup [.str nm,.str z,.int (p:Int)]):=aJ
    generalize upd H2 tp (.tup [.str nm,.str z,.int (p:Int)])=H3 at s3 t3|-
    have h3D:=s3 _ _ h2D
    refine⟨h3D,dJ (by omega),(s2.trans s3).on hD,?_⟩
    have kt:bS H3 (upd H3 D (.lst (ys++ [.ref tp]))):=fun a xs e=>by
     rw[aI (fun y=>by rw[y,h3D]at e;cases e)]
     exact e
    have kt2:bS H2 (upd H3 D (.lst (ys++ [.ref tp]))):=fun a xs e=>kt _ _ (s3 _ _ e)
    rw[List.take_add_one,List.getElem?_map,e]
    exact Paired.snoc ⟨tp,rfl,kt _ _ t3⟩ (Paired.imp (fun a b h=>h.keep kt2) hd)
  ·rintro ys H2 h2D ⟨s2,hd⟩
   rw[List.length_map,show zs.length=(zs.map fun z=>(nm,z,p)).length by rw[List.length_map],List.take_length]at hd
   refine⟨look,D,Vc,J,W,M,.done,ys,_,rfl,F1,S.same s2 hJ,S,h2D,hd,fun c hc=> ?_,by rw[List.length_map];omega,fun H' fv tf f' t j=>q H' fv tf (fun b o n1 e=>f' _ _ n1 (s2 _ _ e)) (a6w s2 t) (j.imp id fun h=>h.2)⟩
   obtain⟨z,hz,rfl⟩:=List.mem_map.mp hc
   exact hV z hz
def jP(nm:Str)(zs:List Str)(p:Nat):GT:=iK .done (zs.map fun z=>(nm,z,p)) []
theorem a4R{nl:Addr}{nm:Str}{zs:List Str}(h1:H gr=some (.ins C dx (iE nl fa)))(h2:H nl=some (.lst (zs.map V.str)))(z6:zs.length<=6)(hV:∀z∈zs,Vc (nm,z,p)):mN P w K mg af (rD P w K mg af C) gr [gr,nl] tabs Vc nm c p (jP nm zs p) H:=
 fun look many J W M HB Q' kx n hJ S L1 L2 q=>⟨gr,look,many,nl,fa,dx,nm,c,p,zs,Vc,J,W,M,rfl,kx _ aa _ h1,kx _ (List.mem_cons_of_mem _ aa) _ h2,z6,L1,hJ,S,hV,q⟩
def KnR(CF CB CT:Addr)(C:Addr)(sp:Sp):Prop:=C=CF/\(sp=uA CF CB CT\/ sp=rO CF CB CT)
inductive sP(CR CF CB CT pU:Addr)(vs:List V)(H:Hp)(Q:VK)(E:XK):Prop
 |mk (tr tl fi bd fd lk dx:Addr) (nm c:Str) (p:Nat) (B:BM) (kf kt:List (Ky×V)) (u:V):vs= [.ref tr,.str nm,.str c,.int (p:Int)] ->H tr=some (.ins CR dx (eE fi tl u))->H tl=some (.dT kt)->kt.length<900->tl≠fd->dU CF CB CT H fi bd fd lk nm B kf->((u= .non/\∃l ys v,aF B.rus (.inr c:aB)=none/\Nl c/\aF B.kvs (.inr c:aB)=some (.ref l)/\H l=some (.lst ys)/\p<B.xs.length/\cQ ys (p:Int)=some v/\(∀v',aF kf (bI nm c p)=some v'->v'=v)/\kf.length<899/\
  ∀H' kf',(kf'=kf\/ kf'=aU kf (bI nm c p) v)->aF kf' (bI nm c p)=some v->dU CF CB CT H' fi bd fd lk nm B kf'->H' tl=some (.dT (aU kt (bI nm c p) (.bl true)))->(∀x o,x≠fd->x≠tl->H x=some o->H' x=some o)->Q v H')\/
  (u= .non/\∃r v,aF B.rus (.inr c:aB)=some r/\aF kf (bI nm c p)=some v/\∀H',H' tl=some (.dT (aU kt (bI nm c p) (.bl true)))->(∀x o,x≠tl->H x=some o->H' x=some o)->Q v H')\/
  (u= .non/\∃r,aF B.rus (.inr c:aB)=some r/\aF kf (bI nm c p)=none/\∀H' la,H la=none->H' la=some (.tup ((bI nm c p).map kV))->H' tr=some (.ins CR dx (eE fi tl (.ref la)))->H' tl=some (.dT (aU kt (bI nm c p) (.bl true)))->(∀x o,x≠tl->x≠tr->H x=some o->H' x=some o)->Q (.ref pU) H')\/
  ((∃la,u= .ref la)/\∀H',H' tl=some (.dT (aU kt (bI nm c p) (.bl true)))->(∀x o,x≠tl->H x=some o->H' x=some o)->Q (.ref pU) H'))->sP CR CF CB CT pU vs H Q E
theorem a5G(T:bF K mg){CR pU:Addr}(hpU:mg "UNKNOWN"=some (.ref pU))(X:mV K mg CR)(Y:fC K mg CF)(W:dG K mg CB)(Z:dZ K mg CT):aS P w K mg af aE 5 CR "look" ["self","table","column","place"] (sP CR CF CB CT pU):=by
 have G_knows:∀C sp,KnR CF CB CT C sp->cI K C/\aS P w K mg af aE 4 C "knows" ["self","cell"] sp:=fun C sp h=>by
  obtain⟨rfl,rfl|rfl⟩:=h
  ·exact⟨Y.cl,a2y T Y W Z⟩
  ·exact⟨Y.cl,zR T Y W⟩
 refine X.m_look.known a33 (fun _ _ _ _ _ _ us hl=>mS (fun _ _ _ _=>rfl) us hl) (fun vs H Q E h=> ?_) (fun f ah A ag s H vs Q E hr h=> ?_)
 ·obtain⟨tr,tl,fi,bd,fd,lk,dx,nm,c,p,B,kf,kt,u,rfl,_⟩:=h
  rfl
 ·obtain⟨tr,tl,fi,bd,fd,lk,dx,nm,c,p,B,kf,kt,u,rfl,htr,htl,ktl,ntf,hF,q⟩:=h
  have hu:=dQ hr
  refine⟨_,(aK (bU (i:=4) a33.nd rfl (Or.inl rfl) (hZ (aA (pv 1) (aA (pv 2) (aA (pv 3) aG)))))
   (aK (jI hu (aW (pv 0) rfl) (pv 4) qQ rfl)
   (aK (bK (PW.pt (kU (cU pP (aW (pv 0) rfl) gE (cO _)) (lU (eI (dI (yQ (aW (pv 0) rfl) G_knows hr aR (aA (pv 4) aG)) (fun _=>rfl)))))) (aL (cY (pv 0) (pv 4) rfl)) bO)
   (aK (bK (cU pP (aW (pv 0) rfl) gE (cO _)) (aL (bL (fQ hu (aW (aW (pv 0) rfl) rfl) (pv 4) (fun _ _=>rfl)))) bO)
   (aL (bL (yM hpU))))))),?_⟩
  obtain⟨a1,a2,a3,a4⟩:=pY fi tl u
  refine⟨_,rfl,_,rfl,_,rfl,sl,fun ce hce=> ?_⟩
  have s1:=aH.new (o:=.tup ((bI nm c p).map kV)) hce
  have c1:upd H ce (.tup ((bI nm c p).map kV)) ce=some (.tup ((bI nm c p).map kV)):=aJ
  have hcf:H ce=none:=hce
  generalize hH1:upd H ce (.tup ((bI nm c p).map kV))=H1 at s1 c1
  rw[show upd H ce (.tup [V.str nm,V.str c,V.int (p:Int)])=H1 from hH1]
  have nct:ce≠tl:=fun z=>by rw[z,htl]at hcf;cases hcf
  refine⟨_,rfl,tr,CR,dx,_,_,rfl,s1 _ _ htr,X.cl,X.n_looked,a2,_,rfl,tl,_,rfl,.inr ⟨kt,bI nm c p,ce,s1 _ _ htl,rfl,c1,dJ (by omega),rfl⟩,?_⟩
  have u2:bC tl H1 (upd H1 tl (.dT (aU kt (bI nm c p) (.bl true)))):=fun b o n z=>by rw[aI n];exact z
  have t2:upd H1 tl (.dT (aU kt (bI nm c p) (.bl true))) tl=some (.dT (aU kt (bI nm c p) (.bl true))):=aJ
  generalize upd H1 tl (.dT (aU kt (bI nm c p) (.bl true)))=H2 at u2 t2|-
  have ntr:tr≠tl:=fun z=>by rw[z,htl]at htr;cases htr
  have tr2:=u2 _ _ ntr (s1 _ _ htr)
  have hF1:=hF.same s1
  have hl1:=s1 _ _ htl
  have nd:∀{x:Addr} {o:HO},H1 x=some o->(∀kvs,o≠ .dT kvs)->H2 x=some o:=fun z n=>u2 _ _ (fun y=>by rw[y,hl1]at z;exact n _ (Option.some.inj z).symm) z
  have F2:dU CF CB CT H2 fi bd fd lk nm B kf:=by
   obtain⟨d0,e1⟩:=hF1.fin
   obtain⟨kb,e2,e3⟩:=hF1.bds
   obtain⟨⟨d1,b1⟩,⟨⟨d2,b2⟩,b3,b4⟩,b5,b6,b7⟩:=hF1.B
   exact⟨⟨d0,nd e1 (fun _ z=>by cases z)⟩,⟨kb,nd e2 (fun _ z=>by cases z),e3⟩,⟨⟨d1,nd b1 (fun _ z=>by cases z)⟩,⟨⟨d2,nd b2 (fun _ z=>by cases z)⟩,nd b3 (fun _ z=>by cases z),nd b4 (fun _ z=>by cases z)⟩,nd b5 (fun _ z=>by cases z),nd b6 (fun _ z=>by cases z),nd b7 (fun _ z=>by cases z)⟩,u2 _ _ ntf.symm hF1.fnd,hF1.len⟩
  obtain⟨df,f2⟩:=F2.fin
  have ce2:=u2 _ _ nct c1
  have u12:∀x o,x≠tl->H x=some o->H2 x=some o:=fun x o n z=>u2 _ _ n (s1 _ _ z)
  have ntrf:tr≠fd:=fun z=>by rw[z,hF.fnd]at htr;cases htr
  have ncf:ce≠fd:=fun z=>by rw[z,hF.fnd]at hcf;cases hcf
  have ncr:ce≠tr:=fun z=>by rw[z,htr]at hcf;cases hcf
  rcases q with⟨rfl,l,ys,v,hru,hc,hv,hl,hp,ha,hcon,kl,q⟩|⟨rfl,r,v,hru,hv,q⟩|⟨rfl,r,hru,hv,q⟩|⟨⟨la,rfl⟩,q⟩
  ·refine⟨_,rfl,tr,CR,dx,_,_,rfl,tr2,X.cl,X.n_lacking,a3,rfl,_,rfl,cE ?_⟩
   refine⟨_,rfl,tr,CR,dx,_,_,rfl,tr2,X.cl,X.n_finder,a1,CF,_,fi,df,_,⟨rfl,.inl rfl⟩,rfl,f2,gP,_,rfl,fi,bd,fd,lk,ce,l,nm,c,p,B,kf,ys,v,rfl,F2,ce2,hru,hc,hv,nd (s1 _ _ hl) (fun _ z=>by cases z),hp,ha,hcon,kl,fun H3 kf' hk' vk' F3 b3=>⟨_,rfl,bH ?_⟩⟩
   have tr3:=b3 _ _ ntrf tr2
   obtain⟨df3,f3⟩:=F3.fin
   refine⟨_,rfl,tr,CR,dx,_,_,rfl,tr3,X.cl,X.n_lacking,a3,rfl,_,rfl,cE ?_⟩
   refine⟨_,rfl,tr,CR,dx,_,_,rfl,tr3,X.cl,X.n_finder,a1,fi,CF,df3,_,_,rfl,f3,Y.cl,Y.n_found,(iX _ _ _).2.1,_,rfl,fd,v,rfl,?_,?_⟩
   ·rw[<- vk']
    exact .inr ⟨_,bI nm c p,ce,.inl F3.fnd,rfl,b3 _ _ ncf ce2,rfl⟩
   ·exact q H3 kf' hk' vk' F3 (b3 _ _ ntf t2) (fun x o n1 n2 z=>b3 _ _ n1 (u12 _ _ n2 z))
  ·refine⟨_,rfl,tr,CR,dx,_,_,rfl,tr2,X.cl,X.n_lacking,a3,rfl,_,rfl,cE ?_⟩
   refine⟨_,rfl,tr,CR,dx,_,_,rfl,tr2,X.cl,X.n_finder,a1,CF,_,fi,df,_,⟨rfl,.inr rfl⟩,rfl,f2,gP,_,rfl,fi,bd,fd,lk,ce,nm,c,p,B,kf,r,rfl,F2,ce2,hru,?_⟩
   rw[hv]
   refine⟨_,rfl,bH ?_⟩
   refine⟨_,rfl,tr,CR,dx,_,_,rfl,tr2,X.cl,X.n_lacking,a3,rfl,_,rfl,cE ?_⟩
   refine⟨_,rfl,tr,CR,dx,_,_,rfl,tr2,X.cl,X.n_finder,a1,fi,CF,df,_,_,rfl,f2,Y.cl,Y.n_found,(iX _ _ _).2.1,_,rfl,fd,v,rfl,?_,q H2 t2 u12⟩
   rw[<- hv]
   exact .inr ⟨_,bI nm c p,ce,.inl F2.fnd,rfl,ce2,rfl⟩
  ·refine⟨_,rfl,tr,CR,dx,_,_,rfl,tr2,X.cl,X.n_lacking,a3,rfl,_,rfl,cE ?_⟩
   refine⟨_,rfl,tr,CR,dx,_,_,rfl,tr2,X.cl,X.n_finder,a1,CF,_,fi,df,_,⟨rfl,.inr rfl⟩,rfl,f2,gP,_,rfl,fi,bd,fd,lk,ce,nm,c,p,B,kf,r,rfl,F2,ce2,hru,?_⟩
   rw[hv]
   refine⟨_,rfl,cE ?_⟩
   refine⟨_,rfl,_,rfl,tr,CR,dx,_,rfl,tr2,X.cl,X.n_lacking,(by show 3<1000;decide),?_⟩
   rw[show aN "lacking" (.ref ce) (eE fi tl .non)=eE fi tl (.ref ce) from rfl]
   have u3:bC tr H2 (upd H2 tr (.ins CR dx (eE fi tl (.ref ce)))):=fun b o n z=>by rw[aI n];exact z
   have t3:upd H2 tr (.ins CR dx (eE fi tl (.ref ce))) tr=some (.ins CR dx (eE fi tl (.ref ce))):=aJ
   generalize upd H2 tr (.ins CR dx (eE fi tl (.ref ce)))=H3 at u3 t3|-
   refine⟨_,rfl,tr,CR,dx,_,_,rfl,t3,X.cl,X.n_lacking,(pY fi tl (.ref ce)).2.2.1,rfl,_,rfl,bH ?_⟩
   exact q H3 ce hcf (u3 _ _ ncr ce2) t3 (u3 _ _ ntr.symm t2) (fun x o n1 n2 z=>u3 _ _ n2 (u12 _ _ n1 z))
  ·refine⟨_,rfl,tr,CR,dx,_,_,rfl,tr2,X.cl,X.n_lacking,a3,rfl,_,rfl,bH ?_⟩
   refine bH ?_
   refine⟨_,rfl,tr,CR,dx,_,_,rfl,tr2,X.cl,X.n_lacking,a3,rfl,_,rfl,bH ?_⟩
   exact q H2 t2 u12
end
def eF(Ks:List Ky)(kvs:List (Ky×V)):Prop:=(kvs.map (·.1)).Nodup/\∀k∈kvs.map (·.1),k∈Ks
theorem uE{α:Type} [DecidableEq α]:∀{l m:List α},l.Nodup->(∀x∈l,x∈m)->l.length<=m.length
 | [],_,_,_=>Nat.zero_le _
 |x::r,m,h,hs=>by
  rw[List.nodup_cons]at h
  have hx:=hs x List.mem_cons_self
  have:=uE (l:=r) (m:=m.erase x) h.2 fun y hy=>(List.mem_erase_of_ne (fun e=>by rw[e]at hy;exact h.1 hy)).mpr (hs y (List.mem_cons_of_mem _ hy))
  rw[List.length_erase_of_mem hx]at this
  have:0<m.length:=List.length_pos_of_mem hx
  rw[List.length_cons]
  omega
theorem eF.len{Ks:List Ky}{kvs:List (Ky×V)}(h:eF Ks kvs):kvs.length<=Ks.length:=by
 have:=uE h.1 h.2
 rwa [List.length_map]at this
theorem eF.nil{Ks:List Ky}:eF Ks []:=⟨List.nodup_nil,fun k hk=>by cases hk⟩
theorem a4P{kvs:List (Ky×V)}{k:Ky}{v x:V}(h:aF kvs k=some x):(aU kvs k v).map (·.1)=kvs.map (·.1):=by
 unfold aU
 rw[mH,h,if_pos (show(some x).isSome=true from rfl),List.map_map]
 refine List.map_congr_left fun p _=> ?_
 show(if p.1=k then _ else _:Ky×V).1=p.1
 split<;>rfl
theorem eF.put{Ks:List Ky}{kvs:List (Ky×V)}{k:Ky}{v:V}(h:eF Ks kvs)(hk:k∈Ks):eF Ks (aU kvs k v):=by
 cases e:aF kvs k with
 |some x=>unfold eF;rw[a4P e];exact h
 |none=>
  refine⟨a2u v h.1 e,fun k' hk'=> ?_⟩
  rw[yB v e,List.map_append]at hk'
  rcases List.mem_append.mp hk' with hk'|hk'
  ·exact h.2 k' hk'
  ·rw[List.mem_singleton.mp hk']
   exact hk
theorem zI{t t' c':Str}{p':Nat}(h:bI t c p=bI t' c' p'):t=t'/\c=c'/\p=p':=by
 unfold bI at h
 simp only[List.cons.injEq,Sum.inr.injEq,Sum.inl.injEq,and_true]at h
 exact⟨h.1,h.2.1,by omega⟩
theorem dU.mvW{nm:Str}{B:BM}(F:dU CF CB CT H fi bd fd lk nm B kf)(u:∀b o,b∈ [fi,bd,fd] ++ B.foot->H b=some o->H' b=some o):dU CF CB CT H' fi bd fd lk nm B kf:=by
 obtain⟨dx,e1⟩:=F.fin
 obtain⟨kb,e2,e3⟩:=F.bds
 obtain⟨⟨d1,b1⟩,⟨⟨d2,b2⟩,b3,b4⟩,b5,b6,b7⟩:=F.B
 exact⟨⟨dx,u _ _ (by simp[BM.foot]) e1⟩,⟨kb,u _ _ (by simp[BM.foot]) e2,e3⟩,⟨⟨d1,u _ _ (by simp[BM.foot]) b1⟩,⟨⟨d2,u _ _ (by simp[BM.foot]) b2⟩,u _ _ (by simp[BM.foot]) b3,u _ _ (by simp[BM.foot]) b4⟩,u _ _ (by simp[BM.foot]) b5,u _ _ (by simp[BM.foot]) b6,u _ _ (by simp[BM.foot]) b7⟩,u _ _ (by simp[BM.foot]) F.fnd,F.len⟩
theorem dU.isthere{nm:Str}{B:BM}(F:dU CF CB CT H fi bd fd lk nm B kf)(hb:b∈ [fi,bd,fd] ++ B.foot):H b≠none:=fun z=>by
 obtain⟨dx,e1⟩:=F.fin
 obtain⟨kb,e2,e3⟩:=F.bds
 obtain⟨⟨d1,b1⟩,⟨⟨d2,b2⟩,b3,b4⟩,b5,b6,b7⟩:=F.B
 have e0:=F.fnd
 simp only[BM.foot,List.cons_append,List.nil_append,List.mem_cons,List.not_mem_nil,or_false]at hb
 rcases hb with rfl|rfl|rfl|rfl|rfl|rfl|rfl|rfl|rfl|rfl
 ·rw[e1]at z;cases z
 ·rw[e2]at z;cases z
 ·rw[e0]at z;cases z
 ·rw[b1]at z;cases z
 ·rw[b2]at z;cases z
 ·rw[b3]at z;cases z
 ·rw[b4]at z;cases z
 ·rw[b5]at z;cases z
 ·rw[b6]at z;cases z
 ·rw[b7]at z;cases z
theorem a2n{κ:Type} [DecidableEq κ]{kvs:List (κ×V)}{k:κ}{v:V}(h:aF kvs k=some v):(k,v)∈kvs:=by
 unfold aF at h
 cases e:kvs.find? fun kv=>decide (kv.1=k)with
 |none=>rw[e]at h;cases h
 |some kv=>
  rw[e]at h
  have h2:kv.2=v:=Option.some.inj h
  have h1:kv.1=k:=by have:=List.find?_some e;simpa using this
  rw[<- h1,<- h2]
  exact List.mem_of_find?_eq_some e
open Classical in
noncomputable def zA (tabs:List (Str×BM)) (gv:Str->Str->Option (List V)):List Addr:=tabs.flatMap fun tb=>tb.2.kvs.filterMap fun kv=>match kv with
 |(.inr c,.ref l)=>if(gv tb.1 c).isSome/\aF tb.2.kvs (.inr c:aB)=some (.ref l) then some l else none
 |_=>none
theorem a6c{gv:Str->Str->Option (List V)}{t:Str}{B:BM}(g:gv t c=some ys)(h:(t,B)∈tabs)(e:aF B.kvs (.inr c:aB)=some (.ref l)):l∈zA tabs gv:=by
 refine List.mem_flatMap.mpr ⟨(t,B),h,List.mem_filterMap.mpr ⟨_,a2n e,?_⟩⟩
 show(if(gv t c).isSome/\aF B.kvs (.inr c:aB)=some (.ref l) then some l else none)=some l
 rw[if_pos ⟨by rw[g];rfl,e⟩]
theorem a79{gv:Str->Str->Option (List V)}(h:l∈zA tabs gv):∃t c ys B,gv t c=some ys/\(t,B)∈tabs/\aF B.kvs (.inr c:aB)=some (.ref l):=by
 obtain⟨tb,h1,h2⟩:=List.mem_flatMap.mp h
 obtain⟨kv,h3,h4⟩:=List.mem_filterMap.mp h2
 split at h4
 ·next c l'=>
  split at h4
  ·next hc=>
   cases h4
   obtain⟨ys,hy⟩:=Option.isSome_iff_exists.mp hc.1
   exact⟨tb.1,c,ys,tb.2,hy,h1,hc.2⟩
  ·cases h4
 ·cases h4
theorem dU.noext{nm:Str}{B:BM}(F:dU CF CB CT H fi bd fd lk nm B kf)(hb:b∈ [fi,bd,fd] ++ B.foot){φ:Heap->Prop}(z:H b=some (HO.ext φ)):False:=by
 obtain⟨dx,e1⟩:=F.fin
 obtain⟨kb,e2,e3⟩:=F.bds
 obtain⟨⟨d1,b1⟩,⟨⟨d2,b2⟩,b3,b4⟩,b5,b6,b7⟩:=F.B
 have e0:=F.fnd
 simp only[BM.foot,List.cons_append,List.nil_append,List.mem_cons,List.not_mem_nil,or_false]at hb
 rcases hb with rfl|rfl|rfl|rfl|rfl|rfl|rfl|rfl|rfl|rfl
 ·rw[e1]at z;cases z
 ·rw[e2]at z;cases z
 ·rw[e0]at z;cases z
 ·rw[b1]at z;cases z
 ·rw[b2]at z;cases z
 ·rw[b3]at z;cases z
 ·rw[b4]at z;cases z
 ·rw[b5]at z;cases z
 ·rw[b6]at z;cases z
 ·rw[b7]at z;cases z
structure jG where
 fi:Addr
 bd:Addr
 fd:Addr
 lk:Addr
 tr:Addr
 tl:Addr
 tabs:List (Str×BM)
 Ks:List Ky
 gv:Str->Str->Option (List V)
 Vc:aQ->Prop
 val:aQ->PyData
 kf0:List (Ky×V)
 t0:GT
structure vY(tabs:List (Str×BM))(Ks:List Ky)(gv:Str->Str->Option (List V))(Vc:aQ->Prop):Prop where
 k8:Ks.length<=800
 v:∀x,Vc x->cK x∈Ks/\∃B,(x.1,B)∈tabs/\x.2.2<B.xs.length/\((∃ys,gv x.1 x.2.1=some ys/\ys.length=B.xs.length/\Nl x.2.1/\aF B.rus (.inr x.2.1:aB)=none)\/ (gv x.1 x.2.1=none/\∃r,aF B.rus (.inr x.2.1:aB)=some r))
def nX(CR:Addr)(X:jG)(kt:List (Ky×V))(H:Hp):Option GT->Prop
 |some τ=>(∃dx,H X.tr=some (.ins CR dx (eE X.fi X.tl .non)))/\∃us,GT.Path X.val X.t0 us τ/\(∀x,(aF kt (cK x)).isSome=true↔x∈us)/\∀y∈us,X.gv y.1 y.2.1=none->(aF X.kf0 (cK y)).isSome=true
 |none=>∃dx la x,H X.tr=some (.ins CR dx (eE X.fi X.tl (.ref la)))/\H la=some (.tup ((cK x).map kV))/\x∈X.t0.looks X.val/\X.Vc x/\X.gv x.1 x.2.1=none/\aF X.kf0 (cK x)=none
theorem nX.tr{CR:Addr}{X:jG}{kt:List (Ky×V)}:∀{o:Option GT},nX CR X kt H o->∃dx u,H X.tr=some (.ins CR dx (eE X.fi X.tl u))
 |some _,⟨⟨dx,e⟩,_⟩=>⟨dx,_,e⟩
 |none,⟨dx,la,_,e,_⟩=>⟨dx,_,e⟩
theorem nX.mv{CR:Addr}{X:jG}{kt:List (Ky×V)}(k:bS H H')(e:∀o,H X.tr=some o->H' X.tr=some o):∀{o:Option GT},nX CR X kt H o->nX CR X kt H' o
 |some _,⟨⟨dx,h⟩,r⟩=>⟨⟨dx,e _ h⟩,r⟩
 |none,⟨dx,la,x,h,h2,r⟩=>⟨dx,la,x,e _ h,k _ _ h2,r⟩
structure JT(K:Fg)(CR CF CB CT:Addr)(X:jG)(o:Option GT)(H:Hp):Prop where
 kf:∃kf,(∀tb∈X.tabs,dU CF CB CT H X.fi X.bd X.fd X.lk tb.1 tb.2 kf)/\H X.fd=some (.dT kf)/\eF X.Ks kf/\(∀t c p v ys,X.gv t c=some ys->aF kf (bI t c p)=some v->cQ ys (p:Int)=some v)/\∀t c p,X.gv t c=none->aF kf (bI t c p)=aF X.kf0 (bI t c p)
 pd:∀x v,X.Vc x->X.gv x.1 x.2.1=none->aF X.kf0 (cK x)=some v->Pd K H v (X.val x)
 tl:∃kt,H X.tl=some (.dT kt)/\eF X.Ks kt/\nX CR X kt H o
 cols:∀t c ys B,X.gv t c=some ys->(t,B)∈X.tabs->∃l,aF B.kvs (.inr c:aB)=some (.ref l)/\H l=some (.lst ys)
 cd:∀t c ys (p:Nat) v,X.gv t c=some ys->cQ ys (p:Int)=some v->Pd K H v (X.val (t,c,p))
structure uQ(X:jG)(W:List Addr):Prop where
 o:X.fd∈W/\X.tr∈W/\X.tl∈W
 f:∀tb∈X.tabs,∀b∈ [X.fi,X.bd,X.fd] ++ tb.2.foot,b∈W
 c:∀t c ys B l,X.gv t c=some ys->(t,B)∈X.tabs->aF B.kvs (.inr c:aB)=some (.ref l)->l∈W
 n:∀b∈W,b=X.fd\/ b=X.tr\/ b=X.tl\/ (∃tb∈X.tabs,b∈ [X.fi,X.bd,X.fd] ++ tb.2.foot)\/ ∃t c ys B,X.gv t c=some ys/\(t,B)∈X.tabs/\aF B.kvs (.inr c:aB)=some (.ref b)
theorem JT.st{CR:Addr}{X:jG}{W:List Addr}(w:uQ X W):gG (JT K CR CF CB CT X) W [X.fd,X.tl,X.tr] where
 there:=fun o H h b mb z=>by
  obtain⟨kf,F,e0,_⟩:=h.kf
  obtain⟨kt,t2,_,tr⟩:=h.tl
  obtain⟨d3,u,t1⟩:=tr.tr
  rcases w.n b mb with rfl|rfl|rfl|⟨tb,h1,h2⟩|⟨t,c,ys,B,g1,g2,g3⟩
  ·rw[e0]at z;cases z
  ·rw[t1]at z;cases z
  ·rw[t2]at z;cases z
  ·exact(F tb h1).isthere h2 z
  ·obtain⟨l,g4,g5⟩:=h.cols t c ys B g1 g2
   rw[g3]at g4
   cases g4
   rw[g5]at z;cases z
 stay:=fun o H H' k kz kt h=>by
  obtain⟨kf,F,e0,r1,r2,r3⟩:=h.kf
  obtain⟨kt',t2,t3,tr⟩:=h.tl
  exact⟨⟨kf,fun tb htb=>(F tb htb).mvW fun b o hb e=>k _ _ (w.f tb htb b hb) e,k _ _ w.o.1 e0,r1,r2,r3⟩,fun x v a b c=>(h.pd x v a b c).keep kt,⟨kt',k _ _ w.o.2.2 t2,t3,tr.mv kt.t (fun o e=>k _ _ w.o.2.1 e)⟩,fun t c ys B g1 g2=>by
   obtain⟨l,g3,g4⟩:=h.cols t c ys B g1 g2
   exact⟨l,g3,k _ _ (w.c t c ys B l g1 g2 g3) g4⟩,fun t c ys p v a b=>(h.cd t c ys p v a b).keep kt⟩
 mt:=fun o H h b hb=>by
  obtain⟨kf,_,e,_⟩:=h.kf
  obtain⟨kt,e2,_,tr⟩:=h.tl
  obtain⟨d3,u,t1⟩:=tr.tr
  simp only[List.mem_cons,List.not_mem_nil,or_false]at hb
  rcases hb with rfl|rfl|rfl
  ·exact .inl ⟨kf,e⟩
  ·exact .inl ⟨kt,e2⟩
  ·exact .inr ⟨_,_,_,t1⟩
theorem a2O{X:jG}{kt:List (Ky×V)}{us:List aQ}{c:aQ}(h:∀x,(aF kt (cK x)).isSome=true↔x∈us)(v:V):∀x,(aF (aU kt (cK c) v) (cK x)).isSome=true↔x∈us++ [c]:=fun x=>by
 rw[fD,List.mem_append,List.mem_singleton]
 by_cases e:cK x=cK c
 ·rw[if_pos e]
  exact⟨fun _=> .inr (rL e),fun _=>rfl⟩
 ·rw[if_neg e]
  exact⟨fun y=> .inl ((h x).mp y),fun y=>y.elim (h x).mpr (fun z=>absurd (by rw[z]) e)⟩
theorem a4n(bd fd lk fi tl:Addr)(u:V):gD bd fd lk≠eE fi tl u:=fun h=>by
 have h1:(gD bd fd lk).map (·.1)=(eE fi tl u).map (·.1):=by rw[h]
 exact absurd h1 (show¬([("boards":Str),("found":Str),("looked":Str)]= [("finder":Str),("looked":Str),("lacking":Str)])by decide+kernel)
theorem a70(r:Addr)(n:Int)(d fi tl:Addr)(u:V):kQ r n d≠eE fi tl u:=fun h=>by
 have h1:(kQ r n d).map (·.1)=(eE fi tl u).map (·.1):=by rw[h]
 exact absurd h1 (show¬([("row_numbers":Str),("fresh_number":Str),("kept":Str)]= [("finder":Str),("looked":Str),("lacking":Str)])by decide+kernel)
section
theorem JT.look{CR pU:Addr}(hU:∀H,cF K H pU [V.str ("fault":Str),V.str ("unknown":Str)]){X:jG}{W:List Addr}(wf:uQ X W)(ne:X.tl≠X.fd)(O:vY X.tabs X.Ks X.gv X.Vc){o:Option GT}{t:Str}(hJ:JT K CR CF CB CT X o H)(hV:X.Vc (t,c,p))(hτ:∀τ,o=some τ->∃k,τ= .look (t,c,p) k){Q:VK}
 (q:∀H' v d,eV [X.fd,X.tl,X.tr] H H'->Pd K H' v d->((∃k,o=some (.look (t,c,p) k)/\JT K CR CF CB CT X (some (k d)) H')\/ (d=lO/\JT K CR CF CB CT X none H'))->Q v H'):
 sP CR CF CB CT pU [.ref X.tr,.str t,.str c,.int (p:Int)] H Q E0:=by
 obtain⟨kf,F,e0,r1,r2,r3⟩:=hJ.kf
 obtain⟨kt,t2,t3,trO⟩:=hJ.tl
 obtain⟨dx,u,htr⟩:=trO.tr
 obtain⟨kin,B,hB,hp,hcase⟩:=O.v _ hV
 have k8:=O.k8
 have lk:=r1.len
 have lt:=t3.len
 have S:=JT.st (K:=K) (CR:=CR) (CF:=CF) (CB:=CB) (CT:=CT) wf
 have nrf:X.tr≠X.fd:=fun y=>by rw[y,e0]at htr;cases htr
 have nrl:X.tr≠X.tl:=fun y=>by rw[y,t2]at htr;cases htr
 have fr3:∀{H':Hp},(∀x o,x≠X.fd->x≠X.tl->x≠X.tr->H x=some o->H' x=some o)->eV [X.fd,X.tl,X.tr] H H':=fun h b ob n e=>by
  simp only[List.mem_cons,List.not_mem_nil,or_false,not_or]at n
  exact h b ob n.1 n.2.1 n.2.2 e
 have upd':Pd K H (.ref pU) lO:=⟨a4r,.tup (hU H) (.cons (.str _) (.cons (.str _) .nil))⟩
 have mk:∀{H':Hp} {o':Option GT} {kf' kt':List (Ky×V)},(∀x ob,x≠X.fd->x≠X.tl->x≠X.tr->H x=some ob->H' x=some ob)->H' X.fd=some (.dT kf')->kf'.length<900->eF X.Ks kf'->(∀t c p v ys,X.gv t c=some ys->aF kf' (bI t c p)=some v->cQ ys (p:Int)=some v)->(∀t c p,X.gv t c=none->aF kf' (bI t c p)=aF X.kf0 (bI t c p))->H' X.tl=some (.dT kt')->eF X.Ks kt'->nX CR X kt' H' o'->JT K CR CF CB CT X o' H':=fun{H' o' kf' kt'} fr h1 h1l h2 h3 h4 h5 h6 h7=>by
  have k:∀{x:Addr} {ob:HO},H x=some ob->(∀y,ob≠ .dT y)->x≠X.tr->H' x=some ob:=fun e n m=>fr _ _ (fun y=>by rw[y,e0]at e;exact n _ (Option.some.inj e).symm) (fun y=>by rw[y,t2]at e;exact n _ (Option.some.inj e).symm) m e
  have kt:=S.tup hJ (fr3 fr)
  have nt:∀{x:Addr} {ob:HO},H x=some ob->(∀a b c,ob≠ .ins a b c)->x≠X.tr:=fun e n y=>by rw[y,htr]at e;exact n _ _ _ (Option.some.inj e).symm
  refine⟨⟨kf',fun tb htb=> ?_,h1,h2,h3,h4⟩,fun x v a b c=>(hJ.pd x v a b c).keep kt,⟨kt',h5,h6,h7⟩,fun t c ys B g1 g2=> ?_,fun t c ys p v a b=>(hJ.cd t c ys p v a b).keep kt⟩
  ·obtain⟨d0,e1⟩:=(F tb htb).fin
   obtain⟨kb,e2,e3⟩:=(F tb htb).bds
   obtain⟨⟨d1,b1⟩,⟨⟨d2,b2⟩,b3,b4⟩,b5,b6,b7⟩:=(F tb htb).B
   have n1:X.fi≠X.tr:=fun y=>by
    rw[y,htr]at e1
    exact a4n _ _ _ _ _ _ (HO.ins.inj (Option.some.inj e1)).2.2.symm
   have n2:tb.2.g≠X.tr:=fun y=>by
    rw[y,htr]at b2
    exact a70 _ _ _ _ _ _ (HO.ins.inj (Option.some.inj b2)).2.2.symm
   exact⟨⟨d0,k e1 nk n1⟩,⟨kb,k e2 nk (nt e2 (fun _ _ _ y=>by cases y)),e3⟩,⟨⟨d1,k b1 nk (uS b1 htr (show 4≠3 by decide))⟩,⟨⟨d2,k b2 nk n2⟩,k b3 nk (nt b3 (fun _ _ _ y=>by cases y)),k b4 nk (nt b4 (fun _ _ _ y=>by cases y))⟩,k b5 nk (nt b5 (fun _ _ _ y=>by cases y)),k b6 nk (nt b6 (fun _ _ _ y=>by cases y)),k b7 nk (nt b7 (fun _ _ _ y=>by cases y))⟩,h1,h1l⟩
  ·obtain⟨l,g3,g4⟩:=hJ.cols t c ys B g1 g2
   exact⟨l,g3,k g4 nk (nt g4 (fun _ _ _ y=>by cases y))⟩
 have ktp:eF X.Ks (aU kt (bI t c p) (.bl true)):=t3.put kin
 refine⟨X.tr,X.tl,X.fi,X.bd,X.fd,X.lk,dx,t,c,p,B,kf,kt,u,rfl,htr,t2,by omega,ne,F _ hB,?_⟩
 cases o with
 |none=>
  obtain⟨dx',la,x,g1,g2,g3⟩:=trO
  have eu:u= .ref la:=by
   rw[htr]at g1
   have:=(HO.ins.inj (Option.some.inj g1)).2.2
   have h2:(eE X.fi X.tl u).lookup ("lacking":Str)=(eE X.fi X.tl (.ref la)).lookup ("lacking":Str):=by rw[this]
   exact Option.some.inj h2
  refine .inr (.inr (.inr ⟨⟨la,eu⟩,fun H' h1 h2=> ?_⟩))
  have fr:∀x ob,x≠X.fd->x≠X.tl->x≠X.tr->H x=some ob->H' x=some ob:=fun x ob _ n _ e=>h2 x ob n e
  have kt2:=S.tup hJ (fr3 fr)
  exact q H' _ lO (fr3 fr) (upd'.keep kt2) (.inr ⟨rfl,mk fr (h2 _ _ ne.symm e0) (by omega) r1 r2 r3 h1 ktp ⟨dx',la,x,h2 _ _ nrl g1,kt2.t _ _ g2,g3⟩⟩)
 |some τ=>
  obtain⟨⟨dx',g1⟩,us,path,hus,hkn⟩:=trO
  have eu:u= .non:=by
   rw[htr]at g1
   have:=(HO.ins.inj (Option.some.inj g1)).2.2
   have h2:(eE X.fi X.tl u).lookup ("lacking":Str)=(eE X.fi X.tl .non).lookup ("lacking":Str):=by rw[this]
   exact Option.some.inj h2
  obtain⟨kk,rfl⟩:=hτ _ rfl
  have path':=path.snoc
  rcases hcase with⟨ys,g,ly,nc,hru⟩|⟨g,r,hru⟩
  ·obtain⟨l,hv,hl⟩:=hJ.cols t c ys B g hB
   have hpy:p<ys.length:=by rw[ly];exact hp
   obtain⟨v,hv'⟩:∃v,ys[p]?=some v:=⟨_,List.getElem?_eq_getElem hpy⟩
   have ha:=kW hv'
   refine .inl ⟨eu,l,ys,v,hru,nc,hv,hl,hp,ha,fun v' e=> ?_,by omega,fun H' kf' hk vk F' h1 h2=> ?_⟩
   ·have:=r2 t c p v' ys g e
    rw[ha]at this
    exact(Option.some.inj this).symm
   ·have fr:∀x ob,x≠X.fd->x≠X.tl->x≠X.tr->H x=some ob->H' x=some ob:=fun x ob n1 n2 _ e=>h2 x ob n1 n2 e
    have kt2:=S.tup hJ (fr3 fr)
    have w1':eF X.Ks kf':=by
     rcases hk with rfl|rfl
     ·exact r1
     ·exact r1.put kin
    refine q H' v (X.val (t,c,p)) (fr3 fr) ((hJ.cd t c ys p v g ha).keep kt2) (.inl ⟨kk,rfl,mk fr F'.fnd F'.len w1' (fun t' c' p' v' ys' g' e=> ?_) (fun t' c' p' g'=> ?_) h1 ktp ⟨⟨dx',h2 _ _ nrf nrl g1⟩,us++ [(t,c,p)],path',a2O (X:=X) (c:=(t,c,p)) hus _,fun y hy gy=>(List.mem_append.mp hy).elim (fun h=>hkn y h gy) (fun h=>by rw[List.mem_singleton]at h;subst h;rw[show X.gv t c=some ys from g]at gy;cases gy)⟩⟩)
    ·rcases hk with rfl|rfl
     ·exact r2 t' c' p' v' ys' g' e
     ·rw[fD]at e
      split at e
      ·next h=>
       obtain⟨rfl,rfl,rfl⟩:=zI h
       rw[g]at g'
       rw[<- Option.some.inj g',<- Option.some.inj e]
       exact ha
      ·exact r2 t' c' p' v' ys' g' e
    ·rcases hk with rfl|rfl
     ·exact r3 t' c' p' g'
     ·rw[fD,if_neg (fun h=>by
       obtain⟨rfl,rfl,rfl⟩:=zI h
       rw[g]at g'
       cases g')]
      exact r3 t' c' p' g'
  ·have k0:=r3 t c p g
   cases hv:aF kf (bI t c p)with
   |some v=>
    refine .inr (.inl ⟨eu,r,v,hru,rfl,fun H' h1 h2=> ?_⟩)
    have fr:∀x ob,x≠X.fd->x≠X.tl->x≠X.tr->H x=some ob->H' x=some ob:=fun x ob _ n _ e=>h2 x ob n e
    have kt2:=S.tup hJ (fr3 fr)
    exact q H' v (X.val (t,c,p)) (fr3 fr) ((hJ.pd (t,c,p) v hV g (by rw[<- hv];exact k0.symm)).keep kt2) (.inl ⟨kk,rfl,mk fr (h2 _ _ ne.symm e0) (by omega) r1 r2 r3 h1 ktp ⟨⟨dx',h2 _ _ nrl g1⟩,us++ [(t,c,p)],path',a2O (X:=X) (c:=(t,c,p)) hus _,fun y hy gy=>(List.mem_append.mp hy).elim (fun h=>hkn y h gy) (fun h=>by rw[List.mem_singleton]at h;subst h;rw[show aF X.kf0 (cK (t,c,p))=some v from by rw[<- hv];exact k0.symm];rfl)⟩⟩)
   |none=>
    refine .inr (.inr (.inl ⟨eu,r,hru,rfl,fun H' la h0 h1 h2 h3 h4=> ?_⟩))
    have fr:∀x ob,x≠X.fd->x≠X.tl->x≠X.tr->H x=some ob->H' x=some ob:=fun x ob _ n m e=>h4 x ob n m e
    have kt2:=S.tup hJ (fr3 fr)
    refine q H' _ lO (fr3 fr) (upd'.keep kt2) (.inr ⟨rfl,mk fr (h4 _ _ ne.symm nrf.symm e0) (by omega) r1 r2 r3 h3 ktp ⟨dx,la,(t,c,p),h2,h1,?_,hV,g,by rw[<- hv];exact k0.symm⟩⟩)
    rw[path.looks]
    exact List.mem_append_right _ aa
end
theorem xU{H₁:Hp}{f:eG}{cv:List V}{k:Nat}{spB:List V->Hp->VK->Prop}{sc:Scope}(la:fY q params body ai (fJ X.env.cells ai.names []) H₁ fa)(L:Lent X σ H₁ f)
 (hcell:∀x,X.env.scope.names.lookup x=some .cell->∃c,X.env.cells.lookup x=some c)
 (hcv:cp.map (fun p=>σ[p.1]?)=cv.map fun v=>some (some v))
 (hb:∀(pm ctv:Value) (c:Addr) (clos:List (Str×Addr)) (us:List Value),us.length=ps.length->bindArgs (W.kla_fn "<lambda>" q params body ai clos pm (.ref c) ctv) ⟨us,[]⟩=pure (ps.zip us))
 (hbody:∀(cd:Value) (A:Around) (ag:List Env) (s:Shared) (H:Hp) (vs:List V) (Q:VK),bT k (A.deeper (W.envX q ai s.heap.objs.size fa cd (fJ X.env.cells ai.names [])))->spB vs H Q->
  ∃t,PE (rJ X.prog X.w X.K X.mg X.base (ps++ cp.map (·.2)) q ai fa cd (fJ X.env.cells ai.names []) A ag s H) body t/\t ((vs++ cv).map some) H Q)
 (hs:X.env.scope=sc:=by rfl)(hN:X.N=N:=by rfl)
 (hcp:∀p∈cp,N[p.1]?=some p.2/\sc.names.lookup p.2=some .cell/\ai.names.lookup p.2=some .free:=by decide+kernel)
 (free:∀y∈ai.names,y.2= .free->sc.names.lookup y.1=some .cell:=by decide+kernel)
 (kind:ai.kind= .function:=by rfl)(co:ai.isCoroutine=false:=by rfl)(gen:ai.isGenerator=false:=by rfl)(nocell:∀y∈ai.names,y.2≠ .cell:=by decide+kernel)(par:∀x∈ps,ai.names.lookup x=some .local:=by decide+kernel)(nd:(ps++ cp.map (·.2)).Nodup:=by decide+kernel):
 eO X.prog X.w X.K X.mg X.base (k+ 1) fa (nS fa f q params body ai (fJ X.env.cells ai.names []) ps.length spB):=by
 subst hs hN
 exact a7S L hcell hcv hcp free kind co gen nocell par nd hb hbody
theorem a3u{P:Addr}(s:aH H H')(h:iL q H P):iL q H' P:=by
 obtain⟨S,e,r⟩:=h
 exact⟨S,s _ _ e,fun c hc=>let ⟨o,e1,e2⟩:=r c hc;⟨o,s _ _ e1,e2⟩⟩
theorem pQ{f:eG}(h:unl f H b=some o):f b=none/\H b=some o:=by
 cases e:f b with
 |none=>rw[cZ e]at h;exact⟨rfl,h⟩
 |some ob=>rw[kG e]at h;cases h
theorem wS{f:eG}(h:∀b o,f b=some o->H b=none):unl f (cM f H)=H:=by
 funext b
 cases e:f b with
 |none=>rw[cZ e,dO e]
 |some ob=>rw[kG e,h b ob e]
theorem mE(s:cL H H')(h:fY q params body ai clos H fa):fY q params body ai clos H' fa:=by
 obtain⟨pm,c,ctv,o,e1,e2,e3⟩:=h
 exact⟨pm,c,ctv,o,s _ _ e1,s _ _ e2,e3⟩
def mT(f:eG)(LL:Hp->Prop)(J:Option GT->Hp->Prop)(o:Option GT)(H:Hp):Prop:=LL H/\(∀b ob,f b=some ob->H b=some (Fz ob))/\J o (unl f H)
theorem mT.st{f:eG}{W:List Addr}(S:gG J W M)(sl:∀H H',cL H H'->LL H->LL H'):gG (mT f LL J) W M where
 there:=fun o H h b mb z=>S.there _ _ h.2.2 b mb (by
  cases e:f b with
  |none=>rw[cZ e];exact z
  |some ob=>exact kG e)
 stay:=fun o H H' k kz kt h=>⟨sl _ _ kz h.1,fun b ob e=>kz _ _ (h.2.1 b ob e),S.stay _ _ _ (fun b ob mb e=>by
  obtain⟨e1,e2⟩:=pQ e
  rw[cZ e1]
  exact k _ _ mb e2) (fun b u e=>by
  obtain⟨e1,e2⟩:=pQ e
  rw[cZ e1]
  exact kz _ _ e2) (fun x ob hx e=>by
  obtain⟨e1,e2⟩:=pQ e
  rw[cZ e1]
  exact kt _ _ hx e2) h.2.2⟩
 mt:=fun o H h b hb=>(S.mt o _ h.2.2 b hb).imp (fun⟨k,e⟩=>⟨k,(pQ e).2⟩) (fun⟨C,dx,fs,e⟩=>⟨C,dx,fs,(pQ e).2⟩)
section
variable{k:Nat}{f:eG}
theorem a3H{W:List Addr}(S:gG J W M)(sl:∀H H',cL H H'->LL H->LL H'){o o':Option GT}(h:mT f LL J o H)(fr:∀b ob,f b=some ob->H' b=none)(u:eV M (unl f H) H')(j:J o' H'):eV M H (cM f H')/\mT f LL J o' (cM f H'):=by
 have f2:eV M H (cM f H'):=fun b ob n1 e=>by
  cases e2:f b with
  |none=>rw[dO e2];exact u _ _ n1 (by rw[cZ e2];exact e)
  |some ob=>rw[h.2.1 b ob e2]at e;rw[kK e2];exact e
 refine⟨f2,sl _ _ (fun b u' e=>f2 _ _ (fun hm=> ?_) e) h.1,fun b ob e=>kK e,?_⟩
 ·rcases S.mt _ _ h.2.2 b hm with⟨k,e2⟩|⟨C,dx,fs,e2⟩<;>rw[(pQ e2).2]at e<;>cases e
 ·rw[wS fr]
  exact j
def xQ(K:Fg)(Vc:aQ->Prop)(J:Option GT->Hp->Prop)(M:List Addr):List V->Hp->VK->Prop:=fun vs H Q=>∃(t c:Str) (p:Nat) (o:Option GT),vs= [.str t,.str c,.int (p:Int)] /\J o H/\Vc (t,c,p)/\(∀τ,o=some τ->∃k,τ= .look (t,c,p) k)/\
 ∀H' v d,eV M H H'->Pd K H' v d->((∃k,o=some (.look (t,c,p) k)/\J (some (k d)) H')\/ (d=lO/\J none H'))->Q v H'
theorem a8D{W:List Addr}(S:gG J W M)(sl:∀H H',cL H H'->LL H->LL H')(la:∀H,LL H->fY q params body ai clos H fa)
 (F:eO P w K mg af k fa (nS fa f q params body ai clos 3 (xQ K Vc J M))):eO P w K mg af k fa (pK K Vc (mT f LL J) M):=by
 refine F.imp fun vs H Q E h=> ?_
 obtain⟨t,c,p,o,rfl,hJ,hV,hτ,qq⟩:=h
 refine⟨rfl,la _ hJ.1,hJ.2.1,t,c,p,o,rfl,hJ.2.2,hV,hτ,fun H' v d fm pd en fr=> ?_⟩
 have kt:dP H' (cM f H'):=fun x ob _ e=>by
  cases e2:f x with
  |none=>rw[dO e2];exact e
  |some ob2=>rw[fr x ob2 e2]at e;cases e
 rcases en with⟨kk,e1,j⟩|⟨rfl,j⟩
 ·obtain⟨f2,j2⟩:=a3H S sl hJ fr fm j
  exact qq _ v d f2 (pd.keep kt) (.inl ⟨kk,e1,j2⟩)
 ·obtain⟨f2,j2⟩:=a3H S sl hJ fr fm j
  exact qq _ v _ f2 (pd.keep kt) (.inr ⟨rfl,j2⟩)
def a0t(J:Option GT->Hp->Prop)(mv:Str->Nat->Prop):List V->Hp->VK->Prop:=fun vs H Q=>∃(t:Str) (m:Nat) (o:Option GT),vs= [.str t] /\mv t m/\J o H/\∀H',aH H H'->Q (.int (m:Int)) H'
theorem a6l{mv:Str->Nat->Prop}(la:∀H,LL H->fY q params body ai clos H fa)
 (F:eO P w K mg af k fa (nS fa f q params body ai clos 1 (a0t J mv))):eO P w K mg af k fa (vL (mT f LL J) mv):=by
 refine F.imp fun vs H Q E h=> ?_
 obtain⟨t,m,o,rfl,hm,hJ,qq⟩:=h
 refine⟨rfl,la _ hJ.1,hJ.2.1,t,m,o,rfl,hm,hJ.2.2,fun H' s' fr=> ?_⟩
 refine qq _ (fun b ob e=> ?_)
 cases e2:f b with
 |none=>rw[dO e2];exact s' b ob (by rw[cZ e2];exact e)
 |some ob=>rw[hJ.2.1 b ob e2]at e;rw[kK e2];exact e
end
theorem a4F{k:Nat}{q':Str}{params':Arguments}{body':Expr}{scope':Scope}{clos':List (Str×Addr)}{lm:Addr}{f:eG}{W:List Addr}{mv:Str->Nat->Prop}{o:Option GT}(S:gG J W M)(free:∀b ob,f b=some ob->H b=none)(hJ:J o H)(lA:fY q params body ai clos H la)(lB:fY q' params' body' scope' clos' H lm)
 (F1:eO P w K mg af k la (nS la f q params body ai clos 3 (xQ K Vc J M)))(F2:eO P w K mg af k lm (nS lm f q' params' body' scope' clos' 1 (a0t J mv))):
 ∃J',J' o (cM f H)/\gG J' W M/\(∀o1 H1,J' o1 H1->(∀b ob,f b=some ob->H1 b=some (Fz ob))/\J o1 (unl f H1))/\eO P w K mg af k la (pK K Vc J' M)/\eO P w K mg af k lm (vL J' mv):=by
 have st:∀H H':Hp,cL H H'->(fY q params body ai clos H la/\fY q' params' body' scope' clos' H lm)->fY q params body ai clos H' la/\fY q' params' body' scope' clos' H' lm:=fun H H' s h=>⟨mE s h.1,mE s h.2⟩
 have kz:cL H (cM f H):=fun b u e=>by
  cases e2:f b with
  |none=>rw[dO e2];exact e
  |some ob=>rw[free b ob e2]at e;cases e
 refine⟨mT f (fun H=>fY q params body ai clos H la/\fY q' params' body' scope' clos' H lm) J,⟨st _ _ kz ⟨lA,lB⟩,fun b ob e=>kK e,?_⟩,mT.st S st,fun o1 H1 h=>h.2,a8D S st (fun H h=>h.1) F1,a6l (fun H h=>h.2) F2⟩
 rw[wS free]
 exact hJ
abbrev mX:Str:=("Finder.gathered":Str)++ ".<locals>." ++ "<lambda>"
section
inductive xX(P:Program)(w:World)(K:Fg)(mg:Str->Option Value)(af:Heap)(CR CF CB CT zt:Addr)(RG:Addr->Sp->Prop)(vs:List V)(H:Hp)(Q:VK)(E:XK):Prop
 |mk (X:jG) (W ft:List Addr) (gr dx CG:Addr) (spg:Sp) (fs:List (Str×V)) (nm c:Str) (B:BM) (p:Nat):vs= [.ref X.fi,.ref X.tr,.str nm,.str c,.int (p:Int)] ->JT K CR CF CB CT X (some X.t0) H->X.tl≠X.fd->vY X.tabs X.Ks X.gv X.Vc->uQ X W->zt∉W->(nm,B)∈X.tabs->aF B.rus (.inr c:aB)=some (.ref gr)->H gr=some (.ins CG dx fs)->gr≠X.tr->RG CG spg->fs.lookup ("gather":Str)=none->iL mX H zt->zt∉ft->mN P w K mg af spg gr ft X.tabs X.Vc nm c p X.t0 H->(∀H' fv tf,(∀b o,b≠X.fd->b≠X.tl->b≠X.tr->b≠zt->H b=some o->H' b=some o)->iL mX H' zt->oX K H H' fv tf->(JT K CR CF CB CT X (some (.done tf)) H'\/ JT K CR CF CB CT X none H')->Q fv H')->xX P w K mg af CR CF CB CT zt RG vs H Q E
abbrev lI:List Str:=["self","trial","table","column","place"]
theorem a8M:bD lI lI (aO iB):={}
theorem a5d(T:bF K mg){CR:Addr}(R:mV K mg CR)(Y:fC K mg CF)(Wb:dG K mg CB)(Z:dZ K mg CT){z:Addr×Addr}(B2:kF K mg "Finder" "gathered" "Finder.gathered" iB z)(M:kC mg af z.1 z.2)(hRG:∀C sp,RG C sp->cI K C/\aS P w K mg af aE 8 C "gather" ["self","look","many","table","column","place"] sp):aS P w K mg af aE 9 CF "gathered" lI (xX P w K mg af CR CF CB CT z.2 RG):=by
 obtain⟨pU,hpU,hU⟩:=T.g_UNKNOWN
 have G_look:aS P w K mg af aE 5 CR "look" ["self","table","column","place"] (sP CR CF CB CT pU):=a5G T hpU R Y Wb Z
 have G_many:aS P w K mg af aE 1 CT "many" ["self"] (lF CT):=mP T Z
 refine B2.known Y.c a8M (fun _ _ _ _ _ _ us hl=>qV (fun _ _ _ _ _=>rfl) us hl) (fun vs H Q E h=> ?_) (fun f A ag s H vs Q E hr h=> ?_)
 ·obtain⟨X,W,ft,gr,dx,CG,spg,fs,nm,c,B,p,rfl,_⟩:=h
  rfl
 ·obtain⟨X,W,ft,gr,dx,CG,spg,fs,nm,c,B,p,rfl,hJ,netl,O,wof,nzW,hB,hru,hgr,ngt,hG,hno,tb,nft,use,q⟩:=h
  have S:=JT.st (K:=K) (CR:=CR) (CF:=CF) (CB:=CB) (CT:=CT) wof
  have hu:=dQ hr
  have hcl:∀x,(eJ aE P w K mg af lI "Finder.gathered" (aO iB) f (.ref z.1) A ag s H E).nox.env.scope.names.lookup x=some .cell->∃c,(eJ aE P w K mg af lI "Finder.gathered" (aO iB) f (.ref z.1) A ag s H E).nox.env.cells.lookup x=some c:=fun x hx=>Option.isSome_iff_exists.mp (PySem.W.cellsFrom_some _ _ _ (.inl hx))
  refine⟨_,(aL (bL (a57 (fQ hu (aW (fQ hu (aW (pv 0) rfl) (pv 2) (fun _ _=>rfl)) rfl) (pv 3) (fun _ _=>rfl)) hRG hr (aA (yA M rfl (mF (sc:=aO iB) (N:=lI) (cp:=[(1,"trial")]) hcl).clos rfl) (aA (yA M rfl (mF (sc:=aO iB) (N:=lI) (cp:=[(0,"self")]) hcl).clos rfl) (aA (pv 2) (aA (pv 3) (aA (pv 4) aG)))))))),?_⟩
  obtain⟨kf,F0,e0,r1,r2,r3⟩:=hJ.kf
  have F:=F0 _ hB
  obtain⟨d0,e1⟩:=F.fin
  obtain⟨kb,e2,e3⟩:=F.bds
  obtain⟨⟨d1,b1⟩,_,b5,_,_⟩:=id F.B
  refine⟨_,rfl,X.fi,CF,d0,_,_,rfl,e1,Y.cl,Y.n_boards,(iX _ _ _).1,_,rfl,X.bd,_,rfl,e3▸bW.k (k:=Sum.inr nm) e2,B.b,CB,d1,_,_,rfl,b1,Wb.cl,Wb.n_rules,(dL _ _ _ _).2.1,_,rfl,B.ru,_,rfl,hru▸bW.k (k:=Sum.inr c) b5,CG,spg,gr,dx,_,hG,rfl,hgr,hno,tb,fun la HA hla sA tA lA=>⟨tA,fun lm HB hlm sB tB lB=>⟨_,rfl,_,rfl,_,rfl,fun f' Ln=> ?_⟩⟩⟩
  obtain⟨S0,t0,_⟩:=id tb
  have uB:a3l z.2 H HB:=fun b o n e=>sB b o n (sA b o n e)
  have nz:∀{b:Addr} {o:HO},H b=some o->(∀φ,o≠ .ext φ)->b≠z.2:=fun e n y=>by rw[y,t0]at e;exact n _ (Option.some.inj e).symm
  obtain⟨SA,tA0,_⟩:=id tA
  have kzAB:cL HA HB:=fun b u e=>sB _ _ (fun y=>by rw[y,tA0]at e;cases e) e
  have kzB:cL H HB:=fun b u e=>uB _ _ (nz e (fun φ y=>by cases y)) e
  have ktB:dP H HB:=fun b u hx e=>uB _ _ (nz e (fun φ y=>by obtain⟨xs,rfl|⟨q,rfl⟩⟩:=hx<;>cases y)) e
  have JB:JT K CR CF CB CT X (some X.t0) HB:=S.stay _ _ _ (fun b o mb e=>uB _ _ (fun y=>nzW (y▸mb)) e) kzB ktB hJ
  have F1:=xU (sc:=aO iB) (N:=lI) (ps:=["theirs","name","row"]) (cp:=[(1,"trial")]) (cv:=[.ref X.tr]) (k:=5) (spB:=xQ K X.Vc (JT K CR CF CB CT X) [X.fd,X.tl,X.tr]) (mE kzAB lA) Ln hcl rfl (fun _ _ _ _ us hl=>iN (fun _ _ _=>rfl) us hl) (fun cd A' outer' s' H' vs Q' hr' h'=>by
   obtain⟨t',c',p',o',rfl,hJ',hV',hτ',q'⟩:=h'
   refine⟨_,(cB (pv 3) R.cl G_look hr' aR (aA (pv 0) (aA (pv 1) (aA (pv 2) aG)))),?_⟩
   obtain⟨kt',t2,t3,trO⟩:=hJ'.tl
   obtain⟨d3,u,t1⟩:=trO.tr
   exact⟨_,rfl,X.tr,d3,_,rfl,t1,(pY _ _ _).2.2.2,_,rfl,_,rfl,_,rfl,JT.look hU wof netl O hJ' hV' hτ' q'⟩)
  have F2:=xU (sc:=aO iB) (N:=lI) (ps:=["theirs"]) (cp:=[(0,"self")]) (cv:=[.ref X.fi]) (k:=5) (spB:=a0t (JT K CR CF CB CT X) (mvX X.tabs)) lB Ln hcl rfl (fun _ _ _ _ us hl=>fL (fun _=>rfl) us hl) (fun cd A' outer' s' H' vs Q' hr' h'=>by
   obtain⟨t',m',o',rfl,⟨B',hB',rfl⟩,hJ',q'⟩:=h'
   refine⟨_,(lM (aW (fQ (dQ hr') (aW (pv 1) rfl) (pv 0) (fun _ _=>rfl)) rfl) Z.cl G_many (hr'.mono (by decide)) aR),?_⟩
   obtain⟨kf',F0',_⟩:=hJ'.kf
   have F':=F0' _ hB'
   obtain⟨d0',e1'⟩:=F'.fin
   obtain⟨kb',e2',e3'⟩:=F'.bds
   obtain⟨⟨d1',b1'⟩,tb',_,_,_⟩:=id F'.B
   obtain⟨⟨d2',b2'⟩,_,_⟩:=id tb'
   exact⟨_,rfl,X.fi,CF,d0',_,_,rfl,e1',Y.cl,Y.n_boards,(iX _ _ _).1,_,rfl,X.bd,_,rfl,e3'▸bW.k (k:=Sum.inr t') e2',B'.b,CB,d1',_,_,rfl,b1',Wb.cl,Wb.n_given,(dL _ _ _ _).1,B'.g,d2',_,rfl,b2',gU,B'.g,B'.r,B'.e,B'.xs,B'.n,B'.kvs,rfl,tb',q' _ (aH.refl _)⟩)
  obtain⟨J',j1,S',j2,L1,L2⟩:=a4F S Ln.free JB (mE kzAB lA) lB F1 F2
  have nofL:∀b o,HB b=some o->f' b=none:=fun b o e=>by
   cases e2:f' b with
   |none=>rfl
   |some ob=>rw[Ln.free b ob e2]at e;cases e
  have sL:aH HB (cM f' HB):=fun b o e=>by rw[dO (nofL b o e)];exact e
  have ngM:gr∉ [X.fd,X.tl,X.tr]:=fun hm=>by
   simp only[List.mem_cons,List.not_mem_nil,or_false]at hm
   obtain⟨kt',t2,_⟩:=hJ.tl
   rcases hm with h|h|h
   ·rw[h,e0]at hgr;cases hgr
   ·rw[h,t2]at hgr;cases hgr
   ·exact ngt h
  refine use la lm J' W [X.fd,X.tl,X.tr] (cM f' HB) _ (fun b hb o e=>sL _ _ (uB _ _ (fun y=>nft (y▸hb)) e)) ngM j1 S' L1 L2 fun H' fv tf fr told J2=> ?_
  have lf:∀b ob,f' b=some ob->H' b=some (Fz ob):=J2.elim (fun h=>(j2 _ _ h).1) (fun h=>(j2 _ _ h).1)
  have JJ:JT K CR CF CB CT X (some (.done tf)) (unl f' H')\/ JT K CR CF CB CT X none (unl f' H'):=J2.imp (fun h=>(j2 _ _ h).2) (fun h=>(j2 _ _ h).2)
  have KN:∀{b:Addr} {o:HO},(∀u,o≠Fz u)->H' b=some o->unl f' H' b=some o:=fun{b o} n e=>by
   cases e2:f' b with
   |none=>rw[cZ e2];exact e
   |some ob=>rw[lf b ob e2]at e;exact absurd (Option.some.inj e).symm (n ob)
  have up:∀{b:Addr} {o:HO},b∉ [X.fd,X.tl,X.tr] ->HB b=some o->unl f' H' b=some o:=fun{b o} n1 e=>by
   rw[cZ (nofL b o e)]
   exact fr _ _ n1 (sL _ _ e)
  refine q _ fv tf (fun b o n1 n2 n3 n4 e=>up (by simp only[List.mem_cons,List.not_mem_nil,or_false,not_or];exact⟨n1,n2,n3⟩) (uB _ _ n4 e)) ?_ ?_ JJ
  ·obtain⟨SB,tB0,tB1⟩:=tB
   refine⟨SB,up (S.out JB tB0 nk (fun _ _ _ y=>by cases y)) tB0,fun c' hc'=> ?_⟩
   obtain⟨o,o1,o2⟩:=tB1 c' hc'
   exact⟨o,up (S.out JB o1 nk (fun _ _ _ y=>by cases y)) o1,o2⟩
  ·have ktu:dP H' (unl f' H'):=fun a o hx e=>KN (fun u y=>by obtain⟨xs,rfl|⟨q,rfl⟩⟩:=hx<;>(unfold Fz at y;cases y)) e
   cases tf with
   |inl d=>
    obtain⟨a,v,r1',r2',r3'⟩:=told
    exact⟨a,v,r1',ktu.t _ _ r2',r3'.keep ktu⟩
   |inr is=>
    obtain⟨a,l,r1',r2',r3',r4'⟩:=told
    refine⟨a,l,r1',ktu.t _ _ r2',KN (fun u y=>by cases y) r3',?_⟩
    cases e:H l with
    |none=>rfl
    |some o=>
     exfalso
     by_cases y:l=z.2
     ·rw[y]at r4'
      obtain⟨SB,tB0,_⟩:=tB
      rw[sL _ _ tB0]at r4'
      cases r4'
     ·rw[sL _ _ (uB _ _ y e)]at r4'
      cases r4'
end
structure RD where
 gr:Addr
 fa:Addr
 mc:Addr
 CG:Addr
 fs:List (Str×V)
 ft:List Addr
 mrk:Option V
 g:List Int->PyData
 ok:List Int->Prop
 spg:Sp
structure SX where
 fi:Addr
 bd:Addr
 fd:Addr
 lk:Addr
 tabs:List (Str×BM)
 Ks:List Ky
 gv:Str->Str->Option (List V)
 Vc:aQ->Prop
 val:aQ->PyData
 rl:Str->Str->Option RD
 tree:aQ->GT
 rk:aQ->Nat
 Rs:List aQ
 num:Str->Nat->Nat
 bnd:Nat
 ca:Option Addr
 fx:List Addr
 abn:Str->Nat->Prop
 wa:Str->Str->Nat->Option (List Int×V)
def uZ(g:List Int->PyData):PyData ⊕ List Int->PyData
 | .inl d=>d
 | .inr is=>fK (g is)
structure gK(X:SX):Prop where
 o:vY X.tabs X.Ks X.gv X.Vc
 un:∀t B B',(t,B)∈X.tabs->(t,B')∈X.tabs->B=B'
 rr:∀x,X.Vc x->X.gv x.1 x.2.1=none->∃R,X.rl x.1 x.2.1=some R
 ru:∀t c R B,X.rl t c=some R->(t,B)∈X.tabs->aF B.rus (.inr c:aB)=some (.ref R.gr)/\aF B.mes (.inr c:aB)=some (.ref R.mc)
 no:∀t c R,X.rl t c=some R->X.gv t c=none
 rf:∀t c R,X.rl t c=some R->RF R.fs R.fa/\R.fs.lookup ("gather":Str)=none
 gg:∀t c R,X.rl t c=some R->∀is,R.ok is->jS (R.g is)/\Vd (fK (R.g is))
 ft:∀t c R,X.rl t c=some R->R.gr∈R.ft/\∀b∈R.ft,X.ca≠some b
 mb:∀t c R,X.rl t c=some R->R.mc≠X.bd
 mm:∀t c R,X.rl t c=some R->∀tb∈X.tabs,R.mc≠tb.2.e/\R.mc≠tb.2.ru/\R.mc≠tb.2.me
 md:∀t c R t' c' R',X.rl t c=some R->X.rl t' c'=some R'->R.mc=R'.mc->t=t'/\c=c'
 cc:∀tb∈X.tabs,X.ca≠some tb.2.r/\X.ca≠some tb.2.od
 cl:∀t c ys B l,X.gv t c=some ys->(t,B)∈X.tabs->aF B.kvs (.inr c:aB)=some (.ref l)->X.ca≠some l
 fl:X.fd≠X.lk
 nu:∀t B p,(t,B)∈X.tabs->p<B.xs.length->cQ B.xs (p:Int)=some (.int ((X.num t p:Nat):Int))/\X.num t p<X.bnd
 ni:∀t B p p',(t,B)∈X.tabs->p<B.xs.length->p'<B.xs.length->X.num t p=X.num t p'->p=p'
 b8:X.bnd<=85
 ab:∀t B p j,(t,B)∈X.tabs->p<B.xs.length->X.abn t j->X.num t p≠j
 cf:∀a,X.ca=some a->a∈X.fx
 rs:∀x,X.Vc x->X.gv x.1 x.2.1=none->x∈X.Rs
 rs':∀x∈X.Rs,X.gv x.1 x.2.1=none
 rn:X.Rs.Nodup
 sem:∀x R,X.Vc x->X.rl x.1 x.2.1=some R->X.val x=uZ R.g ((X.tree x).run X.val)
 lks:∀x R,X.Vc x->X.rl x.1 x.2.1=some R->∀y∈(X.tree x).looks X.val,X.Vc y/\(X.gv y.1 y.2.1=none->X.rk y<X.rk x)
 oks:∀x R,X.Vc x->X.rl x.1 x.2.1=some R->∀is,(X.tree x).run X.val= .inr is->R.ok is/\is.length<=100
theorem gK.B{X:SX}(O:gK X){x:aQ}(h:X.Vc x):∃B,(x.1,B)∈X.tabs/\x.2.2<B.xs.length:=by
 obtain⟨_,B,h1,h2,_⟩:=O.o.v x h
 exact⟨B,h1,h2⟩
def jW(n:Nat)(mk:List (aB×V)):Prop:=(mk.map (·.1)).Nodup/\∀k∈mk.map (·.1),∃j:Nat,k=(.inl (j:Int):aB)/\j<n
theorem jW.len{n:Nat}(h:jW n mk):mk.length<=n:=by
 have h2:=uE (m:=(List.range n).map fun j:Nat=>(.inl (j:Int):aB)) h.1 (fun x hx=>by
  obtain⟨j,rfl,hj⟩:=h.2 x hx
  exact List.mem_map.mpr ⟨j,List.mem_range.mpr hj,rfl⟩)
 rw[List.length_map,List.length_map,List.length_range]at h2
 exact h2
theorem jW.nil{n:Nat}:jW n []:=⟨List.nodup_nil,fun k hk=>by cases hk⟩
theorem a6W{κ:Type} [DecidableEq κ]{kvs:List (κ×V)}{k:κ}{v x:V}(h:aF kvs k=some x):(aU kvs k v).map (·.1)=kvs.map (·.1):=by
 unfold aU
 rw[mH,h,if_pos (show(some x).isSome=true from rfl),List.map_map]
 refine List.map_congr_left fun p _=> ?_
 show(if p.1=k then _ else _:κ×V).1=p.1
 split<;>rfl
theorem jW.put{n:Nat}{v:V}(h:jW n mk)(hj:j<n):jW n (aU mk (.inl (j:Int):aB) v):=by
 cases e:aF mk (.inl (j:Int):aB)with
 |some x=>
  have:(aU mk (.inl (j:Int):aB) v).map (·.1)=mk.map (·.1):=a6W e
  exact⟨by rw[this];exact h.1,fun k hk=>h.2 k (by rw[<- this];exact hk)⟩
 |none=>
  refine⟨a2u v h.1 e,fun k hk=> ?_⟩
  rw[yB v e,List.map_append]at hk
  rcases List.mem_append.mp hk with hk|hk
  ·exact h.2 k hk
  ·rw[List.map_cons,List.map_nil,List.mem_singleton]at hk
   exact⟨j,hk,hj⟩
def iC(fx:List Addr)(H:Hp)(mk:List (aB×V))(n:Int):Option (List Int×V)->Prop
 |none=>aF mk (.inl n:aB)=none
 |some jv=>∃tp lo,aF mk (.inl n:aB)=some (.ref tp)/\H tp=some (.tup [.ref lo,jv.2])/\H lo=some (.lst (jv.1.map V.int))/\lo∉fx
theorem iC.mv{fx:List Addr}{mk':List (aB×V)}{n:Int}(e:aF mk' (.inl n:aB)=aF mk (.inl n:aB))(k:bS H H')(u:∀b ys,b∉fx->H b=some (.lst ys)->H' b=some (.lst ys)):∀{wo:Option (List Int×V)},iC fx H mk n wo->iC fx H' mk' n wo
 |none,h=>by show aF mk' _=none;rw[e];exact h
 |some jv,⟨tp,lo,a,b,c,d⟩=>⟨tp,lo,by rw[e];exact a,k _ _ b,u _ _ d c,d⟩
def mI(fx:List Addr)(H:Hp)(v:V)(n:Option V×List Int):Prop:=∃lc,qN H n.1 n.2 v lc/\lc∉fx
theorem mI.mv{fx:List Addr}{v:V}{n:Option V×List Int}(k:bS H H')(u:∀b ys,b∉fx->H b=some (.lst ys)->H' b=some (.lst ys))(h:mI fx H v n):mI fx H' v n:=by
 obtain⟨lc,h1,h2⟩:=h
 exact⟨lc,h1.mv k (u _ _ h2 h1.1),h2⟩
section
structure SB(P:Program)(w:World)(K:Fg)(mg:Str->Option Value)(af:Heap)(RG:Addr->Sp->Prop)(CF CB CT zt:Addr)(X:SX)(kf kl:List (Ky×V))(mem:Str->Str->List (aB×V))(wo:aQ->Option (List Int×V))(cs:List V)(ns:List (Option V×List Int))(H:Hp):Prop where
 F:∀tb∈X.tabs,dU CF CB CT H X.fi X.bd X.fd X.lk tb.1 tb.2 kf
 fd:H X.fd=some (.dT kf)
 ko:eF X.Ks kf
 fo:∀t c p v ys,X.gv t c=some ys->aF kf (bI t c p)=some v->cQ ys (p:Int)=some v
 fp:∀x v,X.Vc x->X.gv x.1 x.2.1=none->aF kf (cK x)=some v->Pd K H v (X.val x)/\∀is,(X.tree x).run X.val= .inr is->wo x=some (is,v)
 lp:∀x v,X.Vc x->X.gv x.1 x.2.1=none->aF kf (cK x)=some v->∃tl kt,aF kl (cK x)=some (.ref tl)/\H tl=some (.dT kt)/\tl≠X.fd/\tl≠X.lk/\eF X.Ks kt/\∀y,(aF kt (cK y)).isSome=true↔y∈(X.tree x).looks X.val
 ln:∀x,X.Vc x->X.gv x.1 x.2.1=none->aF kf (cK x)=none->aF kl (cK x)=none
 cz:∀x v,X.Vc x->X.gv x.1 x.2.1=none->aF kf (cK x)=some v->∀y∈(X.tree x).looks X.val,X.gv y.1 y.2.1=none->(aF kf (cK y)).isSome=true
 hl:H X.lk=some (.dT kl)
 lo:eF X.Ks kl
 cols:∀t c ys B,X.gv t c=some ys->(t,B)∈X.tabs->∃l,aF B.kvs (.inr c:aB)=some (.ref l)/\H l=some (.lst ys)
 cd:∀t c ys (p:Nat) v,X.gv t c=some ys->cQ ys (p:Int)=some v->Pd K H v (X.val (t,c,p))
 rg:∀t c R,X.rl t c=some R->(∃dx,H R.gr=some (.ins R.CG dx R.fs))/\RG R.CG R.spg/\qO K R.CG
 rm:∀t c R,X.rl t c=some R->H R.mc=some (.dK (mem t c))/\jW X.bnd (mem t c)
 rt:∀t c R,X.rl t c=some R->∀b∈R.ft,∃o,H b=some o/\(∀y,o≠ .dT y)/\(∀y,o≠ .dK y)/\(∀y,o≠ .ext y)/\∀u,o≠Fz u
 ra:∀t c R,X.rl t c=some R->∀p,X.Vc (t,c,p)->mN P w K mg af R.spg R.gr R.ft X.tabs X.Vc t c p (X.tree (t,c,p)) H
 me:∀x R,X.Vc x->X.rl x.1 x.2.1=some R->iC X.fx H (mem x.1 x.2.1) (X.num x.1 x.2.2:Int) (wo x)/\∀is v,wo x=some (is,v)->Pd K H v (fK (R.g is))
 ab:∀t c R j,X.rl t c=some R->X.abn t j->iC X.fx H (mem t c) (j:Int) (X.wa t c j)/\∀is v,X.wa t c j=some (is,v)->Pd K H v (fK (R.g is))
 ca:fF X.ca cs H
 nt:X.ca≠none->Paired (mI X.fx H) cs ns
 fx:∀b∈X.fx,H b≠none
 tb:iL mX H zt
def jQ(P:Program)(w:World)(K:Fg)(mg:Str->Option Value)(af:Heap)(X:SX)(H:Hp):Prop:=∀t c R,X.rl t c=some R->lR P w K mg af 4 H R.fa X.ca R.mrk R.g R.ok
theorem jQ.keep{X:SX}(k:cL H H')(h:jQ P w K mg af X H):jQ P w K mg af X H':=fun t c R e=>(h t c R e).keep k
variable{X:SX}{mem:Str->Str->List (aB×V)}
def bV(X:SX)(zt:Addr)(H H':Hp):Prop:=∀b o,b≠X.fd->b≠X.lk->b≠zt->X.ca≠some b->(∀t c R,X.rl t c=some R->b≠R.mc)->H b=some o->H' b=some o
theorem bV.of(s:aH H H'):bV X zt H H':=fun b o _ _ _ _ _ e=>s _ _ e
theorem bV.trans(a:bV X zt H H1)(b:bV X zt H1 H2):bV X zt H H2:=fun x o n1 n2 n3 n4 n5 e=>b x o n1 n2 n3 n4 n5 (a x o n1 n2 n3 n4 n5 e)
theorem SB.k(S:SB P w K mg af RG CF CB CT zt X kf kl mem wo cs ns H)(f:bV X zt H H')(e:H b=some o)(n1:∀y,o≠ .dT y)(n2:∀y,o≠ .dK y)(n3:∀y,o≠ .ext y)(n4:X.ca≠some b):H' b=some o:=by
 obtain⟨Sz,tz,_⟩:=S.tb
 exact f b o (fun y=>by rw[y,S.fd]at e;exact n1 _ (Option.some.inj e).symm) (fun y=>by rw[y,S.hl]at e;exact n1 _ (Option.some.inj e).symm) (fun y=>by rw[y,tz]at e;exact n3 _ (Option.some.inj e).symm) n4 (fun t c R hR y=>by rw[y,(S.rm t c R hR).1]at e;exact n2 _ (Option.some.inj e).symm) e
theorem SB.nl(S:SB P w K mg af RG CF CB CT zt X kf kl mem wo cs ns H)(e:H b=some o)(n:∀y,o≠ .lst y):X.ca≠some b:=S.ca.ne e n
theorem SB.ktt(S:SB P w K mg af RG CF CB CT zt X kf kl mem wo cs ns H)(f:bV X zt H H'):dP H H':=fun x o hx e=>S.k f e (fun y z=>by obtain⟨xs,rfl|⟨q,rfl⟩⟩:=hx<;>cases z) (fun y z=>by obtain⟨xs,rfl|⟨q,rfl⟩⟩:=hx<;>cases z) (fun y z=>by obtain⟨xs,rfl|⟨q,rfl⟩⟩:=hx<;>cases z) (S.nl e (fun y z=>by obtain⟨xs,rfl|⟨q,rfl⟩⟩:=hx<;>cases z))
theorem SB.kz(S:SB P w K mg af RG CF CB CT zt X kf kl mem wo cs ns H)(f:bV X zt H H'):cL H H':=fun x u e=>S.k f e (fun y z=>by cases z) (fun y z=>by cases z) (fun y z=>by cases z) (S.nl e (fun y z=>by cases z))
theorem SB.kl'(S:SB P w K mg af RG CF CB CT zt X kf kl mem wo cs ns H)(O:gK X)(f:bV X zt H H'):∀b ys,b∉X.fx->H b=some (.lst ys)->H' b=some (.lst ys):=fun b ys n e=>S.k f e (fun y z=>by cases z) (fun y z=>by cases z) (fun y z=>by cases z) (fun y=>n (O.cf b y))
theorem SB.to(S:SB P w K mg af RG CF CB CT zt X kf kl mem wo cs ns H)(O:gK X)(f:bV X zt H H'){kl':List (Ky×V)}{mem':Str->Str->List (aB×V)}
 (hfd:H' X.fd=some (.dT kf'))(ko:eF X.Ks kf')(fo:∀t c p v ys,X.gv t c=some ys->aF kf' (bI t c p)=some v->cQ ys (p:Int)=some v)
 (fp:∀x v,X.Vc x->X.gv x.1 x.2.1=none->aF kf' (cK x)=some v->Pd K H' v (X.val x)/\∀is,(X.tree x).run X.val= .inr is->wo' x=some (is,v))
 (lp:∀x v,X.Vc x->X.gv x.1 x.2.1=none->aF kf' (cK x)=some v->∃tl kt,aF kl' (cK x)=some (.ref tl)/\H' tl=some (.dT kt)/\tl≠X.fd/\tl≠X.lk/\eF X.Ks kt/\∀y,(aF kt (cK y)).isSome=true↔y∈(X.tree x).looks X.val)
 (ln:∀x,X.Vc x->X.gv x.1 x.2.1=none->aF kf' (cK x)=none->aF kl' (cK x)=none)
 (cz:∀x v,X.Vc x->X.gv x.1 x.2.1=none->aF kf' (cK x)=some v->∀y∈(X.tree x).looks X.val,X.gv y.1 y.2.1=none->(aF kf' (cK y)).isSome=true)
 (hl:H' X.lk=some (.dT kl'))(lo:eF X.Ks kl')(rm:∀t c R,X.rl t c=some R->H' R.mc=some (.dK (mem' t c))/\jW X.bnd (mem' t c))
 (me:∀x R,X.Vc x->X.rl x.1 x.2.1=some R->iC X.fx H' (mem' x.1 x.2.1) (X.num x.1 x.2.2:Int) (wo' x)/\∀is v,wo' x=some (is,v)->Pd K H' v (fK (R.g is)))
 (ab:∀t c R j,X.rl t c=some R->X.abn t j->iC X.fx H' (mem' t c) (j:Int) (X.wa t c j)/\∀is v,X.wa t c j=some (is,v)->Pd K H' v (fK (R.g is)))
 (ca:fF X.ca cs' H')(nt:X.ca≠none->Paired (mI X.fx H') cs' ns')(tb:iL mX H' zt):SB P w K mg af RG CF CB CT zt X kf' kl' mem' wo' cs' ns' H':=by
 have kt:=S.ktt f
 have l8:=ko.len
 have k8:=O.o.k8
 have kd:∀{b:Addr} {y:List (aB×V)},H b=some (.dK y)->(∀t c R,X.rl t c=some R->b≠R.mc)->H' b=some (.dK y):=fun{b y} e n=>by
  obtain⟨Sz,tz,_⟩:=S.tb
  exact f b _ (fun y=>by rw[y,S.fd]at e;cases e) (fun y=>by rw[y,S.hl]at e;cases e) (fun y=>by rw[y,tz]at e;cases e) (S.nl e (fun _ z=>by cases z)) n e
 have ki:∀{b C dx:Addr} {fs:List (Str×V)},H b=some (.ins C dx fs)->H' b=some (.ins C dx fs):=fun e=>S.k f e (fun _ z=>by cases z) (fun _ z=>by cases z) (fun _ z=>by cases z) (S.nl e (fun _ z=>by cases z))
 have kls:∀{b:Addr} {xs:List V},H b=some (.lst xs)->X.ca≠some b->H' b=some (.lst xs):=fun e n=>S.k f e (fun _ z=>by cases z) (fun _ z=>by cases z) (fun _ z=>by cases z) n
 refine⟨fun tb htb=> ?_,hfd,ko,fo,fp,lp,ln,cz,hl,lo,fun t c ys B g h=> ?_,fun t c ys p v a b=>(S.cd t c ys p v a b).keep kt,fun t c R hR=> ?_,rm,fun t c R hR b hb=> ?_,fun t c R hR p hp=> ?_,me,ab,ca,nt,fun b hb y=> ?_,tb⟩
 ·obtain⟨d0,e1⟩:=(S.F tb htb).fin
  obtain⟨kb,e2,e3⟩:=(S.F tb htb).bds
  obtain⟨⟨d1,b1⟩,⟨⟨d2,b2⟩,b3,b4⟩,b5,b6,b7⟩:=(S.F tb htb).B
  exact⟨⟨d0,ki e1⟩,⟨kb,kd e2 (fun t c R h=>(O.mb t c R h).symm),e3⟩,⟨⟨d1,ki b1⟩,⟨⟨d2,ki b2⟩,kls b3 (O.cc tb htb).1,kd b4 (fun t c R h=>(O.mm t c R h tb htb).1.symm)⟩,kd b5 (fun t c R h=>(O.mm t c R h tb htb).2.1.symm),kd b6 (fun t c R h=>(O.mm t c R h tb htb).2.2.symm),kls b7 (O.cc tb htb).2⟩,hfd,by omega⟩
 ·obtain⟨l,h1,h2⟩:=S.cols t c ys B g h
  exact⟨l,h1,kls h2 (O.cl t c ys B l g h h1)⟩
 ·obtain⟨⟨dx,e⟩,h1⟩:=S.rg t c R hR
  exact⟨⟨dx,ki e⟩,h1⟩
 ·obtain⟨o,e,n1,n2,n3,n4⟩:=S.rt t c R hR b hb
  exact⟨o,S.k f e n1 n2 n3 ((O.ft t c R hR).2 b hb),n1,n2,n3,n4⟩
 ·refine(S.ra t c R hR p hp).mv fun b hb o e=> ?_
  obtain⟨o',e',n1,n2,n3,n4⟩:=S.rt t c R hR b hb
  rw[e]at e'
  cases e'
  exact S.k f e n1 n2 n3 ((O.ft t c R hR).2 b hb)
 ·cases e:H b with
  |none=>exact S.fx b hb e
  |some o=>
   by_cases h1:b=X.fd
   ·rw[h1,hfd]at y;cases y
   ·by_cases h2:b=X.lk
    ·rw[h2,hl]at y;cases y
    ·by_cases h3:b=zt
     ·obtain⟨S',tz,_⟩:=tb
      rw[h3,tz]at y;cases y
     ·by_cases h4:X.ca=some b
      ·rw[ca.2 b h4]at y;cases y
      ·by_cases h5:∃t c R,X.rl t c=some R/\b=R.mc
       ·obtain⟨t,c,R,hR,rfl⟩:=h5
        rw[(rm t c R hR).1]at y;cases y
       ·rw[f b o h1 h2 h3 h4 (fun t c R hR z=>h5 ⟨t,c,R,hR,z⟩) e]at y
        cases y
theorem SB.mv(S:SB P w K mg af RG CF CB CT zt X kf kl mem wo cs ns H)(D:List Addr)(k1:∀b o,H b=some o->(∀y,o≠ .lst y)->(∀u,o≠Fz u)->H' b=some o)(k2:∀b ys,b∉D->H b=some (.lst ys)->H' b=some (.lst ys))(fx':∀b∈X.fx,H' b≠none)
 (d0:∀b∈D,b∈X.fx)(d1:∀b∈D,∀tb∈X.tabs,b≠tb.2.r/\b≠tb.2.od)(d2:∀b∈D,∀t c ys B,X.gv t c=some ys->(t,B)∈X.tabs->aF B.kvs (.inr c:aB)≠some (.ref b))(d3:∀b∈D,∀t c R,X.rl t c=some R->b∉R.ft)
 (ca':fF X.ca cs' H')(nt':X.ca≠none->Paired (mI X.fx H') cs' ns')(tb':iL mX H' zt):SB P w K mg af RG CF CB CT zt X kf kl mem wo cs' ns' H':=by
 have kt:dP H H':=fun x o hx e=>k1 x o e (fun y z=>by obtain⟨xs,rfl|⟨q,rfl⟩⟩:=hx<;>cases z) (fun u z=>by obtain⟨xs,rfl|⟨q,rfl⟩⟩:=hx<;>(unfold Fz at z;cases z))
 have kd:∀{b:Addr} {y:List (Ky×V)},H b=some (.dT y)->H' b=some (.dT y):=fun e=>k1 _ _ e (fun _ z=>by cases z) (fun _ z=>by cases z)
 have kd':∀{b:Addr} {y:List (aB×V)},H b=some (.dK y)->H' b=some (.dK y):=fun e=>k1 _ _ e (fun _ z=>by cases z) (fun _ z=>by cases z)
 have ki:∀{b C dx:Addr} {fs:List (Str×V)},H b=some (.ins C dx fs)->H' b=some (.ins C dx fs):=fun e=>k1 _ _ e (fun _ z=>by cases z) (fun _ z=>by cases z)
 have klf:∀b ys,b∉X.fx->H b=some (.lst ys)->H' b=some (.lst ys):=fun b ys n e=>k2 b ys (fun hd=>n (d0 b hd)) e
 have kft:∀t c R,X.rl t c=some R->∀b∈R.ft,∀o,H b=some o->H' b=some o:=fun t c R hR b hb o e=>by
  obtain⟨o',e',n1,n2,n3,n4⟩:=S.rt t c R hR b hb
  rw[e]at e'
  cases e'
  by_cases hl:∃ys,o= .lst ys
  ·obtain⟨ys,rfl⟩:=hl
   exact k2 b ys (fun hd=>d3 b hd t c R hR hb) e
  ·exact k1 b o e (fun y z=>hl ⟨y,z⟩) n4
 refine⟨fun tb htb=> ?_,kd S.fd,S.ko,S.fo,fun x v a b c=>⟨(S.fp x v a b c).1.keep kt,(S.fp x v a b c).2⟩,fun x v a b c=> ?_,S.ln,S.cz,kd S.hl,S.lo,fun t c ys B g h=> ?_,fun t c ys p v a b=>(S.cd t c ys p v a b).keep kt,fun t c R hR=> ?_,fun t c R hR=>⟨kd' (S.rm t c R hR).1,(S.rm t c R hR).2⟩,fun t c R hR b hb=> ?_,fun t c R hR p hp=>(S.ra t c R hR p hp).mv (kft t c R hR),fun x R a b=>⟨(S.me x R a b).1.mv rfl kt.t klf,fun is v e=>((S.me x R a b).2 is v e).keep kt⟩,fun t c R j a b=>⟨(S.ab t c R j a b).1.mv rfl kt.t klf,fun is v e=>((S.ab t c R j a b).2 is v e).keep kt⟩,ca',nt',fx',tb'⟩
 ·obtain⟨d0,e1⟩:=(S.F tb htb).fin
  obtain⟨kb,e2,e3⟩:=(S.F tb htb).bds
  obtain⟨⟨d1',b1⟩,⟨⟨d2',b2⟩,b3,b4⟩,b5,b6,b7⟩:=(S.F tb htb).B
  exact⟨⟨d0,ki e1⟩,⟨kb,kd' e2,e3⟩,⟨⟨d1',ki b1⟩,⟨⟨d2',ki b2⟩,k2 _ _ (fun hd=>(d1 _ hd tb htb).1 rfl) b3,kd' b4⟩,kd' b5,kd' b6,k2 _ _ (fun hd=>(d1 _ hd tb htb).2 rfl) b7⟩,kd (S.F tb htb).fnd,(S.F tb htb).len⟩
 ·obtain⟨tl,kt',h1,h2,h3⟩:=S.lp x v a b c
  exact⟨tl,kt',h1,kd h2,h3⟩
 ·obtain⟨l,h1,h2⟩:=S.cols t c ys B g h
  exact⟨l,h1,k2 _ _ (fun hd=>d2 _ hd t c ys B g h h1) h2⟩
 ·obtain⟨⟨dx,e⟩,h1⟩:=S.rg t c R hR
  exact⟨⟨dx,ki e⟩,h1⟩
 ·obtain⟨o,e,n1,n2,n3,n4⟩:=S.rt t c R hR b hb
  exact⟨o,kft t c R hR b hb o e,n1,n2,n3,n4⟩
theorem SB.same(S:SB P w K mg af RG CF CB CT zt X kf kl mem wo cs ns H)(s:aH H H'):SB P w K mg af RG CF CB CT zt X kf kl mem wo cs ns H':=
 S.mv [] (fun b o e _ _=>s _ _ e) (fun b ys _ e=>s _ _ e) (fun b hb y=>S.fx b hb (jH s y)) (fun b hb=>by cases hb) (fun b hb=>by cases hb) (fun b hb=>by cases hb) (fun b hb=>by cases hb) (S.ca.same s) (fun h=>Paired.imp (fun a b h=>h.mv (bS.of s) (fun b ys _ e=>s _ _ e)) (S.nt h)) (a3u s S.tb)
end
section
inductive zE(K:Fg)(CF CB CT:Addr)(sp:Sp)(vs:List V)(H:Hp)(Q:VK)(E:XK):Prop
 |mk (fi ce ta:Addr):vs= [.ref fi,.ref ce,.ref ta] ->((∃v,H ta=some (.tup [.str ("value":Str),v])/\Q v H)\/
  ∃(bd fd lk l:Addr) (nm c:Str) (p:Nat) (B:BM) (kf:List (Ky×V)),H ta=some (.tup [.str ("call":Str),.ref l])/\dU CF CB CT H fi bd fd lk nm B kf/\H ce=some (.tup ((bI nm c p).map kV))/\sp [.ref B.b,.str c,.int (p:Int),.ref l] H Q E0)->zE K CF CB CT sp vs H Q E
theorem a4O:bD ["self","cell","told"] ["self","cell","told"] (aO a1J):={}
theorem a67(T:bF K mg)(Y:fC K mg CF)(Wb:dG K mg CB){k:Nat}(G:aS P w K mg af aE k CB "outcome" ["self","column","place","some"] sp):aS P w K mg af aE (k+ 1) CF "settle" ["self","cell","told"] (zE K CF CB CT sp):=by
 refine Y.m_settle.known a4O (fun _ _ _ _ _ _ us hl=>iN (fun _ _ _=>rfl) us hl) (fun vs H Q E h=> ?_) (fun f ah A ag s H vs Q E hr h=> ?_)
 ·obtain⟨fi,ce,ta,rfl,_⟩:=h
  rfl
 ·obtain⟨fi,ce,ta,rfl,h⟩:=h
  have hu:=dQ hr
  refine⟨_,(aK (bK (cU mK (dA fG (pv 2) aY (fun _ _=>rfl)) dY (cO _)) (aL (bL (dA fG (pv 2) aY (fun _ _=>rfl)))) bO)
   (aL (bL (cB (fQ hu (aW (pv 0) rfl) (dA fG (pv 1) aY (fun _ _=>rfl)) (fun _ _=>rfl)) Wb.cl G hr aR (aA (dA fG (pv 1) aY (fun _ _=>rfl)) (aA (dA fG (pv 1) aY (fun _ _=>rfl)) (aA (dA fG (pv 2) aY (fun _ _=>rfl)) aG))))))),?_⟩
  rcases h with⟨v,hta,q⟩|⟨bd,fd,lk,l,nm,c,p,B,kf,hta,F,hce,q⟩
  ·refine⟨_,rfl,ta,_,_,_,rfl,rfl,cF.of hta,rfl,rfl,_,rfl,dM (fun _=> ?_) (fun h=>absurd (decide_eq_true rfl) h)⟩
   exact⟨_,rfl,ta,_,_,_,rfl,rfl,cF.of hta,rfl,q⟩
  ·refine⟨_,rfl,ta,_,_,_,rfl,rfl,cF.of hta,rfl,rfl,_,rfl,dM (fun h=>absurd (V.str.inj (of_decide_eq_true h)) (by decide)) (fun _=> ?_)⟩
   obtain⟨d0,e1⟩:=F.fin
   obtain⟨kb,e2,e3⟩:=F.bds
   obtain⟨d1,b1⟩:=F.B.at_
   exact⟨_,rfl,fi,CF,d0,_,_,rfl,e1,Y.cl,Y.n_boards,(iX _ _ _).1,_,rfl,ce,_,_,_,rfl,rfl,cF.of hce,rfl,bd,_,rfl,e3▸bW.k (k:=Sum.inr nm) e2,B.b,d1,_,rfl,b1,oG,_,rfl,ce,_,_,_,rfl,rfl,cF.of hce,rfl,_,rfl,ce,_,_,_,rfl,rfl,cF.of hce,rfl,_,rfl,ta,_,_,_,rfl,rfl,cF.of hta,rfl,q⟩
inductive zN(CF CB CT:Addr)(vs:List V)(H:Hp)(Q:VK)(E:XK):Prop
 |mk (fi bd fd lk ce:Addr) (nm c:Str) (p:Nat) (B:BM) (kf:List (Ky×V)) (r v:V):vs= [.ref fi,.ref ce] ->dU CF CB CT H fi bd fd lk nm B kf->H ce=some (.tup ((bI nm c p).map kV))->aF B.rus (.inr c:aB)=some r->aF kf (bI nm c p)=some v->Q .non H->zN CF CB CT vs H Q E
abbrev a7C:List Str:=["self","cell","trial","told"]
theorem tI:bD a7C ["self","cell"] (aO a0b):={}
theorem a5o(T:bF K mg)(Y:fC K mg CF)(Wb:dG K mg CB):aS P w K mg af aE 5 CF "attempt" ["self","cell"] (zN CF CB CT):=by
 have G_knows:aS P w K mg af aE 4 CF "knows" ["self","cell"] (rO CF CB CT):=zR T Y Wb
 refine Y.m_attempt.known tI (fun _ _ _ _ _ _ us hl=>eC (fun _ _=>rfl) us hl) (fun vs H Q E h=> ?_) (fun f ah A ag s H vs Q E hr h=> ?_)
 ·obtain⟨fi,bd,fd,lk,ce,nm,c,p,B,kf,r,v,rfl,_⟩:=h
  rfl
 ·obtain⟨fi,bd,fd,lk,ce,nm,c,p,B,kf,r,v,rfl,F,hce,hru,hv,q⟩:=h
  refine⟨_,(aK (bK (dI (cB (pv 0) Y.cl G_knows hr aR (aA (pv 1) aG)) (fun _=>rfl)) (aL (bL gE)) bO)
   (aK cJ (aK cJ (aK cJ (aL cJ))))),?_⟩
  obtain⟨d0,e1⟩:=F.fin
  refine⟨_,rfl,fi,d0,_,rfl,e1,gP,_,rfl,fi,bd,fd,lk,ce,nm,c,p,B,kf,r,rfl,F,hce,hru,_,rfl,?_⟩
  rw[hv]
  exact cE q
end
theorem nQ{z:Addr}(h:iL q H z)(k:∀b o,(∀x,o≠ .dT x)->(∀x,o≠ .dK x)->(∀x,o≠ .lst x)->H b=some o->H' b=some o):iL q H' z:=by
 obtain⟨S,h1,h2⟩:=h
 refine⟨S,k _ _ (fun x y=>by cases y) (fun x y=>by cases y) (fun x y=>by cases y) h1,fun c hc=> ?_⟩
 obtain⟨o,o1,o2⟩:=h2 c hc
 exact⟨o,k _ _ (fun x y=>by cases y) (fun x y=>by cases y) (fun x y=>by cases y) o1,o2⟩
noncomputable def WT (X:jG):List Addr:=[X.fd,X.tr,X.tl] ++ (X.tabs.flatMap fun tb=> [X.fi,X.bd,X.fd] ++ tb.2.foot)++ zA X.tabs X.gv
theorem a5K(X:jG):uQ X (WT X) where
 o:=⟨by simp[WT],by simp[WT],by simp[WT]⟩
 f:=fun tb h b hb=>List.mem_append_left _ (List.mem_append_right _ (List.mem_flatMap.mpr ⟨tb,h,hb⟩))
 c:=fun t c ys B l g h e=>List.mem_append_right _ (a6c g h e)
 n:=fun b hb=>by
  rcases List.mem_append.mp hb with hb|hb
  ·rcases List.mem_append.mp hb with hb|hb
   ·simp only[List.mem_cons,List.not_mem_nil,or_false]at hb
    rcases hb with h|h|h
    ·exact .inl h
    ·exact .inr (.inl h)
    ·exact .inr (.inr (.inl h))
   ·obtain⟨tb,h1,h2⟩:=List.mem_flatMap.mp hb
    exact .inr (.inr (.inr (.inl ⟨tb,h1,h2⟩)))
  ·exact .inr (.inr (.inr (.inr (a79 hb))))
def vB(R:RD)(x:aQ)(wo wo':aQ->Option (List Int×V))(ns ns':List (Option V×List Int))(v:V):PyData ⊕ List Int->Prop
 | .inl _=>wo'=wo/\ns'=ns
 | .inr is=>(wo x=some (is,v)/\wo'=wo/\ns'=ns)\/ ((∀vv,wo x≠some (is,vv))/\wo'=(fun y=>if y=x then some (is,v) else wo y)/\ns'=ns++ [(R.mrk,is)])
section
inductive a0i(P:Program)(w:World)(K:Fg)(mg:Str->Option Value)(af:Heap)(RG:Addr->Sp->Prop)(CF CB CT zt:Addr)(vs:List V)(H:Hp)(Q:VK)(E:XK):Prop
 |mk (X:SX) (x:aQ) (R:RD) (ce:Addr) (kf kl:List (Ky×V)) (mem:Str->Str->List (aB×V)) (wo:aQ->Option (List Int×V)) (cs:List V) (ns:List (Option V×List Int)):vs= [.ref X.fi,.ref ce] ->gK X->SB P w K mg af RG CF CB CT zt X kf kl mem wo cs ns H->jQ P w K mg af X H->cs.length<900->X.Vc x->X.rl x.1 x.2.1=some R->aF kf (cK x)=none->H ce=some (.tup ((cK x).map kV))->(∀H' r kf' kl' mem' wo' cs' ns',SB P w K mg af RG CF CB CT zt X kf' kl' mem' wo' cs' ns' H'->bV X zt H H'->
  ((cs'=cs/\ns'=ns/\wo'=wo/\∃la y,r= .ref la/\H' la=some (.tup ((cK y).map kV))/\y∈(X.tree x).looks X.val/\X.gv y.1 y.2.1=none/\aF kf (cK y)=none/\∀z,X.gv z.1 z.2.1=none->aF kf' (cK z)=aF kf (cK z))\/
   (r= .non/\cs'.length<=cs.length+ 1/\∃v,aF kf' (cK x)=some v/\(∀z,X.gv z.1 z.2.1=none->z≠x->aF kf' (cK z)=aF kf (cK z))/\vB R x wo wo' ns ns' v ((X.tree x).run X.val)))->Q r H')->a0i P w K mg af RG CF CB CT zt vs H Q E
theorem a6H(T:bF K mg){CR:Addr}(Rt:mV K mg CR)(Y:fC K mg CF)(Wb:dG K mg CB)(Z:dZ K mg CT){z:Addr×Addr}(B2:kF K mg "Finder" "gathered" "Finder.gathered" iB z)(M:kC mg af z.1 z.2)(hRG:∀C sp,RG C sp->cI K C/\aS P w K mg af aE 8 C "gather" ["self","look","many","table","column","place"] sp):aS P w K mg af aE 10 CF "attempt" ["self","cell"] (a0i P w K mg af RG CF CB CT z.2):=by
 have G_knows:aS P w K mg af aE 4 CF "knows" ["self","cell"] (rO CF CB CT):=zR T Y Wb
 have GI:eU P w K mg af aE 1 CR ["self","finder"] (zO CR):=a8o T Rt
 have G_gd:aS P w K mg af aE 9 CF "gathered" lI (xX P w K mg af CR CF CB CT z.2 RG):=a5d T Rt Y Wb Z B2 M hRG
 have G_st:aS P w K mg af aE 7 CF "settle" ["self","cell","told"] (zE K CF CB CT (wZ P w K mg af 4 CB CT)):=a67 T Y Wb (a5g T Wb Z (k:=4) (Nat.le_refl _))
 refine Y.m_attempt.known tI (fun _ _ _ _ _ _ us hl=>eC (fun _ _=>rfl) us hl) (fun vs H Q E h=> ?_) (fun f ah A ag s H vs Q E hr h=> ?_)
 ·obtain⟨X,x,R,ce,kf,kl,mem,wo,cs,ns,rfl,_⟩:=h
  rfl
 ·obtain⟨X,x,R,ce,kf,kl,mem,wo,cs,ns,rfl,O,S,fnA,c9,hV,hR,hno,hce,q⟩:=h
  obtain⟨kin,B,hB,hp,_⟩:=O.o.v x hV
  have gvx:X.gv x.1 x.2.1=none:=O.no _ _ _ hR
  obtain⟨hru,hme⟩:=O.ru _ _ _ _ hR hB
  have GF:=S.F _ hB
  have k8:=O.o.k8
  have hu:=dQ hr
  refine⟨_,(aK (bK (dI (cB (pv 0) Y.cl G_knows hr.mn aR (aA (pv 1) aG)) (fun _=>rfl)) (aL (bL gE)) bO)
   (aK (bU (i:=2) tI.nd rfl (Or.inl rfl) (lL GI hr.mn Rt.c aR (aA (pv 0) aG)))
   (aK (bU (i:=3) tI.nd rfl (Or.inl rfl) (cB (pv 0) Y.cl G_gd hr aR (aA (pv 2) (aA (dA fG (pv 1) aY (fun _ _=>rfl)) (aA (dA fG (pv 1) aY (fun _ _=>rfl)) (aA (dA fG (pv 1) aY (fun _ _=>rfl)) aG))))))
   (aK (bK (cU pP (aW (pv 2) rfl) gE (cO _)) (aK (jI hu (aW (pv 0) rfl) (pv 1) (aW (pv 2) rfl) rfl) (aL (jI hu (aW (pv 0) rfl) (pv 1) (cB (pv 0) Y.cl G_st hr.mn aR (aA (pv 1) (aA (pv 3) aG))) rfl))) bO)
   (aL (bL (aW (pv 2) rfl))))))),?_⟩
  obtain⟨d0,e1⟩:=GF.fin
  refine⟨_,rfl,X.fi,d0,_,rfl,e1,gP,_,rfl,X.fi,X.bd,X.fd,X.lk,ce,x.1,x.2.1,x.2.2,B,kf,_,rfl,GF,hce,hru,_,rfl,?_⟩
  rw[show aF kf (bI x.1 x.2.1 x.2.2)=none from hno]
  refine bH ⟨_,rfl,?_⟩
  intro tr dt htr hdt ne
  refine⟨tr,dt,X.fi,rfl,aJ,fun H1 tl htl t1 t2 b1=>⟨rfl,?_⟩⟩
  have s1:aH H H1:=fun b o e=>b1 b o (bE e htr) (by rw[aI (bE e htr),aI (bE e hdt)];exact e)
  have htl0:H tl=none:=by
   by_cases y:tl=tr
   ·rw[y];exact htr
   ·by_cases y2:tl=dt
    ·rw[y2];exact hdt
    ·rw[aI y,aI y2]at htl;exact htl
  have ce1:=s1 _ _ hce
  obtain⟨⟨dxg,hgr⟩,hG,hW⟩:=S.rg _ _ _ hR
  let Y8:jG:=⟨X.fi,X.bd,X.fd,X.lk,tr,tl,X.tabs,X.Ks,X.gv,X.Vc,X.val,kf,X.tree x⟩
  have J1:JT K CR CF CB CT Y8 (some Y8.t0) H1:=⟨⟨kf,fun tb h=>(S.F tb h).same s1,s1 _ _ S.fd,S.ko,S.fo,fun _ _ _ _=>rfl⟩,fun y v a b c=>(S.fp y v a b c).1.same s1,⟨[],t2,eF.nil,⟨dt,t1⟩,[],.nil,fun y=>⟨fun h=>by{cases h},fun h=>by{cases h}⟩,fun y hy=>by{cases hy}⟩,fun t c ys B g h=>let ⟨l,h1,h2⟩:=S.cols t c ys B g h;⟨l,h1,s1 _ _ h2⟩,fun t c ys p v a b=>(S.cd t c ys p v a b).same s1⟩
  have ntf:tl≠X.fd:=fun y=>by rw[y,S.fd]at htl0;cases htl0
  have ntk:tl≠X.lk:=fun y=>by rw[y,S.hl]at htl0;cases htl0
  have wof:=a5K Y8
  obtain⟨Sz,tz,_⟩:=id S.tb
  have tb1:iL mX H1 z.2:=nQ S.tb fun b o _ _ _ e=>s1 _ _ e
  have nzW:z.2∉WT Y8:=by
   intro hm
   have t1z:=s1 _ _ tz
   rcases wof.n _ hm with h|h|h|⟨tb',h1,h2⟩|⟨t',c',ys',B',g1,g2,g3⟩
   ·have h:z.2=X.fd:=h
    rw[h,s1 _ _ S.fd]at t1z;cases t1z
   ·have h:z.2=tr:=h
    rw[h,t1]at t1z;cases t1z
   ·have h:z.2=tl:=h
    rw[h,t2]at t1z;cases t1z
   ·exact((S.F tb' h1).same s1).noext h2 t1z
   ·obtain⟨l',g4,g5⟩:=S.cols t' c' ys' B' g1 g2
    have g3:aF B'.kvs (.inr c':aB)=some (.ref z.2):=g3
    rw[g3]at g4
    cases g4
    rw[s1 _ _ g5]at t1z;cases t1z
  have nft:z.2∉R.ft:=fun hm=>by
   obtain⟨o,e,_,_,n,_⟩:=S.rt _ _ _ hR _ hm
   rw[tz]at e
   exact n _ (Option.some.inj e).symm
  refine⟨_,rfl,X.fi,d0,_,rfl,s1 _ _ e1,gP,_,rfl,_,rfl,ce,_,_,_,rfl,rfl,cF.of ce1,rfl,_,rfl,ce,_,_,_,rfl,rfl,cF.of ce1,rfl,_,rfl,ce,_,_,_,rfl,rfl,cF.of ce1,rfl,
   Y8,WT Y8,R.ft,R.gr,dxg,R.CG,R.spg,R.fs,x.1,x.2.1,B,x.2.2,rfl,J1,ntf,O.o,wof,nzW,hB,hru,s1 _ _ hgr,(fun y=>by{rw[y,htr]at hgr;cases hgr}),hG,(O.rf _ _ _ hR).2,tb1,nft,(S.ra _ _ _ hR _ hV).mv (fun b _ o e=>s1 _ _ e),fun H2 fv tf fr tb2 told J2=> ?_⟩
  have up2:∀{y:Addr} {o:HO},y≠X.fd->y≠z.2->H y=some o->H2 y=some o:=fun n1 n2 e=>fr _ _ n1 (bE e htl0) (bE e htr) n2 (s1 _ _ e)
  have nz:∀{b:Addr} {o:HO},H b=some o->(∀y,o≠ .ext y)->b≠z.2:=fun e n y=>by rw[y,tz]at e;exact n _ (Option.some.inj e).symm
  have nf:∀{b:Addr} {o:HO},H b=some o->(∀y,o≠ .dT y)->b≠X.fd:=fun e n y=>by rw[y,S.fd]at e;exact n _ (Option.some.inj e).symm
  have lk2:=up2 O.fl.symm (nz S.hl nk) S.hl
  have ce2:=up2 (nf hce nk) (nz hce nk) hce
  have nl2:=S.lo.len
  rcases J2.symm with J2|J2
  ·
   obtain⟨kf2,F2',w02,ko2,fo2,ru2⟩:=J2.kf
   obtain⟨kt2,tl2,to2,dx2,la,y,tr2,hla,hy,hVy,gvy,nfy⟩:=J2.tl
   refine⟨_,rfl,tr,CR,dx2,_,_,rfl,tr2,Rt.cl,Rt.n_lacking,(pY X.fi tl (.ref la)).2.2.1,rfl,_,rfl,bH ?_⟩
   refine⟨_,rfl,tr,CR,dx2,_,_,rfl,tr2,Rt.cl,Rt.n_lacking,(pY X.fi tl (.ref la)).2.2.1,?_⟩
   have f2:bV X z.2 H H2:=fun b o n1 _ n3 _ _ e=>up2 n1 n3 e
   have kt2':=S.ktt f2
   have kl2:=S.kl' O f2
   refine q H2 _ kf2 kl mem wo cs ns (S.to O f2 w02 ko2 fo2 (fun x' v a b c=> ?_) (fun x' v a b c=> ?_) (fun x' a b c=> ?_) (fun x' v a b c y hy gy=> ?_) lk2 S.lo (fun t c R' h=> ?_) (fun x' R' a b=>⟨(S.me x' R' a b).1.mv rfl kt2'.t kl2,fun is v e=>((S.me x' R' a b).2 is v e).keep kt2'⟩) (fun t c R' j a b=>⟨(S.ab t c R' j a b).1.mv rfl kt2'.t kl2,fun is v e=>((S.ab t c R' j a b).2 is v e).keep kt2'⟩) ⟨S.ca.1,fun a e=> ?_⟩ (fun h=>Paired.imp (fun a b h=>h.mv kt2'.t kl2) (S.nt h)) tb2) f2 (.inl ⟨rfl,rfl,rfl,la,y,rfl,hla,hy,gvy,nfy,fun z' g=>ru2 z'.1 z'.2.1 z'.2.2 g⟩)
   ·rw[show aF kf2 (cK x')=aF kf (cK x') from ru2 x'.1 x'.2.1 x'.2.2 b]at c
    exact⟨(S.fp x' v a b c).1.keep kt2',(S.fp x' v a b c).2⟩
   ·rw[show aF kf2 (cK x')=aF kf (cK x') from ru2 x'.1 x'.2.1 x'.2.2 b]at c
    obtain⟨tl',kt',h1,h2,h3,h4,h5⟩:=S.lp x' v a b c
    exact⟨tl',kt',h1,up2 h3 (nz h2 nk) h2,h3,h4,h5⟩
   ·rw[show aF kf2 (cK x')=aF kf (cK x') from ru2 x'.1 x'.2.1 x'.2.2 b]at c
    exact S.ln x' a b c
   ·rw[show aF kf2 (cK x')=aF kf (cK x') from ru2 x'.1 x'.2.1 x'.2.2 b]at c
    rw[show aF kf2 (cK y)=aF kf (cK y) from ru2 y.1 y.2.1 y.2.2 gy]
    exact S.cz x' v a b c y hy gy
   ·obtain⟨h1,h2⟩:=S.rm t c R' h
    exact⟨up2 (nf h1 nk) (nz h1 nk) h1,h2⟩
   ·exact up2 (nf (S.ca.2 a e) nk) (nz (S.ca.2 a e) nk) (S.ca.2 a e)
  ·obtain⟨kf2,F2',w02,ko2,fo2,ru2⟩:=J2.kf
   have F2:dU CF CB CT H2 X.fi X.bd X.fd X.lk x.1 B kf2:=F2' _ hB
   obtain⟨kt2,tl2,to2,⟨d3,tr2⟩,us,path,hus,hkn⟩:=J2.tl
   have hrun:(X.tree x).run X.val=tf:=path.run
   have hlooks:(X.tree x).looks X.val=us:=by
    have:=path.looks
    rw[show (GT.done tf).looks Y8.val= [] from rfl,List.append_nil]at this
    exact this
   obtain⟨a1,a2,a3,a4⟩:=pY X.fi tl .non
   obtain⟨d02,f2⟩:=F2.fin
   refine⟨_,rfl,tr,CR,d3,_,_,rfl,tr2,Rt.cl,Rt.n_lacking,a3,rfl,_,rfl,cE ?_⟩
   refine⟨_,rfl,tr,CR,d3,_,_,rfl,tr2,Rt.cl,Rt.n_looked,a2,_,rfl,X.fi,CF,d02,_,_,rfl,f2,Y.cl,Y.n_looked,(iX _ _ _).2.2,_,rfl,X.lk,_,rfl,.inr ⟨kl,cK x,ce,lk2,rfl,ce2,dJ (by omega),rfl⟩,?_⟩
   have u3:bC X.lk H2 (upd H2 X.lk (.dT (aU kl (cK x) (.ref tl)))):=fun b o n e=>by rw[aI n];exact e
   have lk3:upd H2 X.lk (.dT (aU kl (cK x) (.ref tl))) X.lk=some (.dT (aU kl (cK x) (.ref tl))):=aJ
   generalize upd H2 X.lk (.dT (aU kl (cK x) (.ref tl)))=H3 at u3 lk3|-
   have k3:∀{b:Addr} {o:HO},H2 b=some o->(∀y,o≠ .dT y)->H3 b=some o:=fun e n=>u3 _ _ (fun y=>by rw[y,lk2]at e;exact n _ (Option.some.inj e).symm) e
   have fd3:=u3 _ _ O.fl F2.fnd
   have F3:dU CF CB CT H3 X.fi X.bd X.fd X.lk x.1 B kf2:=by
    obtain⟨d0,e1⟩:=F2.fin
    obtain⟨kb,e2,e3⟩:=F2.bds
    obtain⟨⟨d1,b1⟩,⟨⟨d2,b2⟩,b3,b4⟩,b5,b6,b7⟩:=F2.B
    exact⟨⟨d0,k3 e1 nk⟩,⟨kb,k3 e2 nk,e3⟩,⟨⟨d1,k3 b1 nk⟩,⟨⟨d2,k3 b2 nk⟩,k3 b3 nk,k3 b4 nk⟩,k3 b5 nk,k3 b6 nk,k3 b7 nk⟩,fd3,F2.len⟩
   have fr3:∀{y:Addr} {o:HO},y≠X.fd->y≠X.lk->y≠z.2->H y=some o->H3 y=some o:=fun n1 n2 n3 e=>u3 _ _ n2 (up2 n1 n3 e)
   have q3:∀{y:Addr} {o:HO},H y=some o->(∀v,o≠ .dT v)->(∀v,o≠ .ext v)->H3 y=some o:=fun e n1 n2=>k3 (up2 (nf e n1) (nz e n2) e) n1
   have ce3:=q3 hce nk nk
   have tr3:=k3 tr2 nk
   have tl3:=u3 _ _ ntk tl2
   have tb3:iL mX H3 z.2:=nQ tb2 fun b o n1 _ _ e=>k3 e n1
   have ca3:fF X.ca cs H3:=⟨S.ca.1,fun a e=>q3 (S.ca.2 a e) nk nk⟩
   obtain⟨hmc,hmb⟩:=S.rm _ _ _ hR
   have mc3:=q3 hmc nk nk
   have gr3:=q3 hgr nk nk
   have kz3:cL H H3:=fun b u e=>q3 e nk nk
   have none3:∀{y:Addr},H3 y=none->H y=none:=fun{y} e=>by
    cases e2:H y with
    |none=>rfl
    |some o=>
     by_cases y1:y=X.fd
     ·rw[y1,fd3]at e;cases e
     ·by_cases y2:y=X.lk
      ·rw[y2,lk3]at e;cases e
      ·by_cases y3:y=z.2
       ·obtain⟨S3,h3,_⟩:=tb3
        rw[y3,h3]at e;cases e
       ·rw[fr3 y1 y2 y3 e2]at e;cases e
   have l2:kf2.length<=X.Ks.length:=ko2.len
   have mlen:=hmb.len
   have b8:=O.b8
   have fin:∀(H5:Hp) (v:V) (mem':Str->Str->List (aB×V)) (wo':aQ->Option (List Int×V)) (cs':List V) (ns':List (Option V×List Int)),(∀b o,X.ca≠some b->b≠R.mc->H3 b=some o->H5 b=some o)->(∀t c R',X.rl t c=some R'->H5 R'.mc=some (.dK (mem' t c))/\jW X.bnd (mem' t c))->fF X.ca cs' H5->cs'.length<=cs.length+ 1->vB R x wo wo' ns ns' v tf->(∀y,y≠x->wo' y=wo y)->(∀is,tf= .inr is->wo' x=some (is,v))->(∀H6,bC X.fd H5 H6->Pd K H6 v (X.val x))->
    (∀H6,bC X.fd H5 H6->(∀x' R',X.Vc x'->X.rl x'.1 x'.2.1=some R'->iC X.fx H6 (mem' x'.1 x'.2.1) (X.num x'.1 x'.2.2:Int) (wo' x')/\∀is v,wo' x'=some (is,v)->Pd K H6 v (fK (R'.g is)))/\(∀t c R' j,X.rl t c=some R'->X.abn t j->iC X.fx H6 (mem' t c) (j:Int) (X.wa t c j)/\∀is v,X.wa t c j=some (is,v)->Pd K H6 v (fK (R'.g is)))/\(X.ca≠none->Paired (mI X.fx H6) cs' ns'))->
    ∃d5 H6,H5 X.fi=some (.ins CF d5 (gD X.bd X.fd X.lk))/\gI H5 X.fd (.ref ce) v H6/\H6 tr=some (.ins CR d3 (eE X.fi tl .non))/\Q .non H6:=fun H5 v mem' wo' cs' ns' f5 rm5 ca5 cl5 en hwy hwx hpd hme5=>by
    have k5:∀{b:Addr} {o:HO},H3 b=some o->(∀y,o≠ .lst y)->(∀y,o≠ .dK y)->H5 b=some o:=fun e n1 n2=>f5 _ _ (ca3.ne e n1) (fun y=>by rw[y,mc3]at e;exact n2 _ (Option.some.inj e).symm) e
    obtain⟨d5,e5⟩:=F3.fin
    have fd5:=k5 fd3 nk nk
    have ce5:=k5 ce3 nk nk
    refine⟨d5,_,k5 e5 nk nk,.inr ⟨kf2,cK x,ce,fd5,rfl,ce5,dJ (by omega),rfl⟩,?_⟩
    have u6:bC X.fd H5 (upd H5 X.fd (.dT (aU kf2 (cK x) v))):=fun b o n e=>by rw[aI n];exact e
    have fd6:upd H5 X.fd (.dT (aU kf2 (cK x) v)) X.fd=some (.dT (aU kf2 (cK x) v)):=aJ
    generalize upd H5 X.fd (.dT (aU kf2 (cK x) v))=H6 at u6 fd6|-
    have k6:∀{b:Addr} {o:HO},H5 b=some o->(∀y,o≠ .dT y)->H6 b=some o:=fun e n=>u6 _ _ (fun y=>by rw[y,fd5]at e;exact n _ (Option.some.inj e).symm) e
    have fr6:bV X z.2 H H6:=fun b o n1 n2 n3 n4 n5 e=>u6 _ _ n1 (f5 _ _ n4 (n5 _ _ _ hR) (fr3 n1 n2 n3 e))
    have dt6:∀{b:Addr} {y:List (Ky×V)},b≠X.fd->b≠X.lk->H2 b=some (.dT y)->H6 b=some (.dT y):=fun n1 n2 e=>u6 _ _ n1 (k5 (u3 _ _ n2 e) (fun _ z=>by cases z) (fun _ z=>by cases z))
    refine⟨k6 (k5 tr3 nk nk) nk,?_⟩
    have kt6:=S.ktt fr6
    obtain⟨me6,ab6,nt6⟩:=hme5 H6 u6
    have vx:aF (aU kf2 (cK x) v) (cK x)=some v:=by rw[fD,if_pos rfl]
    have vy:∀y:aQ,X.gv y.1 y.2.1=none->y≠x->aF (aU kf2 (cK x) v) (cK y)=aF kf (cK y):=fun y g n=>by
     rw[fD,if_neg (fun h=>n (rL h))]
     exact ru2 y.1 y.2.1 y.2.2 g
    have ly:∀y:aQ,y≠x->aF (aU kl (cK x) (.ref tl)) (cK y)=aF kl (cK y):=fun y n=>by
     rw[fD,if_neg (fun h=>n (rL h))]
    refine q H6 .non (aU kf2 (cK x) v) (aU kl (cK x) (.ref tl)) mem' wo' cs' ns' (S.to O fr6 fd6 (ko2.put kin) (fun t c p' v' ys g e=> ?_) (fun x' v' a b c=> ?_) (fun x' v' a b c=> ?_) (fun x' a b c=> ?_) (fun x' v' a b c y hy gy=> ?_) (u6 _ _ O.fl.symm (k5 lk3 nk nk)) (S.lo.put kin) (fun t c R' h=>⟨k6 (rm5 t c R' h).1 nk,(rm5 t c R' h).2⟩) me6 ab6 ⟨ca5.1,fun a e=>k6 (ca5.2 a e) nk⟩ nt6 (nQ tb3 fun b o n1 n2 n3 e=>k6 (k5 e n3 n2) n1)) fr6 (.inr ⟨rfl,cl5,v,vx,vy,by rw[hrun];exact en⟩)
    ·rw[fD,if_neg (fun y=>by
      obtain⟨rfl,rfl,_⟩:=zI y
      rw[gvx]at g
      cases g)]at e
     exact fo2 t c p' v' ys g e
    ·by_cases hx:x'=x
     ·subst hx
      rw[vx]at c
      cases c
      exact⟨hpd H6 u6,fun is e=>hwx is (hrun.symm.trans e)⟩
     ·rw[vy x' b hx]at c
      rw[hwy x' hx]
      exact⟨(S.fp x' v' a b c).1.keep kt6,(S.fp x' v' a b c).2⟩
    ·by_cases hx:x'=x
     ·subst hx
      exact⟨tl,kt2,by rw[fD,if_pos rfl],dt6 ntf ntk tl2,ntf,ntk,to2,by rw[hlooks];exact hus⟩
     ·rw[vy x' b hx]at c
      rw[ly x' hx]
      obtain⟨tl',kt',h1,h2,h3,h4,h5⟩:=S.lp x' v' a b c
      exact⟨tl',kt',h1,dt6 h3 h4 (up2 h3 (nz h2 nk) h2),h3,h4,h5⟩
    ·by_cases hx:x'=x
     ·subst hx
      rw[vx]at c
      cases c
     ·rw[vy x' b hx]at c
      rw[ly x' hx]
      exact S.ln x' a b c
    ·have hyx:(aF kf (cK y)).isSome=true:=by
      by_cases hx:x'=x
      ·subst hx
       rw[hlooks]at hy
       exact hkn y hy gy
      ·rw[vy x' b hx]at c
       exact S.cz x' v' a b c y hy gy
     by_cases hy2:y=x
     ·rw[hy2,vx];rfl
     ·rw[vy y gy hy2];exact hyx
   obtain⟨d03,f3⟩:=F3.fin
   have hval:X.val x=uZ R.g tf:=by rw[O.sem x R hV hR,hrun]
   have quiet:∀(v:V),vB R x wo wo ns ns v tf->(∀is,tf= .inr is->wo x=some (is,v))->Pd K H3 v (X.val x)->∃d5 H6,H3 X.fi=some (.ins CF d5 (gD X.bd X.fd X.lk))/\gI H3 X.fd (.ref ce) v H6/\H6 tr=some (.ins CR d3 (eE X.fi tl .non))/\Q .non H6:=fun v en hwx hpd=>by
    refine fin H3 v mem wo cs ns (fun b o _ _ e=>e) (fun t c R' h=>⟨q3 (S.rm t c R' h).1 nk nk,(S.rm t c R' h).2⟩) ca3 (Nat.le_succ _) en (fun _ _=>rfl) hwx (fun H6 b6=>hpd.keep fun b o hb e=>b6 _ _ (fun y=>by rw[y,fd3]at e;obtain⟨xs,rfl|⟨q,rfl⟩⟩:=hb<;>cases e) e) (fun H6 b6=> ?_)
    have kt6:dP H H6:=fun b o hb e=>b6 _ _ (nf e (fun v y=>by obtain⟨xs,rfl|⟨q,rfl⟩⟩:=hb<;>cases y)) (q3 e (fun v y=>by obtain⟨xs,rfl|⟨q,rfl⟩⟩:=hb<;>cases y) (fun v y=>by obtain⟨xs,rfl|⟨q,rfl⟩⟩:=hb<;>cases y))
    have kl6:∀b ys,b∉X.fx->H b=some (.lst ys)->H6 b=some (.lst ys):=fun b ys _ e=>b6 _ _ (nf e (fun v y=>by cases y)) (q3 e (fun v y=>by cases y) (fun v y=>by cases y))
    exact⟨fun x' R' a b=>⟨(S.me x' R' a b).1.mv rfl kt6.t kl6,fun is v e=>((S.me x' R' a b).2 is v e).keep kt6⟩,fun t c R' j a b=>⟨(S.ab t c R' j a b).1.mv rfl kt6.t kl6,fun is v e=>((S.ab t c R' j a b).2 is v e).keep kt6⟩,fun h=>Paired.imp (fun a b h=>h.mv kt6.t kl6) (S.nt h)⟩
   cases tf with
   |inl d=>
    obtain⟨ta,v,rfl,hta,hpv⟩:=told
    have hta3:=k3 hta nk
    have ktt3:dP H2 H3:=fun b o hb e=>k3 e (fun v y=>by obtain⟨xs,rfl|⟨q,rfl⟩⟩:=hb<;>cases y)
    obtain⟨d5,H6,g1,g2,g3,g4⟩:=quiet v ⟨rfl,rfl⟩ (fun is e=>by cases e) (by rw[hval];exact hpv.keep ktt3)
    exact⟨_,rfl,X.fi,d03,_,rfl,f3,gP,_,rfl,_,rfl,X.fi,ce,ta,rfl,.inl ⟨v,hta3,_,rfl,X.fi,CF,d5,_,_,rfl,g1,Y.cl,Y.n_found,(iX _ _ _).2.1,_,rfl,X.fd,H6,rfl,g2,_,rfl,tr,CR,d3,_,_,rfl,g3,Rt.cl,Rt.n_lacking,a3,g4⟩⟩
   |inr is=>
    obtain⟨ta,l,rfl,hta,hl2,hl0⟩:=told
    have hl3:=k3 hl2 nk
    have hta3:=k3 hta nk
    have hlH:H l=none:=jH s1 hl0
    have nlfx:l∉X.fx:=fun hm=>S.fx l hm hlH
    obtain⟨okis,l100⟩:=O.oks x R hV hR is hrun
    obtain⟨sh,vd⟩:=O.gg _ _ _ hR is okis
    obtain⟨nu1,nu2⟩:=O.nu _ _ _ hB hp
    have was:=(S.me x R hV hR).1
    refine⟨_,rfl,X.fi,d03,_,rfl,f3,gP,_,rfl,_,rfl,X.fi,ce,ta,rfl,.inr ⟨X.bd,X.fd,X.lk,l,x.1,x.2.1,x.2.2,B,kf2,hta3,F3,ce3,l,R.gr,R.mc,R.fa,dxg,R.CG,X.ca,R.mrk,x.2.1,R.fs,x.2.2,_,B,mem x.1 x.2.1,R.g,R.ok,is,cs,rfl,F3.B,hru,hme,mc3,by omega,hp,nu1,gr3,hW,(O.rf _ _ _ hR).1,(fnA _ _ _ hR).keep kz3,hl3,ca3,c9,okis,l100,sh,vd,?_⟩⟩
    have called:(∀vv,wo x≠some (is,vv))->∀H5 v ns1 tp,(∀b o,X.ca≠some b->b≠R.mc->H3 b=some o->H5 b=some o)->fF X.ca (cs++ ns1) H5->qM X.ca R.mrk is H3 H5 ns1->H3 tp=none->H5 tp=some (.tup [.ref l,v])->H5 R.mc=some (.dK (aU (mem x.1 x.2.1) (.inl ((X.num x.1 x.2.2:Nat):Int):aB) (.ref tp)))->Dt K H5 v (fK (R.g is))->
     ∃d5 H6,H5 X.fi=some (.ins CF d5 (gD X.bd X.fd X.lk))/\gI H5 X.fd (.ref ce) v H6/\H6 tr=some (.ins CR d3 (eE X.fi tl .non))/\Q .non H6:=fun hh H5 v ns1 tp f5 c5 n5 n2 g3 g4 g5=>by
     have fd5:H5 X.fd=some (.dT kf2):=f5 _ _ (ca3.ne fd3 nk) (fun y=>by rw[<- y,fd3]at mc3;cases mc3) fd3
     have ln1:ns1.length<=1:=by
      cases hc:X.ca with
      |none=>rw[n5.1 hc];exact Nat.zero_le _
      |some a=>obtain⟨nv,lc,e,_⟩:=n5.2 a hc;rw[e];exact Nat.le_refl _
     let mem':Str->Str->List (aB×V):=fun t c=>if t=x.1/\c=x.2.1 then aU (mem x.1 x.2.1) (.inl ((X.num x.1 x.2.2:Nat):Int):aB) (.ref tp) else mem t c
     let wo':aQ->Option (List Int×V):=fun y=>if y=x then some (is,v) else wo y
     have n1fx:∀{b:Addr},H3 b=none->b∉X.fx:=fun e hm=>S.fx _ hm (none3 e)
     refine fin H5 v mem' wo' (cs++ ns1) (ns++ [(R.mrk,is)]) f5 (fun t c R' h=> ?_) c5 (by rw[List.length_append];omega) (.inr ⟨hh,rfl,rfl⟩) (fun y n=>if_neg n) (fun is' e=>by cases e;exact if_pos rfl) (fun H6 b6=> ?_) (fun H6 b6=> ?_)
     ·by_cases hx:t=x.1/\c=x.2.1
      ·obtain⟨rfl,rfl⟩:=hx
       rw[hR]at h
       cases h
       rw[show mem' x.1 x.2.1=aU (mem x.1 x.2.1) (.inl ((X.num x.1 x.2.2:Nat):Int):aB) (.ref tp) from if_pos ⟨rfl,rfl⟩]
       exact⟨g4,hmb.put nu2⟩
      ·rw[show mem' t c=mem t c from if_neg hx]
       obtain⟨h1,h2⟩:=S.rm t c R' h
       have h13:=q3 h1 nk nk
       exact⟨f5 _ _ (ca3.ne h13 nk) (fun y=>hx (O.md _ _ _ _ _ _ h hR y)) h13,h2⟩
     ·refine⟨by rw[hval];exact vd,uT (by rw[hval];exact vd) (by rw[hval];exact g5) fun b o hb e=>b6 _ _ (fun y=>by rw[y,fd5]at e;obtain⟨xs,rfl|⟨q,rfl⟩⟩:=hb<;>cases e) e⟩
     ·have k35:∀{b:Addr} {o:HO},H b=some o->(∀y,o≠ .dT y)->(∀y,o≠ .ext y)->(∀y,o≠ .dK y)->X.ca≠some b->H6 b=some o:=fun e n1 n2 n3 n4=>by
       have e3:=q3 e n1 n2
       exact b6 _ _ (nf e n1) (f5 _ _ n4 (fun y=>by rw[y,mc3]at e3;exact n3 _ (Option.some.inj e3).symm) e3)
      have kt6:dP H H6:=fun b o hb e=>k35 e (fun v y=>by obtain⟨xs,rfl|⟨q,rfl⟩⟩:=hb<;>cases y) (fun v y=>by obtain⟨xs,rfl|⟨q,rfl⟩⟩:=hb<;>cases y) (fun v y=>by obtain⟨xs,rfl|⟨q,rfl⟩⟩:=hb<;>cases y) (S.nl e (fun v y=>by obtain⟨xs,rfl|⟨q,rfl⟩⟩:=hb<;>cases y))
      have kl6:∀b ys,b∉X.fx->H b=some (.lst ys)->H6 b=some (.lst ys):=fun b ys n e=>k35 e (fun v y=>by cases y) (fun v y=>by cases y) (fun v y=>by cases y) (fun y=>n (O.cf b y))
      have k56:∀{b:Addr} {o:HO},H5 b=some o->(∀y,o≠ .dT y)->H6 b=some o:=fun e n=>b6 _ _ (fun y=>by rw[y,fd5]at e;exact n _ (Option.some.inj e).symm) e
      have nlc:X.ca≠some l:=fun y=>nlfx (O.cf l y)
      have l6:H6 l=some (.lst (is.map V.int)):=k56 (f5 _ _ nlc (fun y=>by rw[y,mc3]at hl3;cases hl3) hl3) nk
      refine⟨fun x' R' a b=> ?_,fun t c R' j a b=>⟨(S.ab t c R' j a b).1.mv ?_ kt6.t kl6,fun is v e=>((S.ab t c R' j a b).2 is v e).keep kt6⟩,fun h=> ?_⟩
      ·by_cases hx:x'=x
       ·subst hx
        rw[hR]at b
        cases b
        rw[show wo' x'=some (is,v) from if_pos rfl,show mem' x'.1 x'.2.1=aU (mem x'.1 x'.2.1) (.inl ((X.num x'.1 x'.2.2:Nat):Int):aB) (.ref tp) from if_pos ⟨rfl,rfl⟩]
        refine⟨⟨tp,l,by rw[fD,if_pos rfl],k56 g3 nk,l6,nlfx⟩,fun is' v' e=> ?_⟩
        cases e
        exact⟨vd,uT vd g5 fun b o hb e=>b6 _ _ (fun y=>by rw[y,fd5]at e;obtain⟨xs,rfl|⟨q,rfl⟩⟩:=hb<;>cases e) e⟩
       ·rw[show wo' x'=wo x' from if_neg hx]
        refine⟨(S.me x' R' a b).1.mv ?_ kt6.t kl6,fun is v e=>((S.me x' R' a b).2 is v e).keep kt6⟩
        by_cases hx2:x'.1=x.1/\x'.2.1=x.2.1
        ·rw[show mem' x'.1 x'.2.1=aU (mem x.1 x.2.1) (.inl ((X.num x.1 x.2.2:Nat):Int):aB) (.ref tp) from if_pos hx2,fD,if_neg (fun y=> ?_),hx2.1,hx2.2]
         have y:=Sum.inl.inj y
         obtain⟨B',hB',hp'⟩:=O.B a
         rw[hx2.1]at hB' y
         have:=O.un _ _ _ hB hB'
         subst this
         exact hx (Prod.ext hx2.1 (Prod.ext hx2.2 (O.ni _ _ _ _ hB' hp' hp (by omega))))
        ·rw[show mem' x'.1 x'.2.1=mem x'.1 x'.2.1 from if_neg hx2]
      ·by_cases hx2:t=x.1/\c=x.2.1
       ·rw[show mem' t c=aU (mem x.1 x.2.1) (.inl ((X.num x.1 x.2.2:Nat):Int):aB) (.ref tp) from if_pos hx2,fD,if_neg (fun y=> ?_),hx2.1,hx2.2]
        have y:=Sum.inl.inj y
        rw[hx2.1]at b
        exact O.ab _ _ _ _ hB hp b (by omega)
       ·rw[show mem' t c=mem t c from if_neg hx2]
      ·obtain⟨a,ha⟩:=Option.ne_none_iff_exists'.mp h
       obtain⟨nv,lc,e,hlc,hnv⟩:=n5.2 a ha
       rw[e]
       refine Paired.snoc ⟨lc,hnv.mv (fun a xs e=>k56 e nk) (k56 hnv.1 nk),n1fx hlc⟩ (Paired.imp (fun a b h=>h.mv kt6.t kl6) (S.nt h))
    cases hw:wo x with
    |none=>
     rw[hw]at was
     refine .inr ⟨.inl was,fun H5 v ns1 tp f5 c5 n5 n2 g3 g4 g5=> ?_⟩
     obtain⟨d5,H6,r1,r2,r3,r4⟩:=called (fun vv y=>by rw[hw]at y;cases y) H5 v ns1 tp f5 c5 n5 n2 g3 g4 g5
     exact⟨_,rfl,X.fi,CF,d5,_,_,rfl,r1,Y.cl,Y.n_found,(iX _ _ _).2.1,_,rfl,X.fd,H6,rfl,r2,_,rfl,tr,CR,d3,_,_,rfl,r3,Rt.cl,Rt.n_lacking,a3,r4⟩
    |some jv=>
     obtain⟨js,vv⟩:=jv
     rw[hw]at was
     obtain⟨tp0,lo0,w1,w2,w3,w4⟩:=was
     have w2:=q3 w2 nk nk
     have w3:=q3 w3 nk nk
     by_cases hj:js=is
     ·subst hj
      refine .inl ⟨vv,⟨tp0,lo0,w1,w2,w3⟩,?_⟩
      have ktt3:dP H H3:=fun b o hb e=>q3 e (fun v y=>by obtain⟨xs,rfl|⟨q,rfl⟩⟩:=hb<;>cases y) (fun v y=>by obtain⟨xs,rfl|⟨q,rfl⟩⟩:=hb<;>cases y)
      obtain⟨d5,H6,r1,r2,r3,r4⟩:=quiet vv (.inl ⟨hw,rfl,rfl⟩) (fun is' e=>by cases e;exact hw) (by rw[hval];exact((S.me x R hV hR).2 js vv hw).keep ktt3)
      exact⟨_,rfl,X.fi,CF,d5,_,_,rfl,r1,Y.cl,Y.n_found,(iX _ _ _).2.1,_,rfl,X.fd,H6,rfl,r2,_,rfl,tr,CR,d3,_,_,rfl,r3,Rt.cl,Rt.n_lacking,a3,r4⟩
     ·refine .inr ⟨.inr ⟨js,vv,⟨tp0,lo0,w1,w2,w3⟩,hj⟩,fun H5 v ns1 tp f5 c5 n5 n2 g3 g4 g5=> ?_⟩
      obtain⟨d5,H6,r1,r2,r3,r4⟩:=called (fun v2 y=>by rw[hw]at y;exact hj (congrArg (·.1) (Option.some.inj y))) H5 v ns1 tp f5 c5 n5 n2 g3 g4 g5
      exact⟨_,rfl,X.fi,CF,d5,_,_,rfl,r1,Y.cl,Y.n_found,(iX _ _ _).2.1,_,rfl,X.fd,H6,rfl,r2,_,rfl,tr,CR,d3,_,_,rfl,r3,Rt.cl,Rt.n_lacking,a3,r4⟩
inductive xR(CF CB CT:Addr)(vs:List V)(H:Hp)(Q:VK)(E:XK):Prop
 |mk (fi bd fd lk ce l:Addr) (nm c:Str) (p:Nat) (B:BM) (kf:List (Ky×V)) (ys:List V) (v:V):vs= [.ref fi,.ref ce] ->dU CF CB CT H fi bd fd lk nm B kf->H ce=some (.tup ((bI nm c p).map kV))->aF B.rus (.inr c:aB)=none->Nl c->aF B.kvs (.inr c:aB)=some (.ref l)->H l=some (.lst ys)->p<B.xs.length->cQ ys (p:Int)=some v->(∀v',aF kf (bI nm c p)=some v'->v'=v)->kf.length<899->(∀H' kf',(kf'=kf\/ kf'=aU kf (bI nm c p) v)->aF kf' (bI nm c p)=some v->dU CF CB CT H' fi bd fd lk nm B kf'->bC fd H H'->Q .non H')->xR CF CB CT vs H Q E
abbrev NatG:List Str:=["self","cell","trial","told"]
theorem a6U:bD NatG ["self","cell"] (aO a0b):={}
theorem a4U(T:bF K mg)(Y:fC K mg CF)(Wb:dG K mg CB)(U:dZ K mg CT):aS P w K mg af aE 5 CF "attempt" ["self","cell"] (xR CF CB CT):=by
 have G_knows:aS P w K mg af aE 4 CF "knows" ["self","cell"] (uA CF CB CT):=a2y T Y Wb U
 refine Y.m_attempt.known a6U (fun _ _ _ _ _ _ us hl=>eC (fun _ _=>rfl) us hl) (fun vs H Q E h=> ?_) (fun f ah A ag s H vs Q E hr h=> ?_)
 ·obtain⟨fi,bd,fd,lk,ce,l,nm,c,p,B,kf,ys,v,rfl,_⟩:=h
  rfl
 ·obtain⟨fi,bd,fd,lk,ce,l,nm,c,p,B,kf,ys,v,rfl,F,a1,a2,a3,a4,a5,a6,a7,a8,a9,q⟩:=h
  refine⟨_,(aK (bK (dI (cB (pv 0) Y.cl G_knows hr aR (aA (pv 1) aG)) (fun _=>rfl)) (aL (bL gE)) bO)
   (aK cJ (aK cJ (aK cJ (aL cJ))))),?_⟩
  obtain⟨d0,e1⟩:=F.fin
  exact⟨_,rfl,fi,d0,_,rfl,e1,gP,_,rfl,fi,bd,fd,lk,ce,l,nm,c,p,B,kf,ys,v,rfl,F,a1,a2,a3,a4,a5,a6,a7,a8,a9,fun H' kf' h1 h2 h3 h4=>⟨_,rfl,cE (q H' kf' h1 h2 h3 h4)⟩⟩
end
inductive kY(X:SX)(x:aQ):aQ->Prop
 |refl:kY X x x
 |step {y z:aQ} (h:kY X x y) (hz:z∈(X.tree y).looks X.val) (g:X.gv z.1 z.2.1=none):kY X x z
def iD(X:SX)(wo:aQ->Option (List Int×V))(y:aQ):Option (Option V×List Int):=
 match X.rl y.1 y.2.1,(X.tree y).run X.val with
 |some R,.inr is=>if(wo y).map (·.1)=some is then none else some (R.mrk,is)
 |_,_=>none
structure eB(X:SX)(xs:List aQ)(kf kf':List (Ky×V))(wo wo':aQ->Option (List Int×V))(ns ns':List (Option V×List Int))(L:List aQ):Prop where
 nd:L.Nodup
 mem:∀y∈L,X.Vc y/\X.gv y.1 y.2.1=none/\aF kf (cK y)=none/\∃x∈xs,kY X x y
 fnd:∀y:aQ,X.gv y.1 y.2.1=none->y∉L->aF kf' (cK y)=aF kf (cK y)
 new:∀y∈L,(aF kf' (cK y)).isSome=true
 won:∀y,y∉L->wo' y=wo y
 wov:∀y∈L,∀d,(X.tree y).run X.val= .inl d->wo' y=wo y
 ns:ns'=ns++ L.filterMap (iD X wo)
theorem eB.nil{X:SX}:eB X [] kf kf wo wo ns ns []:=⟨List.nodup_nil,fun y hy=>(by cases hy),fun y gy _=>rfl,fun y hy=>(by cases hy),fun _ _=>rfl,fun y hy=>(by cases hy),by rw[List.filterMap_nil,List.append_nil]⟩
theorem a6b{X:SX}{y:aQ}(h:wo' y=wo y):iD X wo' y=iD X wo y:=by
 unfold iD
 rw[h]
theorem uP{α β:Type}{f g:α->Option β}:∀{l:List α},(∀y∈l,f y=g y)->l.filterMap f=l.filterMap g
 | [],_=>rfl
 |a::l,h=>by rw[List.filterMap_cons,List.filterMap_cons,h a aa,uP (fun y hy=>h y (List.mem_cons_of_mem _ hy))]
theorem eB.comp{X:SX}{xs xs':List aQ}{kf1 kf2:List (Ky×V)}{wo1 wo2:aQ->Option (List Int×V)}{ns1 ns2:List (Option V×List Int)}{L':List aQ}(a:eB X xs kf kf1 wo wo1 ns ns1 L)(b:eB X xs' kf1 kf2 wo1 wo2 ns1 ns2 L'):eB X (xs++ xs') kf kf2 wo wo2 ns ns2 (L++ L'):=by
 have dj:∀y∈L',y∉L:=fun y h1 h2=>by
  have e:=(b.mem y h1).2.2.1
  have e2:=a.new y h2
  rw[e]at e2
  cases e2
 refine⟨?_,fun y hy=> ?_,fun y gy hy=> ?_,fun y hy=> ?_,fun y hy=> ?_,fun y hy d hd=> ?_,?_⟩
 ·rw[List.nodup_append]
  exact⟨a.nd,b.nd,fun u hu v hv e=>dj v hv (e▸hu)⟩
 ·rcases List.mem_append.mp hy with hy|hy
  ·obtain⟨h1,h2,h3,x,h4,h5⟩:=a.mem y hy
   exact⟨h1,h2,h3,x,List.mem_append_left _ h4,h5⟩
  ·obtain⟨h1,h2,h3,x,h4,h5⟩:=b.mem y hy
   exact⟨h1,h2,by rw[<- a.fnd y h2 (dj y hy)];exact h3,x,List.mem_append_right _ h4,h5⟩
 ·rw[b.fnd y gy (fun h=>hy (List.mem_append_right _ h)),a.fnd y gy (fun h=>hy (List.mem_append_left _ h))]
 ·rcases List.mem_append.mp hy with hy|hy
  ·by_cases h:y∈L'
   ·exact b.new y h
   ·rw[b.fnd y (a.mem y hy).2.1 h]
    exact a.new y hy
  ·exact b.new y hy
 ·rw[b.won y (fun h=>hy (List.mem_append_right _ h)),a.won y (fun h=>hy (List.mem_append_left _ h))]
 ·rcases List.mem_append.mp hy with hy|hy
  ·rw[b.won y (fun h=>dj y h hy)]
   exact a.wov y hy d hd
  ·rw[b.wov y hy d hd,a.won y (dj y hy)]
 ·rw[b.ns,a.ns,List.filterMap_append,List.append_assoc]
  congr 2
  exact uP fun y hy=>a6b (a.won y (dj y hy))
theorem kY.fxdown{X:SX}{fx:List Addr}{x y:aQ}(h:kY {X with fx:=fx} x y):kY X x y:=by
 induction h with
 |refl=>exact .refl
 |step h hz g ih=>exact .step ih hz g
theorem eB.fxdown{X:SX}{fx:List Addr}{xs:List aQ}(h:eB {X with fx:=fx} xs kf kf' wo wo' ns ns' L):eB X xs kf kf' wo wo' ns ns' L:=
 ⟨h.nd,fun y hy=>let ⟨a,b,c,x,d,e⟩:=h.mem y hy;⟨a,b,c,x,d,e.fxdown⟩,h.fnd,h.new,h.won,h.wov,h.ns⟩
theorem a1t{α:Type}{p q:α->Bool}{x:α}:∀{l:List α},l.Nodup->x∈l->p x=true->q x=false->(∀y∈l,y≠x->q y=p y)->l.countP q+ 1=l.countP p
 | [],_,h,_,_,_=>by cases h
 |a::l,nd,h,hp,hq,he=>by
  rw[List.nodup_cons]at nd
  by_cases e:a=x
  ·subst e
   have hl:l.countP q=l.countP p:=by
    refine List.countP_congr fun y hy=> ?_
    rw[he y (List.mem_cons_of_mem _ hy) (fun z=>nd.1 (z▸hy))]
   rw[List.countP_cons_of_neg (by rw[hq];exact Bool.false_ne_true),List.countP_cons_of_pos hp,hl]
  ·have hx:x∈l:=(List.mem_cons.mp h).resolve_left (fun z=>e z.symm)
   have ih:=a1t nd.2 hx hp hq (fun y hy n=>he y (List.mem_cons_of_mem _ hy) n)
   have ha:=he a aa e
   rw[List.countP_cons,List.countP_cons,ha]
   omega
noncomputable def bX (X:SX) (kf:List (Ky×V)):Nat:=X.Rs.countP fun y=>(aF kf (cK y)).isNone
theorem a7b{X:SX}(O:gK X){st:List aQ}(pw:st.Pairwise fun a b=>X.rk a<X.rk b)(h:∀y∈st,X.Vc y/\X.gv y.1 y.2.1=none/\aF kf (cK y)=none):st.length<=bX X kf:=by
 have nd:st.Nodup:=pw.imp fun hab e=>by subst e;omega
 have:=uE (m:=X.Rs.filter fun y=>(aF kf (cK y)).isNone) nd (fun y hy=>List.mem_filter.mpr ⟨O.rs y (h y hy).1 (h y hy).2.1,by rw[(h y hy).2.2];rfl⟩)
 rw[bX,List.countP_eq_length_filter]
 exact this
theorem a3X{α β:Type}{R:α->β->Prop}:∀{xs:List α} {ys:List β} {y:β},Paired R xs (ys++ [y])->∃xs' x,xs=xs'++ [x] /\Paired R xs' ys/\R x y
 |_,[],_,.cons h .nil=>⟨[],_,rfl,.nil,h⟩
 |_,_::ys,_,.cons h t=>by
  obtain⟨xs',x,rfl,h1,h2⟩:=a3X (ys:=ys) t
  exact⟨_::xs',x,rfl,.cons h h1,h2⟩
section
theorem gK.fxup{X:SX}(O:gK X)(l:Addr):gK {X with fx:=l::X.fx}:=
 ⟨O.o,O.un,O.rr,O.ru,O.no,O.rf,O.gg,O.ft,O.mb,O.mm,O.md,O.cc,O.cl,O.fl,O.nu,O.ni,O.b8,O.ab,fun a e=>List.mem_cons_of_mem _ (O.cf a e),O.rs,O.rs',O.rn,O.sem,O.lks,O.oks⟩
theorem iC.fxup{fx:List Addr}{n:Int}(hl:∀ys,H l≠some (.lst ys)):∀{wo:Option (List Int×V)},iC fx H mk n wo->iC (l::fx) H mk n wo
 |none,h=>h
 |some jv,⟨tp,lo,a,b,c,d⟩=>⟨tp,lo,a,b,c,fun hm=>(List.mem_cons.mp hm).elim (fun y=>hl _ (y▸c)) d⟩
theorem iC.fxdown{fx:List Addr}{n:Int}:∀{wo:Option (List Int×V)},iC (l::fx) H mk n wo->iC fx H mk n wo
 |none,h=>h
 |some jv,⟨tp,lo,a,b,c,d⟩=>⟨tp,lo,a,b,c,fun hm=>d (List.mem_cons_of_mem _ hm)⟩
variable{X:SX}{mem:Str->Str->List (aB×V)}
theorem SB.fxup(S:SB P w K mg af RG CF CB CT zt X kf kl mem wo cs ns H)(hl:H l=none)(s:aH H H')(h':H' l≠none):SB P w K mg af RG CF CB CT zt {X with fx:=l::X.fx} kf kl mem wo cs ns H':=by
 have S':=S.same s
 have nl:∀ys,H l≠some (.lst ys):=fun ys y=>by rw[hl]at y;cases y
 exact⟨S'.F,S'.fd,S'.ko,S'.fo,S'.fp,S'.lp,S'.ln,S'.cz,S'.hl,S'.lo,S'.cols,S'.cd,S'.rg,S'.rm,S'.rt,S'.ra,fun x R a b=>⟨((S.me x R a b).1.fxup nl).mv rfl (bS.of s) (fun b ys _ e=>s _ _ e),(S'.me x R a b).2⟩,fun t c R j a b=>⟨((S.ab t c R j a b).1.fxup nl).mv rfl (bS.of s) (fun b ys _ e=>s _ _ e),(S'.ab t c R j a b).2⟩,S'.ca,fun h=>Paired.imp (fun a b ⟨lc,h1,h2⟩=>⟨lc,h1.mv (bS.of s) (s _ _ h1.1),fun hm=>(List.mem_cons.mp hm).elim (fun y=>nl _ (y▸h1.1)) h2⟩) (S.nt h),fun b hb=>(List.mem_cons.mp hb).elim (fun y=>y▸h') (S'.fx b),S'.tb⟩
theorem SB.fxdown(S:SB P w K mg af RG CF CB CT zt {X with fx:=l::X.fx} kf kl mem wo cs ns H):SB P w K mg af RG CF CB CT zt X kf kl mem wo cs ns H:=
 ⟨S.F,S.fd,S.ko,S.fo,S.fp,S.lp,S.ln,S.cz,S.hl,S.lo,S.cols,S.cd,S.rg,S.rm,S.rt,S.ra,fun x R a b=>⟨(S.me x R a b).1.fxdown,(S.me x R a b).2⟩,fun t c R j a b=>⟨(S.ab t c R j a b).1.fxdown,(S.ab t c R j a b).2⟩,S.ca,fun h=>Paired.imp (fun a b ⟨lc,h1,h2⟩=>⟨lc,h1,fun hm=>h2 (List.mem_cons_of_mem _ hm)⟩) (S.nt h),fun b hb=>S.fx b (List.mem_cons_of_mem _ hb),S.tb⟩
theorem SB.own(S:SB P w K mg af RG CF CB CT zt {X with fx:=l::X.fx} kf kl mem wo cs ns H){H0:Hp}{zs:List V}(hl:H l=some (.lst zs))(u:bC l H H')(h':H' l≠none)(nca:X.ca≠some l)(nr:∀tb∈X.tabs,l≠tb.2.r/\l≠tb.2.od)(nc:∀t c ys B,X.gv t c=some ys->(t,B)∈X.tabs->aF B.kvs (.inr c:aB)≠some (.ref l))(nt:∀t c R,X.rl t c=some R->l∉R.ft):SB P w K mg af RG CF CB CT zt {X with fx:=l::X.fx} kf kl mem wo cs ns H':=by
 have k1:∀b o,H b=some o->(∀y,o≠ .lst y)->H' b=some o:=fun b o e n=>u b o (fun y=>by rw[y,hl]at e;exact n _ (Option.some.inj e).symm) e
 have k2:∀b ys,b∉ [l] ->H b=some (.lst ys)->H' b=some (.lst ys):=fun b ys n e=>u b _ (fun y=>n (by rw[y];exact List.mem_singleton.mpr rfl)) e
 have k3:∀b ys,b∉l::X.fx->H b=some (.lst ys)->H' b=some (.lst ys):=fun b ys n e=>k2 b ys (fun hm=>n (by rw[List.mem_singleton.mp hm];exact aa)) e
 refine S.mv [l] (fun b o e n _=>k1 b o e n) k2 (fun b hb=> ?_) (fun b hb=> ?_) (fun b hb=> ?_) (fun b hb=> ?_) (fun b hb=> ?_) ⟨S.ca.1,fun a e=>u _ _ (fun y=>nca (y▸e)) (S.ca.2 a e)⟩ (fun h=>Paired.imp (fun a b h=>h.mv (fun a xs e=>k1 _ _ e nk) k3) (S.nt h)) ?_
 ·by_cases e:b=l
  ·rw[e];exact h'
  ·cases e2:H b with
   |none=>exact absurd e2 (S.fx b hb)
   |some o=>rw[u b o e e2];exact fun y=>by cases y
 ·rw[List.mem_singleton.mp hb];exact aa
 ·rw[List.mem_singleton.mp hb];exact nr
 ·rw[List.mem_singleton.mp hb];exact nc
 ·rw[List.mem_singleton.mp hb];exact nt
 ·exact nQ S.tb fun b o _ _ n e=>k1 b o e n
theorem SB.apart(S:SB P w K mg af RG CF CB CT zt X kf kl mem wo cs ns H)(hl:H l=none):X.ca≠some l/\(∀tb∈X.tabs,l≠tb.2.r/\l≠tb.2.od)/\(∀t c ys B,X.gv t c=some ys->(t,B)∈X.tabs->aF B.kvs (.inr c:aB)≠some (.ref l))/\∀t c R,X.rl t c=some R->l∉R.ft:=by
 refine⟨S.ca.new hl,fun tb htb=>⟨fun y=> ?_,fun y=> ?_⟩,fun t c ys B g h y=> ?_,fun t c R hR hm=> ?_⟩
 ·have:=(S.F tb htb).B.tab.rows
  rw[<- y,hl]at this;cases this
 ·have:=(S.F tb htb).B.ord
  rw[<- y,hl]at this;cases this
 ·obtain⟨l',h1,h2⟩:=S.cols t c ys B g h
  rw[y]at h1
  cases h1
  rw[hl]at h2;cases h2
 ·obtain⟨o,e,_⟩:=S.rt t c R hR l hm
  rw[hl]at e;cases e
end
section
def AtR(P:Program)(w:World)(K:Fg)(mg:Str->Option Value)(af:Heap)(RG:Addr->Sp->Prop)(CF CB CT zt:Addr)(C:Addr)(sp:Sp):Prop:=C=CF/\(sp=xR CF CB CT\/ sp=zN CF CB CT\/ sp=a0i P w K mg af RG CF CB CT zt)
inductive mC(P:Program)(w:World)(K:Fg)(mg:Str->Option Value)(af:Heap)(RG:Addr->Sp->Prop)(CF CB CT zt:Addr)(vs:List V)(H:Hp)(Q:VK)(E:XK):Prop
 |mk (X:SX) (x:aQ) (ce:Addr) (kf kl:List (Ky×V)) (mem:Str->Str->List (aB×V)) (wo:aQ->Option (List Int×V)) (cs:List V) (ns:List (Option V×List Int)):vs= [.ref X.fi,.ref ce] ->gK X->SB P w K mg af RG CF CB CT zt X kf kl mem wo cs ns H->jQ P w K mg af X H->cs.length+ X.Rs.length<900->X.Vc x->H ce=some (.tup ((cK x).map kV))->(∀H' v kf' kl' mem' wo' cs' ns' L,SB P w K mg af RG CF CB CT zt X kf' kl' mem' wo' cs' ns' H'->bV X zt H H'->aF kf' (cK x)=some v->Pd K H' v (X.val x)->eB X [x] kf kf' wo wo' ns ns' L->cs'.length+ bX X kf'<=cs.length+ bX X kf->Q v H')->mC P w K mg af RG CF CB CT zt vs H Q E
abbrev Nvo:List Str:=["self","cell","waiting","lacking"]
theorem xM:bD Nvo ["self","cell"] (aO a06):={}
theorem a3O(T:bF K mg){CR:Addr}(Rt:mV K mg CR)(Y:fC K mg CF)(Wb:dG K mg CB)(Z:dZ K mg CT){z:Addr×Addr}(B2:kF K mg "Finder" "gathered" "Finder.gathered" iB z)(M:kC mg af z.1 z.2)(hRG:∀C sp,RG C sp->cI K C/\aS P w K mg af aE 8 C "gather" ["self","look","many","table","column","place"] sp):aS P w K mg af aE 11 CF "value_of" ["self","cell"] (mC P w K mg af RG CF CB CT z.2):=by
 have G_at:∀C sp,AtR P w K mg af RG CF CB CT z.2 C sp->cI K C/\aS P w K mg af aE 10 C "attempt" ["self","cell"] sp:=fun C sp h=>by
  obtain⟨rfl,rfl|rfl|rfl⟩:=h
  ·exact⟨Y.cl,aS.le (a4U T Y Wb Z) (by decide)⟩
  ·exact⟨Y.cl,aS.le (a5o T Y Wb) (by decide)⟩
  ·exact⟨Y.cl,a6H T Rt Y Wb Z B2 M hRG⟩
 refine Y.m_value_of.known xM (fun _ _ _ _ _ _ us hl=>eC (fun _ _=>rfl) us hl) (fun vs H Q E h=> ?_) (fun f ah A ag s H vs Q E hr h=> ?_)
 ·obtain⟨X,x,ce,kf,kl,mem,wo,cs,ns,rfl,_⟩:=h
  rfl
 ·obtain⟨X,x,ce,kf,kl,mem,wo,cs,ns,rfl,O,S,fnA,c9,hV,hce,q⟩:=h
  have hu:=dQ hr
  refine⟨_,(aK (bU (i:=2) xM.nd rfl (Or.inl rfl) (fV (aA (pv 1) aG)))
   (aK (xY PassesOwn.never (a25 (pv 2) (fun _=>rfl)) (aK (bU (i:=3) xM.nd rfl (Or.inl rfl) (yQ (pv 0) G_at hr aR (aA (dA iY (pv 2) (yJ yL aY) (fun _ _=>rfl)) aG)))
   (aL (bK (cU pP (pv 3) gE (cO _)) (aL (cG (a0A F.plainAttrs_list F.slot_list_pop F.type_list_pop a7y (pv 2)))) (aL (cG (kI F.plainAttrs_list F.slot_list_append F.type_list_append jN (pv 2) (aA (pv 3) aG))))))))
   (aL (bL (fQ hu (aW (pv 0) rfl) (pv 1) (fun _ _=>rfl)))))),?_⟩
  refine⟨_,rfl,sl,fun wl hwl=> ?_⟩
  have s1:=aH.new (o:=.lst [.ref ce]) hwl
  have w1:upd H wl (.lst [.ref ce]) wl=some (.lst [.ref ce]):=aJ
  generalize upd H wl (.lst [.ref ce])=H1 at s1 w1|-
  obtain⟨nca,nr,nc,nft⟩:=S.apart hwl
  have O1:=O.fxup wl
  have S1:=S.fxup hwl s1 (by rw[w1];exact fun y=>by cases y)
  have fn1:=fnA.keep (cL.of s1)
  have ce1:=s1 _ _ hce
  obtain⟨kin,B,hB,hp,hcase⟩:=O.o.v x hV
  have nz:∀{Hx:Hp} {kf' kl':List (Ky×V)} {mem':Str->Str->List (aB×V)} {wo':aQ->Option (List Int×V)} {cs':List V} {ns':List (Option V×List Int)} {zs:List V},SB P w K mg af RG CF CB CT z.2 {X with fx:=wl::X.fx} kf' kl' mem' wo' cs' ns' Hx->∀{H':Hp},bV X z.2 Hx H'->Hx wl=some (.lst zs)->H' wl=some (.lst zs):= @fun Hx kf' kl' mem' wo' cs' ns' zs S' H' f e=>S'.k f e nk nk nk nca
  let Fin:Hp->Prop:=fun H2=>∃kf' kl' mem' wo' cs' ns' v L,SB P w K mg af RG CF CB CT z.2 {X with fx:=wl::X.fx} kf' kl' mem' wo' cs' ns' H2/\bV X z.2 H H2/\aF kf' (cK x)=some v/\Pd K H2 v (X.val x)/\eB X [x] kf kf' wo wo' ns ns' L/\cs'.length+ bX X kf'<=cs.length+ bX X kf/\H2 ce=some (.tup ((cK x).map kV))
  have ret:∀(H2:Hp) (o3:Option V),Fin H2->(∃y,some y= [some (V.ref X.fi),some (V.ref ce),some (V.ref wl),o3][0]?.join/\True)->True:=fun _ _ _ _=>trivial
  have base1:∀{σ:St} {H2:Hp} {o3:Option V},Fin H2->σ= [some (.ref X.fi),some (.ref ce),some (.ref wl),o3] ->∃v kf' d,H2 X.fi=some (.ins CF d (gD X.bd X.fd X.lk))/\H2 X.fd=some (.dT kf')/\H2 ce=some (.tup ((cK x).map kV))/\aF kf' (cK x)=some v/\Q v H2:=fun{σ H2 o3} h _=>by
   obtain⟨kf',kl',mem',wo',cs',ns',v,L,S2,f2,hv,hpd,ve,hc,c2⟩:=h
   obtain⟨d2,e2⟩:=(S2.F _ hB).fin
   exact⟨v,kf',d2,e2,S2.fd,c2,hv,q H2 v kf' kl' mem' wo' cs' ns' L S2.fxdown f2 hv hpd ve hc⟩
  have fin:∀{H2:Hp} {o3:Option V},Fin H2->∃v1,some (some (V.ref X.fi))=some (some v1)/\∃p C dx fs v,v1= .ref p/\H2 p=some (.ins C dx fs)/\cI K C/\cH K C "found" /\fs.lookup ("found":Str)=some v/\∃v2,some (some (V.ref ce))=some (some v2)/\∃d r,v= .ref d/\bW H2 d v2 (some r)/\Q r H2:=fun{H2 o3} h=>by
   obtain⟨v,kf',d,e1,e2,e3,e4,e5⟩:=base1 (o3:=o3) h rfl
   exact⟨_,rfl,X.fi,CF,d,_,_,rfl,e1,Y.cl,Y.n_found,(iX _ _ _).2.1,_,rfl,X.fd,v,rfl,.inr ⟨kf',cK x,ce,.inl e2,rfl,e3,e4.symm⟩,e5⟩
  have popped:∀{H2:Hp},(∃kf' kl' mem' wo' cs' ns' v L,SB P w K mg af RG CF CB CT z.2 {X with fx:=wl::X.fx} kf' kl' mem' wo' cs' ns' H2/\bV X z.2 H H2/\aF kf' (cK x)=some v/\Pd K H2 v (X.val x)/\eB X [x] kf kf' wo wo' ns ns' L/\cs'.length+ bX X kf'<=cs.length+ bX X kf)->∀{zs:List V},H2 wl=some (.lst zs)->H2 ce=some (.tup ((cK x).map kV))->Fin (upd H2 wl (.lst [])):=fun{H2} h {zs} h2 hc2=>by
   obtain⟨kf',kl',mem',wo',cs',ns',v,L,S2,f2,hv,hpd,ve,hc⟩:=h
   have u:bC wl H2 (upd H2 wl (.lst [])):=fun b o n e=>by rw[aI n];exact e
   have ktt:dP H2 (upd H2 wl (.lst [])):=dP.upd h2 nk (fun _ _ y=>by cases y)
   exact⟨kf',kl',mem',wo',cs',ns',v,L,S2.own (H0:=H) h2 u (by rw[aJ];exact fun y=>by cases y) nca nr nc nft,fun b o n1 n2 n3 n4 n5 e=>u _ _ (bE e hwl) (f2 b o n1 n2 n3 n4 n5 e),hv,hpd.keep ktt,ve,hc,u _ _ (fun y=>by rw[y,h2]at hc2;cases hc2) hc2⟩
  rcases hcase with⟨ys,g,ly,ncl,hru⟩|⟨g,r,hru⟩
  ·obtain⟨l,hkv,hlc⟩:=S1.cols x.1 x.2.1 ys B g hB
   have hpy:x.2.2<ys.length:=by rw[ly];exact hp
   obtain⟨v,hv'⟩:∃v,ys[x.2.2]?=some v:=⟨_,List.getElem?_eq_getElem hpy⟩
   have ha:=kW hv'
   have kl8:kf.length<=X.Ks.length:=S1.ko.len
   have k8:=O.o.k8
   refine⟨fun m σ H2=>(m=1/\σ= [some (.ref X.fi),some (.ref ce),some (.ref wl),none] /\H2=H1)\/ (m=0/\∃o3,σ= [some (.ref X.fi),some (.ref ce),some (.ref wl),o3] /\H2 wl=some (.lst [])/\Fin H2),⟨1,.inl ⟨rfl,rfl,rfl⟩⟩,?_⟩
   rintro m σ H2 (⟨rfl,rfl,rfl⟩|⟨rfl,o3,rfl,h2,hF⟩)
   ·refine⟨_,rfl,_,.inl ⟨_,aM.of w1,rfl⟩,?_⟩
    refine dM (fun _=> ?_) (fun g=>absurd rfl g)
    refine⟨fun σ' H'=>∃m',m'<1/\((m'=1/\σ'= [some (.ref X.fi),some (.ref ce),some (.ref wl),none] /\H'=H2)\/ (m'=0/\∃o3,σ'= [some (.ref X.fi),some (.ref ce),some (.ref wl),o3] /\H' wl=some (.lst [])/\Fin H')),fun σ' H' h=>h,?_⟩
    obtain⟨d1,e1⟩:=(S1.F _ hB).fin
    refine⟨_,rfl,CF,_,X.fi,d1,_,⟨rfl,.inl rfl⟩,rfl,e1,gP,_,rfl,_,rfl,wl,_,_,_,rfl,rfl,aM.of w1,rfl,?_⟩
    refine⟨X.fi,X.bd,X.fd,X.lk,ce,l,x.1,x.2.1,x.2.2,B,kf,ys,v,rfl,S1.F _ hB,ce1,hru,ncl,hkv,hlc,hp,ha,fun v' e=> ?_,by show kf.length<899;omega,fun H3 kf' hk vk F3 b3=> ?_⟩
    ·have:=S1.fo _ _ _ v' ys g e
     rw[ha]at this
     exact(Option.some.inj this).symm
    refine⟨_,rfl,rfl,_,rfl,cE ?_⟩
    have f3:bV X z.2 H2 H3:=fun b o n1 _ _ _ _ e=>b3 b o n1 e
    have kt3:=S1.ktt f3
    have kl3:=S1.kl' O1 f3
    have n3:∀{b:Addr} {o:HO},H2 b=some o->(∀y,o≠ .dT y)->H3 b=some o:=fun e n=>b3 _ _ (fun y=>by rw[y,S1.fd]at e;exact n _ (Option.some.inj e).symm) e
    have same:∀y:aQ,X.gv y.1 y.2.1=none->aF kf' (cK y)=aF kf (cK y):=fun y gy=>by
     rcases hk with rfl|rfl
     ·rfl
     ·rw[fD,if_neg (fun h=>by
       have:=rL (x:=y) (y:=x) h
       subst this
       rw[g]at gy
       cases gy)]
    have ko':eF X.Ks kf':=by
     rcases hk with rfl|rfl
     ·exact S1.ko
     ·exact S1.ko.put kin
    have S3:SB P w K mg af RG CF CB CT z.2 {X with fx:=wl::X.fx} kf' kl mem wo cs ns H3:=S1.to O1 f3 F3.fnd ko' (fun t' c' p' v' ys' g' e=>by
     rcases hk with rfl|rfl
     ·exact S1.fo t' c' p' v' ys' g' e
     ·rw[fD]at e
      split at e
      ·next h=>
       have:=rL (x:=(t',c',p')) (y:=x) h
       subst this
       rw[show X.gv t' c'=some ys from g]at g'
       rw[<- Option.some.inj g',<- Option.some.inj e]
       exact ha
      ·exact S1.fo t' c' p' v' ys' g' e) (fun x' v' a b c=>by
      rw[same x' b]at c
      exact⟨(S1.fp x' v' a b c).1.keep kt3,(S1.fp x' v' a b c).2⟩) (fun x' v' a b c=>by
      rw[same x' b]at c
      obtain⟨tl',kt',h1,h2,h3,h4,h5⟩:=S1.lp x' v' a b c
      exact⟨tl',kt',h1,b3 _ _ h3 h2,h3,h4,h5⟩) (fun x' a b c=>by
      rw[same x' b]at c
      exact S1.ln x' a b c) (fun x' v' a b c y hy gy=>by
      rw[same x' b]at c
      rw[same y gy]
      exact S1.cz x' v' a b c y hy gy) (b3 _ _ O.fl.symm S1.hl) S1.lo (fun t c R' h=>⟨n3 (S1.rm t c R' h).1 nk,(S1.rm t c R' h).2⟩) (fun x' R' a b=>⟨(S1.me x' R' a b).1.mv rfl kt3.t kl3,fun is v e=>((S1.me x' R' a b).2 is v e).keep kt3⟩) (fun t c R' j a b=>⟨(S1.ab t c R' j a b).1.mv rfl kt3.t kl3,fun is v e=>((S1.ab t c R' j a b).2 is v e).keep kt3⟩) ⟨S1.ca.1,fun a e=>n3 (S1.ca.2 a e) nk⟩ (fun h=>Paired.imp (fun a b h=>h.mv kt3.t kl3) (S1.nt h)) (nQ S1.tb fun b o n1 _ _ e=>n3 e n1)
    have w3:=n3 w1 nk
    refine⟨_,rfl,.inl ⟨rfl,_,aM.of w3⟩,wl,_,_,rfl,rfl,w3,rfl,0,by decide,.inr ⟨rfl,_,rfl,aJ,popped ⟨kf',kl,mem,wo,cs,ns,v,[],S3,(bV.of s1).trans f3,vk,(S1.cd _ _ _ _ _ g ha).keep kt3,⟨List.nodup_nil,fun y hy=>(by cases hy),fun y gy _=>same y gy,fun y hy=>(by cases hy),fun _ _=>rfl,fun y hy=>(by cases hy),by rw[List.filterMap_nil,List.append_nil]⟩,?_⟩ w3 (n3 ce1 nk)⟩⟩
    rw[bX,bX]
    have:X.Rs.countP (fun y=>(aF kf' (cK y)).isNone)=X.Rs.countP (fun y=>(aF kf (cK y)).isNone):=List.countP_congr fun y hy=>by rw[same y (O.rs' y hy)]
    omega
   ·refine⟨_,rfl,_,.inl ⟨_,aM.of h2,rfl⟩,?_⟩
    exact dM (fun g=>by cases g) (fun _=>fin (o3:=o3) hF)
  ·obtain⟨R,hR⟩:=O.rr x hV g
   cases hk:aF kf (cK x)with
   |some v=>
    refine⟨fun m σ H2=>(m=1/\σ= [some (.ref X.fi),some (.ref ce),some (.ref wl),none] /\H2=H1)\/ (m=0/\∃o3,σ= [some (.ref X.fi),some (.ref ce),some (.ref wl),o3] /\H2 wl=some (.lst [])/\Fin H2),⟨1,.inl ⟨rfl,rfl,rfl⟩⟩,?_⟩
    rintro m σ H2 (⟨rfl,rfl,rfl⟩|⟨rfl,o3,rfl,h2,hF⟩)
    ·refine⟨_,rfl,_,.inl ⟨_,aM.of w1,rfl⟩,?_⟩
     refine dM (fun _=> ?_) (fun g=>absurd rfl g)
     refine⟨fun σ' H'=>∃m',m'<1/\((m'=1/\σ'= [some (.ref X.fi),some (.ref ce),some (.ref wl),none] /\H'=H2)\/ (m'=0/\∃o3,σ'= [some (.ref X.fi),some (.ref ce),some (.ref wl),o3] /\H' wl=some (.lst [])/\Fin H')),fun σ' H' h=>h,?_⟩
     obtain⟨d1,e1⟩:=(S1.F _ hB).fin
     refine⟨_,rfl,CF,_,X.fi,d1,_,⟨rfl,.inr (.inl rfl)⟩,rfl,e1,gP,_,rfl,_,rfl,wl,_,_,_,rfl,rfl,aM.of w1,rfl,?_⟩
     refine⟨X.fi,X.bd,X.fd,X.lk,ce,x.1,x.2.1,x.2.2,B,kf,r,v,rfl,S1.F _ hB,ce1,hru,hk,?_⟩
     refine⟨_,rfl,rfl,_,rfl,cE ?_⟩
     exact⟨_,rfl,.inl ⟨rfl,_,aM.of w1⟩,wl,_,_,rfl,rfl,w1,rfl,0,by decide,.inr ⟨rfl,_,rfl,aJ,popped ⟨kf,kl,mem,wo,cs,ns,v,[],S1,bV.of s1,hk,(S1.fp x v hV g hk).1,⟨List.nodup_nil,fun y hy=>(by cases hy),fun y gy _=>rfl,fun y hy=>(by cases hy),fun _ _=>rfl,fun y hy=>(by cases hy),by rw[List.filterMap_nil,List.append_nil]⟩,Nat.le_refl _⟩ w1 ce1⟩⟩
    ·refine⟨_,rfl,_,.inl ⟨_,aM.of h2,rfl⟩,?_⟩
     exact dM (fun g=>by cases g) (fun _=>fin (o3:=o3) hF)
   |none=>
    let Stk:Nat->St->Hp->Prop:=fun m σ H2=>∃(o3:Option V) (st:List aQ) (vs:List V) (kf' kl':List (Ky×V)) (mem':Str->Str->List (aB×V)) (wo':aQ->Option (List Int×V)) (cs':List V) (ns':List (Option V×List Int)) (L:List aQ),σ= [some (.ref X.fi),some (.ref ce),some (.ref wl),o3] /\SB P w K mg af RG CF CB CT z.2 {X with fx:=wl::X.fx} kf' kl' mem' wo' cs' ns' H2/\jQ P w K mg af X H2/\bV X z.2 H H2/\H2 wl=some (.lst vs)/\Paired (oB H2) vs st.reverse/\H2 ce=some (.tup ((cK x).map kV))/\st.Pairwise (fun a b=>X.rk a<X.rk b)/\(∀y∈st,X.Vc y/\X.gv y.1 y.2.1=none/\aF kf' (cK y)=none/\kY X x y)/\(x∈st\/ (aF kf' (cK x)).isSome=true)/\eB X [x] kf kf' wo wo' ns ns' L/\cs'.length+ bX X kf'<=cs.length+ bX X kf/\m=2* bX X kf'- st.length
    have stlen:∀{st:List aQ} {kf':List (Ky×V)},st.Pairwise (fun a b=>X.rk a<X.rk b)->(∀y∈st,X.Vc y/\X.gv y.1 y.2.1=none/\aF kf' (cK y)=none/\kY X x y)->st.length<=bX X kf':=fun pw h=>a7b O pw fun y hy=>⟨(h y hy).1,(h y hy).2.1,(h y hy).2.2.1⟩
    have ulen:bX X kf<=X.Rs.length:=List.countP_le_length
    refine⟨Stk,⟨_,none,[x],[.ref ce],kf,kl,mem,wo,cs,ns,[],rfl,S1,fn1,bV.of s1,w1,.cons ⟨ce,rfl,ce1⟩ .nil,ce1,List.pairwise_singleton _ _,fun y hy=> ?_,.inl (List.mem_singleton.mpr rfl),⟨List.nodup_nil,fun y hy=>(by cases hy),fun y gy _=>rfl,fun y hy=>(by cases hy),fun _ _=>rfl,fun y hy=>(by cases hy),by rw[List.filterMap_nil,List.append_nil]⟩,Nat.le_refl _,rfl⟩,?_⟩
    ·rw[List.mem_singleton.mp hy]
     exact⟨hV,g,hk,.refl⟩
    rintro m σ H2 ⟨o3,st,vs,kf',kl',mem',wo',cs',ns',L,rfl,S2,fn2,f2,h2,hvs,c2,pw,hst,hx,ve,hc,rfl⟩
    cases st with
    |nil=>
     cases hvs
     refine⟨_,rfl,_,.inl ⟨_,aM.of h2,rfl⟩,?_⟩
     refine dM (fun g=>by cases g) (fun _=> ?_)
     have hx:(aF kf' (cK x)).isSome=true:=hx.resolve_left (fun h=>by cases h)
     obtain⟨v,hv⟩:=Option.isSome_iff_exists.mp hx
     exact fin (o3:=o3) ⟨kf',kl',mem',wo',cs',ns',v,L,S2,f2,hv,(S2.fp x v hV g hv).1,ve,hc,c2⟩
    |cons aV cT=>
     have ml:=stlen pw hst
     rw[List.reverse_cons]at hvs
     obtain⟨vs',tv,rfl,hvs',ta,rfl,hta⟩:=a3X hvs
     obtain⟨tV,tg,tn,tD⟩:=hst aV aa
     obtain⟨R2,hR2⟩:=O.rr aV tV tg
     refine⟨_,rfl,_,.inl ⟨_,aM.of h2,rfl⟩,?_⟩
     refine dM (fun _=> ?_) (fun g=>absurd (by cases vs'<;>rfl) g)
     refine⟨fun σ' H'=>∃m',m'<2* bX X kf'- (aV::cT).length/\Stk m' σ' H',fun σ' H' h=>h,?_⟩
     obtain⟨d2,e2⟩:=(S2.F _ hB).fin
     refine⟨_,rfl,CF,_,X.fi,d2,_,⟨rfl,.inr (.inr rfl)⟩,rfl,e2,gP,_,rfl,_,rfl,wl,_,_,_,rfl,rfl,aM.of h2,zF _ _,?_⟩
     have hlen:=Paired.length hvs'
     rw[List.length_reverse]at hlen
     have rl:cT.length+ 1<=bX X kf':=ml
     refine⟨{X with fx:=wl::X.fx},aV,R2,ta,kf',kl',mem',wo',cs',ns',rfl,O1,S2,fn2,by omega,tV,hR2,tn,hta,fun H3 rr kf3 kl3 mem3 wo3 cs3 ns3 S3 f3 en=> ?_⟩
     have f3:bV X z.2 H2 H3:=f3
     have kt3:=S2.ktt f3
     have w3:=nz S2 f3 h2
     have c3:=kt3.t _ _ c2
     have fn3:=fn2.keep (S2.kz f3)
     have fr3:=f2.trans f3
     have hvs3:Paired (oB H3) vs' cT.reverse:=Paired.imp (fun a b h=>h.keep kt3.t) hvs'
     have hwlH:∀{b:Addr} {o:HO},H b=some o->b≠wl:=fun e=>bE e hwl
     rcases en with⟨rfl,rfl,rfl,la,y,rfl,hla,hy,gy,ny,same⟩|⟨rfl,cl3,v,hv,same,en⟩
     ·
      refine⟨_,rfl,rfl,_,rfl,bH ?_⟩
      refine⟨_,rfl,.inl ⟨rfl,_,aM.of w3⟩,_,rfl,wl,_,_,rfl,rfl,w3,dJ (by rw[List.length_append];show vs'.length+ 1<=1000;omega),?_⟩
      have u:bC wl H3 (upd H3 wl (.lst (vs'++ [.ref ta] ++ [.ref la]))):=fun b o n e=>by rw[aI n];exact e
      have ktt:bS H3 (upd H3 wl (.lst (vs'++ [.ref ta] ++ [.ref la]))):=bS.upd w3 nk
      have kz4:cL H3 (upd H3 wl (.lst (vs'++ [.ref ta] ++ [.ref la]))):=cL.but u w3 nk
      obtain⟨yV,yr⟩:=O.lks aV R2 tV hR2 y hy
      have yr:=yr gy
      have uu:bX X kf3=bX X kf':=List.countP_congr fun z' hz=>by rw[same z' (O.rs' z' hz)]
      refine⟨2* bX X kf3- (y::aV::cT).length,by rw[uu];show 2* bX X kf'- (cT.length+ 1+ 1)<2* bX X kf'- (cT.length+ 1);omega,_,y::aV::cT,_,kf3,kl3,mem3,wo3,cs3,ns3,L,rfl,S3.own (H0:=H) w3 u (by rw[aJ];exact fun y=>by cases y) nca nr nc nft,fn3.keep kz4,fun b o n1 n2 n3 n4 n5 e=>u _ _ (hwlH e) (fr3 b o n1 n2 n3 n4 n5 e),aJ,?_,ktt _ _ c3,?_,fun y' hy'=> ?_,?_,?_,by rw[uu];exact hc,rfl⟩
      ·rw[List.reverse_cons,List.reverse_cons]
       exact Paired.snoc ⟨la,rfl,ktt _ _ hla⟩ (Paired.snoc ⟨ta,rfl,ktt _ _ (kt3.t _ _ hta)⟩ (Paired.imp (fun a b h=>h.keep ktt) hvs3))
      ·refine List.pairwise_cons.mpr ⟨fun b hb=> ?_,pw⟩
       rcases List.mem_cons.mp hb with rfl|hb
       ·exact yr
       ·exact Nat.lt_trans yr ((List.pairwise_cons.mp pw).1 b hb)
      ·rcases List.mem_cons.mp hy' with rfl|hy'
       ·exact⟨yV,gy,by rw[same y' gy];exact ny,.step tD hy gy⟩
       ·obtain⟨a1,a2,a3,a4⟩:=hst y' hy'
        exact⟨a1,a2,by rw[same y' a2];exact a3,a4⟩
      ·rcases hx with hx|hx
       ·exact .inl (List.mem_cons_of_mem _ hx)
       ·exact .inr (by rw[same x g];exact hx)
      ·exact⟨ve.nd,ve.mem,fun y' g' n'=>by rw[same y' g',ve.fnd y' g' n'],fun y' h'=>by rw[same y' (ve.mem y' h').2.1];exact ve.new y' h',ve.won,ve.wov,ve.ns⟩
     ·
      refine⟨_,rfl,rfl,_,rfl,cE ?_⟩
      refine⟨_,rfl,.inl ⟨rfl,_,aM.of w3⟩,wl,_,.ref ta,rfl,rfl,w3,by rw[List.length_append];show(vs'++ [V.ref ta])[vs'.length+ 1- 1]?=_;rw[Nat.add_sub_cancel,List.getElem?_append_right (Nat.le_refl _),Nat.sub_self];rfl,?_⟩
      rw[List.dropLast_concat]
      have u:bC wl H3 (upd H3 wl (.lst vs')):=fun b o n e=>by rw[aI n];exact e
      have ktt:bS H3 (upd H3 wl (.lst vs')):=bS.upd w3 nk
      have kz4:cL H3 (upd H3 wl (.lst vs')):=cL.but u w3 nk
      have uu:bX X kf3+ 1=bX X kf':=a1t (p:=fun y=>(aF kf' (cK y)).isNone) (q:=fun y=>(aF kf3 (cK y)).isNone) O.rn (O.rs aV tV tg) (by rw[tn];rfl) (by rw[hv];rfl) (fun y hy n=>by rw[same y (O.rs' y hy) n])
      have tnL:aV∉L:=fun hm=>by have:=ve.new aV hm;rw[tn]at this;cases this
      have wtop:wo' aV=wo aV:=ve.won aV tnL
      have pw2:=List.pairwise_cons.mp pw
      have nrest:∀y∈cT,y≠aV:=fun y hy e=>by have:=pw2.1 y hy;rw[e]at this;omega
      refine⟨2* bX X kf3- cT.length,by show 2* bX X kf3- cT.length<2* bX X kf'- (cT.length+ 1);omega,_,cT,_,kf3,kl3,mem3,wo3,cs3,ns3,L++ [aV],rfl,S3.own (H0:=H) w3 u (by rw[aJ];exact fun y=>by cases y) nca nr nc nft,fn3.keep kz4,fun b o n1 n2 n3 n4 n5 e=>u _ _ (hwlH e) (fr3 b o n1 n2 n3 n4 n5 e),aJ,Paired.imp (fun a b h=>h.keep ktt) hvs3,ktt _ _ c3,pw2.2,fun y' hy'=> ?_,?_,?_,by omega,rfl⟩
      ·obtain⟨a1,a2,a3,a4⟩:=hst y' (List.mem_cons_of_mem _ hy')
       exact⟨a1,a2,by rw[same y' a2 (nrest y' hy')];exact a3,a4⟩
      ·by_cases hxt:x=aV
       ·exact .inr (by rw[hxt,hv];rfl)
       ·rcases hx with hx|hx
        ·exact .inl ((List.mem_cons.mp hx).resolve_left hxt)
        ·exact .inr (by rw[same x g hxt];exact hx)
      ·have hwo3:(∀y,y≠aV->wo3 y=wo' y)/\(∀d,(X.tree aV).run X.val= .inl d->wo3 aV=wo' aV)/\ns3=ns'++ (iD X wo aV).toList:=by
        unfold iD
        rw[hR2]
        have en:vB R2 aV wo' wo3 ns' ns3 v ((X.tree aV).run X.val):=en
        cases hrun:(X.tree aV).run X.val with
        |inl d=>
         rw[hrun]at en
         obtain⟨rfl,rfl⟩:=en
         exact⟨fun _ _=>rfl,fun _ _=>rfl,(List.append_nil _).symm⟩
        |inr is=>
         rw[hrun]at en
         rcases en with⟨h1,rfl,rfl⟩|⟨h1,rfl,rfl⟩
         ·rw[wtop]at h1
          refine⟨fun _ _=>rfl,fun _ _=>rfl,?_⟩
          rw[h1]
          show _=_++ (if some is=some is then none else some (R2.mrk,is)).toList
          rw[if_pos rfl]
          exact(List.append_nil _).symm
         ·refine⟨fun y n=>if_neg n,fun d e=>(by cases e),?_⟩
          rw[wtop]at h1
          show _=_++ (if(wo aV).map (·.1)=some is then none else some (R2.mrk,is)).toList
          rw[if_neg (fun y=>by
           obtain⟨jv,e1,e2⟩:=Option.map_eq_some_iff.mp y
           exact h1 jv.2 (by rw[e1,<- e2]))]
          rfl
       obtain⟨hw1,hw2,hw3⟩:=hwo3
       refine⟨?_,fun y hy=> ?_,fun y gy hy=> ?_,fun y hy=> ?_,fun y hy=> ?_,fun y hy d hd=> ?_,?_⟩
       ·rw[List.nodup_append]
        exact⟨ve.nd,List.pairwise_singleton _ _,fun a ha b hb=>by rw[List.mem_singleton]at hb;subst hb;exact fun y=>tnL (y▸ha)⟩
       ·rcases List.mem_append.mp hy with hy|hy
        ·exact ve.mem y hy
        ·rw[List.mem_singleton.mp hy]
         exact⟨tV,tg,by rw[<- ve.fnd aV tg tnL];exact tn,x,List.mem_singleton.mpr rfl,tD⟩
       ·have h1:y∉L:=fun h=>hy (List.mem_append_left _ h)
        have h2:y≠aV:=fun h=>hy (List.mem_append_right _ (List.mem_singleton.mpr h))
        rw[same y gy h2,ve.fnd y gy h1]
       ·rcases List.mem_append.mp hy with hy|hy
        ·rw[same y (ve.mem y hy).2.1 (fun e=>tnL (e▸hy))]
         exact ve.new y hy
        ·rw[List.mem_singleton.mp hy,hv];rfl
       ·have h1:y∉L:=fun h=>hy (List.mem_append_left _ h)
        have h2:y≠aV:=fun h=>hy (List.mem_append_right _ (List.mem_singleton.mpr h))
        rw[hw1 y h2,ve.won y h1]
       ·rcases List.mem_append.mp hy with hy|hy
        ·rw[hw1 y (fun e=>tnL (e▸hy))]
         exact ve.wov y hy d hd
        ·have:=List.mem_singleton.mp hy
         subst this
         rw[hw2 d hd,wtop]
       ·rw[hw3,ve.ns,List.filterMap_append,List.append_assoc]
        congr 1
end
section
variable{X:SX}{mem:Str->Str->List (aB×V)}
theorem SB.sh(S:SB P w K mg af RG CF CB CT zt X kf kl mem wo cs ns H){s:Addr}(hs:∃dx,H s=some (.ins CS dx (dF X.bd ch X.fi))){nm:Str}{B:BM}(hB:(nm,B)∈X.tabs)(nn:Nl nm):∃kb,ShAt CS CB CT s X.bd ch X.fi kb nm B H:=by
 obtain⟨kb,e2,e3⟩:=(S.F _ hB).bds
 exact⟨kb,hs,e2,nn,e3,(S.F _ hB).B⟩
theorem sc_T(O:gK X)(S:SB P w K mg af RG CF CB CT zt X kf kl mem wo cs ns H)(fnA:jQ P w K mg af X H){s:Addr}(hs:∃dx,H s=some (.ins CS dx (dF X.bd ch X.fi))){nm:Str}{B:BM}(hB:(nm,B)∈X.tabs)(nn:Nl nm)(nc:Nl c)(co:c∈B.ord)(hV:X.Vc (nm,c,p))(c9:cs.length+ X.Rs.length<900){Q:VK}
 (q:∀H' v kf' kl' mem' wo' cs' ns' L,SB P w K mg af RG CF CB CT zt X kf' kl' mem' wo' cs' ns' H'->bV X zt H H'->aF kf' (cK (nm,c,p))=some v->Pd K H' v (X.val (nm,c,p))->eB X [(nm,c,p)] kf kf' wo wo' ns ns' L->cs'.length+ bX X kf'<=cs.length+ bX X kf->Q v H'):
 spSc CS CF CB CT (mC P w K mg af RG CF CB CT zt) [.ref s,.str nm,.str c,.int (p:Int)] H Q E0:=by
 obtain⟨kb,hS⟩:=S.sh hs hB nn
 obtain⟨B',hB',hp⟩:=O.B hV
 have:=O.un _ _ _ hB hB'
 subst this
 obtain⟨df,hfi⟩:=(S.F _ hB).fin
 refine⟨s,X.bd,ch,X.fi,df,kb,nm,c,p,B,_,rfl,hS,nc,co,hp,hfi,gP,fun H1 ce hce s1 c1=> ?_⟩
 exact⟨X,(nm,c,p),ce,kf,kl,mem,wo,cs,ns,rfl,O,S.same s1,fnA.keep (cL.of s1),c9,hV,c1,fun H' v kf' kl' mem' wo' cs' ns' L S' f' hv pd ve hc=>q H' v kf' kl' mem' wo' cs' ns' L S' ((bV.of s1).trans f') hv pd ve hc⟩
theorem SB.hs(S:SB P w K mg af RG CF CB CT zt X kf kl mem wo cs ns H){s:Addr}(hs:∃dx,H s=some (.ins CS dx (dF X.bd ch X.fi)))(f:bV X zt H H'):∃dx,H' s=some (.ins CS dx (dF X.bd ch X.fi)):=hs.imp fun _ e=>S.k f e (fun _ z=>by cases z) (fun _ z=>by cases z) (fun _ z=>by cases z) (S.nl e (fun _ z=>by cases z))
noncomputable def dH (nm c:Str) (a n:Nat):List aQ:=(List.range n).map fun i=>(nm,c,a+ i)
theorem sM(nm c:Str)(a n:Nat):dH nm c a (n+ 1)=dH nm c a n++ [(nm,c,a+ n)]:=by
 unfold dH
 rw[List.range_succ,List.map_append]
 rfl
inductive tN(P:Program)(w:World)(K:Fg)(mg:Str->Option Value)(af:Heap)(RG:Addr->Sp->Prop)(CS CF CB CT zt:Addr)(vs:List V)(H:Hp)(Q:VK)(E:XK):Prop
 |mk (X:SX) (s ch:Addr) (nm c:Str) (a n:Nat) (B:BM) (kf kl:List (Ky×V)) (mem:Str->Str->List (aB×V)) (wo:aQ->Option (List Int×V)) (cs:List V) (ns:List (Option V×List Int)):vs= [.ref s,.str nm,.str c,.int (a:Int),.int ((a+ n:Nat):Int)] ->gK X->SB P w K mg af RG CF CB CT zt X kf kl mem wo cs ns H->jQ P w K mg af X H->(∃dx,H s=some (.ins CS dx (dF X.bd ch X.fi)))->(nm,B)∈X.tabs->Nl nm->Nl c->c∈B.ord->a+ n<=B.xs.length->B.xs.length<=30->(∀p,p<B.xs.length->X.Vc (nm,c,p))->cs.length+ bX X kf+ X.Rs.length<900->(∀H' l ys kf' kl' mem' wo' cs' ns' L,H l=none->H' l=some (.lst ys)->Paired (Pd K H') ys ((dH nm c a n).map X.val)->SB P w K mg af RG CF CB CT zt {X with fx:=l::X.fx} kf' kl' mem' wo' cs' ns' H'->bV X zt H H'->(∀x∈dH nm c a n,X.gv x.1 x.2.1=none->(aF kf' (cK x)).isSome=true)->eB X (dH nm c a n) kf kf' wo wo' ns ns' L->cs'.length+ bX X kf'<=cs.length+ bX X kf->Q (.ref l) H')->tN P w K mg af RG CS CF CB CT zt vs H Q E
abbrev tF:List Str:=["self","table","column","start","end","many"]
theorem a3h:bD tF ["self","table","column","start","end"] (aO rF):={}
theorem eB.stay{X:SX}{xs:List aQ}(V:eB X xs kf kf' wo wo' ns ns' L){x:aQ}(g:X.gv x.1 x.2.1=none)(h:(aF kf (cK x)).isSome=true):(aF kf' (cK x)).isSome=true:=by
 by_cases hx:x∈L
 ·exact V.new x hx
 ·rw[V.fnd x g hx];exact h
end
section
theorem a1d(T:bF K mg)(Y:gM K mg CS)(F:fC K mg CF)(Wb:dG K mg CB)(U:dZ K mg CT)(G:aS P w K mg af aE 11 CF "value_of" ["self","cell"] (mC P w K mg af RG CF CB CT zt)):aS P w K mg af aE 12 CS "stretch" ["self","table","column","start","end"] (tN P w K mg af RG CS CF CB CT zt):=by
 have G_is_whole:bG P w K mg af aE 1 "is_whole" ["thing"] (oT K):=vC T
 have G_with:aS P w K mg af aE 3 CS "board_with" ["self","table","column"] (qT CS CB CT):=wN T Y Wb
 have G_many:aS P w K mg af aE 1 CT "many" ["self"] (lF CT):=mP T U
 refine Y.m_stretch.known a3h (fun _ _ _ _ _ _ us hl=>qV (fun _ _ _ _ _=>rfl) us hl) (fun vs H Q E h=> ?_) (fun f ah A ag s H vs Q E hr h=> ?_)
 ·obtain⟨X,s',ch,nm,c,a,n,B,kf,kl,mem,wo,cs,ns,rfl,_⟩:=h
  rfl
 ·obtain⟨X,s',ch,nm,c,a,n,B,kf,kl,mem,wo,cs,ns,rfl,O,S,fnA,hs,hB,nn,nc,co,hn,m30,hV,c9,q⟩:=h
  have hcl:∀x,(eJ aE P w K mg af tF "Sheet.stretch" (aO rF) f ah A ag s H E).nox.env.scope.names.lookup x=some .cell->∃c,(eJ aE P w K mg af tF "Sheet.stretch" (aO rF) f ah A ag s H E).nox.env.cells.lookup x=some c:=fun x hx=>Option.isSome_iff_exists.mp (W.cellsFrom_some _ _ _ (.inl hx))
  refine⟨_,(aK (bU (i:=5) a3h.nd rfl ad (lM (aW (cB (pv 0) Y.cl G_with (hr.mono (by omega)) aR (aA (pv 1) (aA (pv 2) aG))) rfl) U.cl G_many (hr.mono (by omega)) aR))
   (aK (bK (PW.pt (gZ (eI (dI (bQ G_is_whole (hr.mono (by omega)) aR (aA (pv 3) aG)) (fun _=>rfl))) (gZ (eI (dI (bQ G_is_whole (hr.mono (by omega)) aR (aA (pv 4) aG)) (fun _=>rfl))) (jK (eI (a55 mB mB mB aY (pv 3) (pv 4) (pv 5))))))) (aL cJ) bO)
   (aL (bL (sK (te:=qI CF "value_of" (mC P w K mg af RG CF CB CT zt) [] E0 (tFld K (jC 3) "finder") (iO (tTup (iO (jC 1) (iO (jC 2) (iO (jC 0) kP)))) kP)) (mF (sc:=aO rF) (N:=tF) (cp:=[(1,"table"),(2,"column"),(0,"self")]) hcl) rfl rfl (by decide) (a2k rfl T.range (aA (pv 3) (aA (pv 4) aG))) (fun _ _ _ _ _=>mG) (fun _ _ _ _ _=>(cB (aW (pv 3) rfl) F.cl G hr aR (aA (hZ (aA (pv 1) (aA (pv 2) (aA (pv 0) aG)))) aG)))))))),?_⟩
  obtain⟨kb,⟨dx,hs0⟩,hbd,_,hv,hBt⟩:=S.sh hs hB nn
  refine⟨_,rfl,s',dx,_,rfl,hs0,fE,_,rfl,_,rfl,s',X.bd,ch,X.fi,dx,kb,nm,c,B,rfl,hs0,hbd,nn,hv,hBt,nc,co,fun H1 s1=> ?_⟩
  obtain⟨dB,hb⟩:=hBt.at_
  obtain⟨dT,hT⟩:=hBt.tab.at_
  refine⟨B.b,CB,dB,_,_,rfl,s1 _ _ hb,Wb.cl,Wb.n_given,(dL _ _ _ _).1,B.g,dT,_,rfl,s1 _ _ hT,gU,B.g,B.r,B.e,B.xs,B.n,B.kvs,rfl,hBt.tab.same s1,?_⟩
  refine⟨_,rfl,_,.int (a:Int),rfl,.int _,_,rfl,bH ⟨_,rfl,_,.int ((a+ n:Nat):Int),rfl,.int _,_,rfl,bH ?_⟩⟩
  refine⟨_,rfl,_,_,rfl,rfl,_,rfl,?_⟩
  rw[decide_eq_true (show(0:Int)<=(a:Int)by omega)]
  refine cE ⟨_,rfl,_,_,rfl,rfl,_,rfl,?_⟩
  rw[decide_eq_true (show(a:Int)<=((a+ n:Nat):Int)by omega)]
  refine cE ⟨_,rfl,_,_,rfl,rfl,_,rfl,?_⟩
  rw[decide_eq_true (show((a+ n:Nat):Int)<=(B.xs.length:Int)by omega)]
  refine bH ?_
  refine⟨_,rfl,_,rfl,(a:Int),((a+ n:Nat):Int),rfl,⟨by omega,by omega,by omega,by omega⟩,fun D hD=> ?_⟩
  rw[show (((a+ n:Nat):Int)- (a:Int)).toNat=n by omega]
  have hDH:H D=none:=jH s1 hD
  obtain⟨nca,nr,ncl,nft⟩:=S.apart hDH
  refine yH (lo:=(a:Int)) (n:=n) (fun i ys H2=>∃kf' kl' mem' wo' cs' ns' L,SB P w K mg af RG CF CB CT zt {X with fx:=D::X.fx} kf' kl' mem' wo' cs' ns' H2/\bV X zt H H2/\cL H H2/\(∃dx,H2 s'=some (.ins CS dx (dF X.bd ch X.fi)))/\Paired (Pd K H2) ys ((dH nm c a i).map X.val)/\(∀x∈dH nm c a i,X.gv x.1 x.2.1=none->(aF kf' (cK x)).isSome=true)/\eB X (dH nm c a i) kf kf' wo wo' ns ns' L/\cs'.length+ bX X kf'<=cs.length+ bX X kf) ?_ ?_ ?_
  ·have s2:=s1.trans (aH.new (o:=.lst []) hD)
   exact⟨kf,kl,mem,wo,cs,ns,[],S.fxup hDH s2 (by rw[aJ];exact fun y=>by cases y),bV.of s2,cL.of s2,hs.imp fun _ e=>s2 _ _ e,.nil,fun x hx=>(by cases hx),eB.nil,Nat.le_refl _⟩
  ·rintro i ys H2 hi h2 ⟨kf',kl',mem',wo',cs',ns',L,S2,f2,kz2,hs2,py,hfd,ve,hc⟩
   obtain⟨dx2,hs2'⟩:=id hs2
   obtain⟨df,hfi⟩:=(S2.F _ hB).fin
   have ul:bX X kf'<=X.Rs.length:=List.countP_le_length
   have yl:ys.length=i:=by
    rw[Paired.length py,List.length_map,dH,List.length_map,List.length_range]
   refine⟨_,rfl,s',CS,dx2,_,_,rfl,hs2',Y.cl,Y.n_finder,(lJ _ _ _).2.2.1,X.fi,df,_,rfl,hfi,gP,_,rfl,_,rfl,_,rfl,sl,fun ce hce=> ?_⟩
   have s3:=aH.new (o:=.tup [.str nm,.str c,.int ((a:Int)+ (i:Int))]) hce
   have c3:upd H2 ce (.tup [.str nm,.str c,.int ((a:Int)+ (i:Int))]) ce=some (.tup ((cK (nm,c,a+ i)).map kV)):=by
    rw[aJ]
    show _=some (HO.tup [.str nm,.str c,.int ((a+ i:Nat):Int)])
    rw[show ((a+ i:Nat):Int)=(a:Int)+ (i:Int)by omega]
   generalize upd H2 ce (.tup [.str nm,.str c,.int ((a:Int)+ (i:Int))])=H3 at s3 c3|-
   have Vx:X.Vc (nm,c,a+ i):=hV _ (by omega)
   refine⟨{X with fx:=D::X.fx},(nm,c,a+ i),ce,kf',kl',mem',wo',cs',ns',rfl,O.fxup D,S2.same s3,fnA.keep (fun b u e=>s3 _ _ (kz2 _ _ e)),by show cs'.length+ X.Rs.length<900;omega,Vx,c3,fun H4 v kf4 kl4 mem4 wo4 cs4 ns4 L4 S4 f4 hv4 pd4 ve4 hc4=> ?_⟩
   have f4:bV X zt H3 H4:=f4
   have f24:bV X zt H2 H4:=(bV.of s3).trans f4
   have h4:H4 D=some (.lst ys):=S2.k f24 h2 nk nk nk nca
   refine⟨h4,dJ (by omega),?_⟩
   have u:bC D H4 (upd H4 D (.lst (ys++ [v]))):=fun b o n e=>by rw[aI n];exact e
   have ktt:dP H4 (upd H4 D (.lst (ys++ [v]))):=dP.upd h4 nk (fun _ _ y=>by cases y)
   have kz5:cL H4 (upd H4 D (.lst (ys++ [v]))):=cL.but u h4 nk
   have kt24:=S2.ktt f24
   refine⟨kf4,kl4,mem4,wo4,cs4,ns4,L++ L4,S4.own (H0:=H) h4 u (by rw[aJ];exact fun y=>by cases y) nca nr ncl nft,fun b o n1 n2 n3 n4 n5 e=>u _ _ (bE e hDH) (f24 b o n1 n2 n3 n4 n5 (f2 b o n1 n2 n3 n4 n5 e)),fun b o e=>kz5 _ _ (S2.kz f24 _ _ (kz2 _ _ e)),(S2.hs hs2 f24).imp fun _ e=>u _ _ (fun y=>by rw[y,h4]at e;cases e) e,?_,fun x hx hg=> ?_,?_,by show cs4.length+ bX X kf4<=_;have:cs4.length+ bX X kf4<=cs'.length+ bX X kf':=hc4;omega⟩
   ·rw[sM,List.map_append]
    exact Paired.snoc (pd4.keep ktt) (Paired.imp (fun a b h=>(h.keep kt24).keep ktt) py)
   ·rw[sM]at hx
    rcases List.mem_append.mp hx with hx|hx
    ·exact eB.stay (X:=X) ve4.fxdown hg (hfd x hx hg)
    ·rw[List.mem_singleton.mp hx,hv4];rfl
   ·rw[sM]
    exact eB.comp (X:=X) ve ve4.fxdown
  ·rintro ys H2 h2 ⟨kf',kl',mem',wo',cs',ns',L,S2,f2,kz2,hs2,py,hfd,ve,hc⟩
   exact q H2 D ys kf' kl' mem' wo' cs' ns' L hDH h2 py S2 f2 hfd ve hc
end
noncomputable def jB:List PyData->Int->PyData
 | [],n=> .int n
 |d::r,n=>if isT d then d else jB r (n+ eW d)
noncomputable def gF:List PyData->Nat
 | []=>0
 |d::r=>if isT d then 1 else gF r+ 1
theorem a0j(d:PyData)(r:List PyData)(n:Int):jB (d::r) n=if isT d then d else jB r (n+ eW d):=by rw[jB]
theorem a0h(d:PyData)(r:List PyData):gF (d::r)=if isT d then 1 else gF r+ 1:=by rw[gF]
section
inductive zH(P:Program)(w:World)(K:Fg)(mg:Str->Option Value)(af:Heap)(RG:Addr->Sp->Prop)(CS CF CB CT zt:Addr)(vs:List V)(H:Hp)(Q:VK)(E:XK):Prop
 |mk (X:SX) (s ch:Addr) (nm c:Str) (B:BM) (ds:List PyData) (kf kl:List (Ky×V)) (mem:Str->Str->List (aB×V)) (wo:aQ->Option (List Int×V)) (cs:List V) (ns:List (Option V×List Int)):vs= [.ref s,.str nm,.str c] ->gK X->SB P w K mg af RG CF CB CT zt X kf kl mem wo cs ns H->jQ P w K mg af X H->(∃dx,H s=some (.ins CS dx (dF X.bd ch X.fi)))->(nm,B)∈X.tabs->Nl nm->Nl c->c∈B.ord->B.xs.length<=30->(∀p,p<B.xs.length->X.Vc (nm,c,p))->ds=(dH nm c 0 B.xs.length).map X.val->cs.length+ bX X kf+ X.Rs.length<900->(∀H' v kf' kl' mem' wo' cs' ns' L,Dt K H' v (jB ds 0)->SB P w K mg af RG CF CB CT zt X kf' kl' mem' wo' cs' ns' H'->bV X zt H H'->(∀x∈dH nm c 0 (gF ds),X.gv x.1 x.2.1=none->(aF kf' (cK x)).isSome=true)->eB X (dH nm c 0 (gF ds)) kf kf' wo wo' ns ns' L->cs'.length+ bX X kf'<=cs.length+ bX X kf->Q v H')->zH P w K mg af RG CS CF CB CT zt vs H Q E
abbrev Ntot:List Str:=["self","table","column","found","place","value"]
theorem qK:bD Ntot ["self","table","column"] (aO a3Z):={}
theorem a7T(T:bF K mg)(Y:gM K mg CS)(F:fC K mg CF)(Wb:dG K mg CB)(U:dZ K mg CT)(G:aS P w K mg af aE 11 CF "value_of" ["self","cell"] (mC P w K mg af RG CF CB CT zt)):aS P w K mg af aE 12 CS "total" ["self","table","column"] (zH P w K mg af RG CS CF CB CT zt):=by
 have G_is_fault:bG P w K mg af aE 2 "is_fault" ["thing"] (rG K):=yR T
 have G_with:aS P w K mg af aE 3 CS "board_with" ["self","table","column"] (qT CS CB CT):=wN T Y Wb
 have G_many:aS P w K mg af aE 1 CT "many" ["self"] (lF CT):=mP T U
 refine Y.m_total.known qK (fun _ _ _ _ _ _ us hl=>iN (fun _ _ _=>rfl) us hl) (fun vs H Q E h=> ?_) (fun f ah A ag s H vs Q E hr h=> ?_)
 ·obtain⟨X,s',ch,nm,c,B,ds,kf,kl,mem,wo,cs,ns,rfl,_⟩:=h
  rfl
 ·obtain⟨X,s',ch,nm,c,B,ds,kf,kl,mem,wo,cs,ns,rfl,O,S,fnA,hs,hB,nn,nc,co,m30,hV,hds,c9,q⟩:=h
  refine⟨_,(aK (bU (i:=3) qK.nd rfl (Or.inl rfl) aY)
   (aK (kO PassesOwn.never rfl (uG rfl T.range (aA (lM (aW (cB (pv 0) Y.cl G_with hr.mn aR (aA (pv 1) (aA (pv 2) aG))) rfl) U.cl G_many hr.mn aR) aG)) (gQ (i:=4) qK.nd rfl (Or.inl rfl)) (aK (bU (i:=5) qK.nd rfl (Or.inl rfl) (cB (aW (pv 0) rfl) F.cl G hr aR (aA (hZ (aA (pv 1) (aA (pv 2) (aA (pv 4) aG)))) aG)))
   (aK (bK (dI (bQ G_is_fault hr.mn aR (aA (pv 5) aG)) (fun _=>rfl)) (aL (bL (pv 5))) bO)
   (aL (bU (i:=3) qK.nd rfl (Or.inl rfl) (bR fZ (pv 3) (pv 5)))))))
   (aL (bL (pv 3))))),?_⟩
  obtain⟨kb,⟨dx,hs0⟩,hbd,_,hv,hBt⟩:=S.sh hs hB nn
  refine⟨_,rfl,s',dx,_,rfl,hs0,fE,_,rfl,_,rfl,s',X.bd,ch,X.fi,dx,kb,nm,c,B,rfl,hs0,hbd,nn,hv,hBt,nc,co,fun H1 s1=> ?_⟩
  obtain⟨dB,hb⟩:=hBt.at_
  obtain⟨dT,hT⟩:=hBt.tab.at_
  refine⟨B.b,CB,dB,_,_,rfl,s1 _ _ hb,Wb.cl,Wb.n_given,(dL _ _ _ _).1,B.g,dT,_,rfl,s1 _ _ hT,gU,B.g,B.r,B.e,B.xs,B.n,B.kvs,rfl,hBt.tab.same s1,?_⟩
  refine⟨_,rfl,by omega,by omega,?_⟩
  have lds:ds.length=B.xs.length:=by rw[hds,List.length_map,dH,List.length_map,List.length_range]
  refine a0D (lo:=0) (n:=((B.xs.length:Nat):Int).toNat) (fun i σ H2=>∃o4 o5 n kf' kl' mem' wo' cs' ns' L,σ= [some (.ref s'),some (.str nm),some (.str c),some (.int n),o4,o5] /\SB P w K mg af RG CF CB CT zt X kf' kl' mem' wo' cs' ns' H2/\bV X zt H H2/\cL H H2/\(∃dx,H2 s'=some (.ins CS dx (dF X.bd ch X.fi)))/\jB (ds.drop i) n=jB ds 0/\gF ds=i+ gF (ds.drop i)/\(∀x∈dH nm c 0 i,X.gv x.1 x.2.1=none->(aF kf' (cK x)).isSome=true)/\eB X (dH nm c 0 i) kf kf' wo wo' ns ns' L/\cs'.length+ bX X kf'<=cs.length+ bX X kf) ?_ ?_ ?_
  ·exact⟨_,_,0,kf,kl,mem,wo,cs,ns,[],rfl,S.same s1,bV.of s1,cL.of s1,hs.imp fun _ e=>s1 _ _ e,rfl,by rw[Nat.zero_add];rfl,fun x hx=>(by cases hx),eB.nil,Nat.le_refl _⟩
  ·rintro i σ H2 hi ⟨o4,o5,n,kf',kl',mem',wo',cs',ns',L,rfl,S2,f2,kz2,hs2,ht,hup,hfd,ve,hc⟩
   have hi:i<B.xs.length:=by omega
   obtain⟨dx2,hs2'⟩:=id hs2
   obtain⟨df,hfi⟩:=(S2.F _ hB).fin
   have ul:bX X kf'<=X.Rs.length:=List.countP_le_length
   have hd:ds[i]?=some (X.val (nm,c,i)):=by
    rw[hds,List.getElem?_map,dH,List.getElem?_map,List.getElem?_range hi,Option.map_some,Option.map_some,Nat.zero_add]
   refine⟨_,rfl,s',CS,dx2,_,_,rfl,hs2',Y.cl,Y.n_finder,(lJ _ _ _).2.2.1,X.fi,df,_,rfl,hfi,gP,_,rfl,_,rfl,_,rfl,sl,fun ce hce=> ?_⟩
   rw[Int.zero_add]
   have s3:=aH.new (o:=.tup [.str nm,.str c,.int (i:Int)]) hce
   have c3:upd H2 ce (.tup [.str nm,.str c,.int (i:Int)]) ce=some (.tup ((cK (nm,c,i)).map kV)):=aJ
   generalize upd H2 ce (.tup [.str nm,.str c,.int (i:Int)])=H3 at s3 c3|-
   refine⟨X,(nm,c,i),ce,kf',kl',mem',wo',cs',ns',rfl,O,S2.same s3,fnA.keep (fun b u e=>s3 _ _ (kz2 _ _ e)),by omega,hV i hi,c3,fun H4 v kf4 kl4 mem4 wo4 cs4 ns4 L4 S4 f4 hv4 pd4 ve4 hc4=> ?_⟩
   have f24:bV X zt H2 H4:=(bV.of s3).trans f4
   have ve5:=eB.comp ve ve4
   rw[show [(nm,c,i)]= [(nm,c,0+ i)]by rw[Nat.zero_add],<- sM]at ve5
   rw[mZ hd,a0j]at ht
   rw[mZ hd,a0h]at hup
   have hfd5:∀x∈dH nm c 0 (i+ 1),X.gv x.1 x.2.1=none->(aF kf4 (cK x)).isSome=true:=fun x hx hg=>by
    rw[sM]at hx
    rcases List.mem_append.mp hx with hx|hx
    ·exact eB.stay ve4 hg (hfd x hx hg)
    ·rw[List.mem_singleton.mp hx,Nat.zero_add,hv4];rfl
   refine⟨_,rfl,v,_,rfl,pd4.2,pd4.1.short.1,fun H5 s5=>⟨_,rfl,?_⟩⟩
   rw[pd4.1.isT]
   have f5:=f2.trans (f24.trans (bV.of s5))
   cases hT:isT (X.val (nm,c,i))with
   |true=>
    rw[hT,if_pos rfl]at ht hup
    refine cE ⟨_,rfl,q H5 v kf4 kl4 mem4 wo4 cs4 ns4 (L++ L4) (by rw[<- ht];exact pd4.2.same s5) (S4.same s5) f5 ?_ ?_ (by omega)⟩
    ·rw[hup];exact hfd5
    ·rw[hup];exact ve5
   |false=>
    rw[hT,if_neg Bool.false_ne_true]at ht hup
    obtain⟨j,hj⟩:∃j,X.val (nm,c,i)= .int j:=by
     rcases pd4.1 with⟨j,h,_⟩|⟨y,h,_⟩
     ·exact⟨j,h⟩
     ·rw[h]at hT;cases hT
    rw[hj]at ht
    have ev:v= .int j:=by
     have:=pd4.2
     rw[hj]at this
     cases this
     rfl
    subst ev
    refine bH ⟨_,rfl,_,rfl,_,_,rfl,rfl,?_⟩
    exact⟨_,_,n+ j,kf4,kl4,mem4,wo4,cs4,ns4,_,rfl,S4.same s5,f5,fun b u e=>s5 _ _ (S2.kz f24 _ _ (kz2 _ _ e)),(S2.hs hs2 f24).imp fun _ e=>s5 _ _ e,ht,by omega,hfd5,ve5,by omega⟩
  ·rintro σ H2 ⟨o4,o5,n,kf',kl',mem',wo',cs',ns',L,rfl,S2,f2,kz2,hs2,ht,hup,hfd,ve,hc⟩
   have em:((B.xs.length:Nat):Int).toNat=ds.length:=by omega
   rw[em,List.drop_length]at ht hup
   rw[em]at hfd ve
   refine⟨_,rfl,q H2 _ kf' kl' mem' wo' cs' ns' L (by rw[<- ht];exact .int n) S2 f2 ?_ ?_ hc⟩
   ·rw[hup];exact hfd
   ·rw[hup];exact ve
end
structure X1 where
 fi:Addr
 bd:Addr
 fd:Addr
 lk:Addr
 nm:Str
 B:BM
 m:Nat
 gv:Str->Option (List V)
 val:Str->Nat->PyData
 rl:Str->Option RD
 tree:Str->Nat->GT
 rk:Str->Nat->Nat
 rc:List Str
 num:Nat->Nat
 bnd:Nat
 ca:Option Addr
 fx:List Addr
 abn:Nat->Prop
 wa:Str->Nat->Option (List Int×V)
def X1.sx(Y:X1):SX where
 fi:=Y.fi
 bd:=Y.bd
 fd:=Y.fd
 lk:=Y.lk
 tabs:=[(Y.nm,Y.B)]
 Ks:=Y.B.ord.flatMap fun c=>(List.range Y.m).map fun p=>bI Y.nm c p
 gv:=fun t c=>if t=Y.nm then Y.gv c else none
 Vc:=fun x=>x.1=Y.nm/\x.2.1∈Y.B.ord/\x.2.2<Y.m
 val:=fun x=>Y.val x.2.1 x.2.2
 rl:=fun t c=>if t=Y.nm then Y.rl c else none
 tree:=fun x=>Y.tree x.2.1 x.2.2
 rk:=fun x=>Y.rk x.2.1 x.2.2
 Rs:=Y.rc.flatMap fun c=>(List.range Y.m).map fun p=>(Y.nm,c,p)
 num:=fun _ p=>Y.num p
 bnd:=Y.bnd
 ca:=Y.ca
 fx:=Y.fx
 abn:=fun _ j=>Y.abn j
 wa:=fun _ c j=>Y.wa c j
def X1.v(Y:X1):aQ->PyData:=fun x=>Y.val x.2.1 x.2.2
structure X1Ok(Y:X1):Prop where
 lx:Y.B.xs.length=Y.m
 m30:Y.m<=30
 o8:Y.B.ord.length<=8
 cg:∀c∈Y.B.ord,(∃ys,Y.gv c=some ys/\ys.length=Y.m/\Nl c/\aF Y.B.rus (.inr c:aB)=none)\/ (Y.gv c=none/\∃R,Y.rl c=some R)
 rc:∀c R,Y.rl c=some R->c∈Y.rc
 rg:∀c∈Y.rc,Y.gv c=none
 rn:Y.rc.Nodup
 ru:∀c R,Y.rl c=some R->aF Y.B.rus (.inr c:aB)=some (.ref R.gr)/\aF Y.B.mes (.inr c:aB)=some (.ref R.mc)
 rf:∀c R,Y.rl c=some R->RF R.fs R.fa/\R.fs.lookup ("gather":Str)=none
 gg:∀c R,Y.rl c=some R->∀is,R.ok is->jS (R.g is)/\Vd (fK (R.g is))
 ft:∀c R,Y.rl c=some R->R.gr∈R.ft/\∀b∈R.ft,Y.ca≠some b
 mb:∀c R,Y.rl c=some R->R.mc≠Y.bd/\R.mc≠Y.B.e/\R.mc≠Y.B.ru/\R.mc≠Y.B.me
 md:∀c R c' R',Y.rl c=some R->Y.rl c'=some R'->R.mc=R'.mc->c=c'
 cc:Y.ca≠some Y.B.r/\Y.ca≠some Y.B.od
 cl:∀c ys l,Y.gv c=some ys->aF Y.B.kvs (.inr c:aB)=some (.ref l)->Y.ca≠some l
 fl:Y.fd≠Y.lk
 nu:∀p,p<Y.m->cQ Y.B.xs (p:Int)=some (.int ((Y.num p:Nat):Int))/\Y.num p<Y.bnd
 ni:∀p p',p<Y.m->p'<Y.m->Y.num p=Y.num p'->p=p'
 b8:Y.bnd<=85
 ab:∀p j,p<Y.m->Y.abn j->Y.num p≠j
 cf:∀a,Y.ca=some a->a∈Y.fx
 sem:∀c R p,c∈Y.B.ord->p<Y.m->Y.rl c=some R->Y.val c p=uZ R.g ((Y.tree c p).run Y.v)
 lks:∀c R p,c∈Y.B.ord->p<Y.m->Y.rl c=some R->∀y∈(Y.tree c p).looks Y.v,(y.1=Y.nm/\y.2.1∈Y.B.ord/\y.2.2<Y.m)/\(Y.gv y.2.1=none->Y.rk y.2.1 y.2.2<Y.rk c p)
 oks:∀c R p,c∈Y.B.ord->p<Y.m->Y.rl c=some R->∀is,(Y.tree c p).run Y.v= .inr is->R.ok is/\is.length<=100
theorem X1.gvn(Y:X1)(c:Str):Y.sx.gv Y.nm c=Y.gv c:=if_pos rfl
theorem X1.rln(Y:X1)(c:Str):Y.sx.rl Y.nm c=Y.rl c:=if_pos rfl
theorem X1.rl_some{Y:X1}{t:Str}{R:RD}(h:Y.sx.rl t c=some R):t=Y.nm/\Y.rl c=some R:=by
 have h:(if t=Y.nm then Y.rl c else none)=some R:=h
 split at h
 ·exact⟨by assumption,h⟩
 ·cases h
theorem X1.gv_some{Y:X1}{t:Str}(h:Y.sx.gv t c=some ys):t=Y.nm/\Y.gv c=some ys:=by
 have h:(if t=Y.nm then Y.gv c else none)=some ys:=h
 split at h
 ·exact⟨by assumption,h⟩
 ·cases h
theorem zD{α β:Type}{f:α->List β}{n:Nat}(hf:∀a,(f a).length=n):∀l:List α,(l.flatMap f).length=l.length* n
 | []=>by rw[List.flatMap_nil];simp
 |a::l=>by rw[List.flatMap_cons,List.length_append,hf,zD hf l,List.length_cons,Nat.succ_mul];omega
theorem lG{nm t:Str}{B B':BM}(h:(t,B')∈ [(nm,B)]):t=nm/\B'=B:=by
 rw[List.mem_singleton]at h
 exact⟨congrArg (·.1) h,congrArg (·.2) h⟩
theorem a3Q{nm:Str}{m:Nat}:∀{l:List Str},l.Nodup->(l.flatMap fun c=>(List.range m).map fun p=>((nm,c,p):aQ)).Nodup
 | [],_=>by rw[List.flatMap_nil];exact List.nodup_nil
 |c::l,h=>by
  rw[List.nodup_cons]at h
  rw[List.flatMap_cons,List.nodup_append]
  refine⟨?_,a3Q h.2,fun a ha b hb e=> ?_⟩
  ·exact(List.nodup_range (n:=m)).map (f:=fun p=>((nm,c,p):aQ)) (fun a b h e=>h (by have:=congrArg (fun x:aQ=>x.2.2) e;exact this))
  ·obtain⟨p,_,rfl⟩:=List.mem_map.mp ha
   obtain⟨c',hc',hb⟩:=List.mem_flatMap.mp hb
   obtain⟨p',_,rfl⟩:=List.mem_map.mp hb
   have:c=c':=congrArg (fun x:aQ=>x.2.1) e
   exact h.1 (this▸hc')
theorem a6A{Y:X1}(O:X1Ok Y):gK Y.sx where
 o:=⟨by
  show(Y.B.ord.flatMap fun c=>(List.range Y.m).map fun p=>bI Y.nm c p).length<=800
  rw[zD (n:=Y.m) (fun a=>by rw[List.length_map,List.length_range])]
  have h1:=O.m30
  have h2:=O.o8
  have:Y.B.ord.length* Y.m<=8* 30:=Nat.mul_le_mul h2 h1
  omega,fun x hx=>by
  obtain⟨t,c,p⟩:=x
  obtain⟨rfl,hc,hp⟩:=hx
  refine⟨List.mem_flatMap.mpr ⟨c,hc,List.mem_map.mpr ⟨p,List.mem_range.mpr hp,rfl⟩⟩,Y.B,List.mem_singleton.mpr rfl,by rw[O.lx];exact hp,?_⟩
  rcases O.cg c hc with⟨ys,h1,h2,h3,h4⟩|⟨h1,R,h2⟩
  ·exact .inl ⟨ys,by rw[X1.gvn];exact h1,by rw[O.lx];exact h2,h3,h4⟩
  ·exact .inr ⟨by rw[X1.gvn];exact h1,_,(O.ru c R h2).1⟩⟩
 un:=fun t B B' h h'=>by rw[(lG h).2,(lG h').2]
 rr:=fun x hx g=>by
  obtain⟨t,c,p⟩:=x
  obtain⟨rfl,hc,hp⟩:=hx
  rw[X1.gvn]at g
  rcases O.cg c hc with⟨ys,h1,_⟩|⟨h1,R,h2⟩
  ·rw[h1]at g;cases g
  ·exact⟨R,by rw[X1.rln];exact h2⟩
 ru:=fun t c R B h hB=>by
  obtain⟨rfl,h2⟩:=X1.rl_some h
  rw[(lG hB).2]
  exact O.ru c R h2
 no:=fun t c R h=>by
  obtain⟨rfl,h2⟩:=X1.rl_some h
  rw[X1.gvn]
  exact O.rg c (O.rc c R h2)
 rf:=fun t c R h=>O.rf c R (X1.rl_some h).2
 gg:=fun t c R h=>O.gg c R (X1.rl_some h).2
 ft:=fun t c R h=>O.ft c R (X1.rl_some h).2
 mb:=fun t c R h=>(O.mb c R (X1.rl_some h).2).1
 mm:=fun t c R h tb htb=>by
  rw[List.mem_singleton.mp htb]
  exact(O.mb c R (X1.rl_some h).2).2
 md:=fun t c R t' c' R' h h' e=>by
  obtain⟨rfl,h2⟩:=X1.rl_some h
  obtain⟨rfl,h3⟩:=X1.rl_some h'
  exact⟨rfl,O.md c R c' R' h2 h3 e⟩
 cc:=fun tb htb=>by rw[List.mem_singleton.mp htb];exact O.cc
 cl:=fun t c ys B l g h e=>by
  obtain⟨rfl,g2⟩:=X1.gv_some g
  rw[(lG h).2]at e
  exact O.cl c ys l g2 e
 fl:=O.fl
 nu:=fun t B p h hp=>by
  rw[(lG h).2]at hp|-
  exact O.nu p (by rw[<- O.lx];exact hp)
 ni:=fun t B p p' h hp hp' e=>by
  rw[(lG h).2]at hp hp'
  exact O.ni p p' (by rw[<- O.lx];exact hp) (by rw[<- O.lx];exact hp') e
 b8:=O.b8
 ab:=fun t B p j h hp hj=>by
  rw[(lG h).2]at hp
  exact O.ab p j (by rw[<- O.lx];exact hp) hj
 cf:=O.cf
 rs:=fun x hx g=>by
  obtain⟨t,c,p⟩:=x
  obtain⟨rfl,hc,hp⟩:=hx
  rw[X1.gvn]at g
  rcases O.cg c hc with⟨ys,h1,_⟩|⟨h1,R,h2⟩
  ·rw[h1]at g;cases g
  ·exact List.mem_flatMap.mpr ⟨c,O.rc c R h2,List.mem_map.mpr ⟨p,List.mem_range.mpr hp,rfl⟩⟩
 rs':=fun x hx=>by
  obtain⟨c,hc,hx⟩:=List.mem_flatMap.mp hx
  obtain⟨p,_,rfl⟩:=List.mem_map.mp hx
  rw[X1.gvn]
  exact O.rg c hc
 rn:=a3Q O.rn
 sem:=fun x R hx h=>by
  obtain⟨t,c,p⟩:=x
  obtain⟨rfl,hc,hp⟩:=hx
  rw[X1.rln]at h
  exact O.sem c R p hc hp h
 lks:=fun x R hx h y hy=>by
  obtain⟨t,c,p⟩:=x
  obtain⟨rfl,hc,hp⟩:=hx
  rw[X1.rln]at h
  obtain⟨h1,h2⟩:=O.lks c R p hc hp h y hy
  refine⟨h1,fun g=>h2 ?_⟩
  rw[h1.1,X1.gvn]at g
  exact g
 oks:=fun x R hx h=>by
  obtain⟨t,c,p⟩:=x
  obtain⟨rfl,hc,hp⟩:=hx
  rw[X1.rln]at h
  exact O.oks c R p hc hp h
section
theorem SB.new{X X':SX}{mem:Str->Str->List (aB×V)}(S:SB P w K mg af RG CF CB CT zt X kf kl mem wo cs ns H)(D:List Addr)(kD:∀b∈D,(∃C dx fs,H b=some (.ins C dx fs))\/ ∃ys,H b=some (.lst ys)/\b∈X.fx)(u:∀b o,b∉D->H b=some o->H' b=some o)
 (e1:X'.rl=X.rl)(e2:X'.fx=X.fx)(e3:X'.ca=X.ca)(e4:X.bnd<=X'.bnd)(dft:∀t c R,X.rl t c=some R->∀b∈R.ft,b∉D)(dgr:∀t c R,X.rl t c=some R->R.gr∈R.ft)(dca:∀a,X.ca=some a->a∉D)(dD:∀b∈D,H' b≠none)
 (F':∀tb∈X'.tabs,dU CF CB CT H' X'.fi X'.bd X'.fd X'.lk tb.1 tb.2 [])(fd':H' X'.fd=some (.dT []))(lk':H' X'.lk=some (.dT []))
 (cols':∀t c ys B,X'.gv t c=some ys->(t,B)∈X'.tabs->∃l,aF B.kvs (.inr c:aB)=some (.ref l)/\H' l=some (.lst ys))(cd':∀t c ys (p:Nat) v,X'.gv t c=some ys->cQ ys (p:Int)=some v->Pd K H' v (X'.val (t,c,p)))
 (ra':∀t c R,X.rl t c=some R->∀p,X'.Vc (t,c,p)->mN P w K mg af R.spg R.gr R.ft X'.tabs X'.Vc t c p (X'.tree (t,c,p)) H')
 (hw:∀x R,X'.Vc x->X.rl x.1 x.2.1=some R->(∃y,X.Vc y/\y.1=x.1/\y.2.1=x.2.1/\X'.num x.1 x.2.2=X.num y.1 y.2.2/\wo' x=wo y)\/ (∃j,X.abn x.1 j/\X'.num x.1 x.2.2=j/\wo' x=X.wa x.1 x.2.1 j)\/ (X.bnd<=X'.num x.1 x.2.2/\wo' x=none))
 (ha:∀t c R j,X.rl t c=some R->X'.abn t j->(X.abn t j/\X'.wa t c j=X.wa t c j)\/ ∃y,X.Vc y/\y.1=t/\y.2.1=c/\X.num y.1 y.2.2=j/\X'.wa t c j=wo y):SB P w K mg af RG CF CB CT zt X' [] [] mem wo' cs ns H':=by
 have n1:∀{b:Addr} {o:HO},H b=some o->(∀C dx fs,o≠ .ins C dx fs)->(∀y,o≠ .lst y)->H' b=some o:=fun{b o} e a1 a2=>u b o (fun hm=>by
  rcases kD b hm with⟨C,dx,fs,h⟩|⟨ys,h,_⟩<;>rw[h]at e
  ·exact a1 _ _ _ (Option.some.inj e).symm
  ·exact a2 _ (Option.some.inj e).symm) e
 have kt:dP H H':=fun b o hb e=>n1 e (fun C dx fs y=>by obtain⟨xs,rfl|⟨q,rfl⟩⟩:=hb<;>cases y) (fun y z=>by obtain⟨xs,rfl|⟨q,rfl⟩⟩:=hb<;>cases z)
 have klf:∀b ys,b∉X.fx->H b=some (.lst ys)->H' b=some (.lst ys):=fun b ys n e=>u b _ (fun hm=>by
  rcases kD b hm with⟨C,dx,fs,h⟩|⟨ys',h,hx⟩
  ·rw[h]at e;cases e
  ·exact n hx) e
 refine⟨F',fd',eF.nil,fun t c p v ys _ e=>(by cases e),fun x v _ _ e=>(by cases e),fun x v _ _ e=>(by cases e),fun x _ _ _=>rfl,fun x v _ _ e=>(by cases e),lk',eF.nil,cols',cd',fun t c R hR=> ?_,fun t c R hR=> ?_,fun t c R hR b hb=> ?_,fun t c R hR=>ra' t c R (e1▸hR),fun x R hx hR=> ?_,fun t c R j hR hj=> ?_,?_,fun h=> ?_,fun b hb y=> ?_,?_⟩
 ·rw[e1]at hR
  obtain⟨⟨dx,e⟩,h1⟩:=S.rg t c R hR
  exact⟨⟨dx,u _ _ (dft t c R hR _ (dgr t c R hR)) e⟩,h1⟩
 ·rw[e1]at hR
  obtain⟨h1,h2⟩:=S.rm t c R hR
  exact⟨n1 h1 (fun _ _ _ y=>by cases y) nk,h2.1,fun k hk=>let ⟨j,a,b⟩:=h2.2 k hk;⟨j,a,by omega⟩⟩
 ·rw[e1]at hR
  obtain⟨o,e,h⟩:=S.rt t c R hR b hb
  exact⟨o,u _ _ (dft t c R hR b hb) e,h⟩
 ·rw[e1]at hR
  rw[e2]
  rcases hw x R hx hR with⟨y,a1,a2,a3,a4,a5⟩|⟨j,a1,a2,a3⟩|⟨a1,a2⟩
  ·rw[a5,a4,<- a2,<- a3]
   rw[<- a2,<- a3]at hR
   exact⟨(S.me y R a1 hR).1.mv rfl kt.t klf,fun is v e=>((S.me y R a1 hR).2 is v e).keep kt⟩
  ·rw[a3,a2]
   exact⟨(S.ab x.1 x.2.1 R j hR a1).1.mv rfl kt.t klf,fun is v e=>((S.ab x.1 x.2.1 R j hR a1).2 is v e).keep kt⟩
  ·rw[a2]
   refine⟨?_,fun is v e=>(by cases e)⟩
   show aF (mem x.1 x.2.1) _=none
   cases ev:aF (mem x.1 x.2.1) (.inl ((X'.num x.1 x.2.2:Nat):Int):aB)with
   |none=>rfl
   |some v=>
    obtain⟨j,h1,h2⟩:=(S.rm x.1 x.2.1 R hR).2.2 _ (List.mem_map.mpr ⟨_,a2n ev,rfl⟩)
    have:=Sum.inl.inj h1
    omega
 ·rw[e1]at hR
  rw[e2]
  rcases ha t c R j hR hj with⟨a1,a2⟩|⟨y,a1,a2,a3,a4,a5⟩
  ·rw[a2]
   exact⟨(S.ab t c R j hR a1).1.mv rfl kt.t klf,fun is v e=>((S.ab t c R j hR a1).2 is v e).keep kt⟩
  ·rw[a5,<- a4]
   subst a2 a3
   exact⟨(S.me y R a1 hR).1.mv rfl kt.t klf,fun is v e=>((S.me y R a1 hR).2 is v e).keep kt⟩
 ·rw[e3]
  exact⟨S.ca.1,fun a e=>u _ _ (dca a e) (S.ca.2 a e)⟩
 ·rw[e3]at h
  rw[e2]
  exact Paired.imp (fun a b h=>h.mv kt.t klf) (S.nt h)
 ·rw[e2]at hb
  by_cases hm:b∈D
  ·exact dD b hm y
  ·cases e:H b with
   |none=>exact S.fx b hb e
   |some o=>rw[u b o hm e]at y;cases y
 ·obtain⟨Sz,t1,t2⟩:=S.tb
  exact⟨Sz,n1 t1 (fun _ _ _ y=>by cases y) nk,fun c hc=>let ⟨o,o1,o2⟩:=t2 c hc;⟨o,n1 o1 (fun _ _ _ y=>by cases y) nk,o2⟩⟩
end
theorem a2q{α:Type}{r:α->α->Prop}(anti:∀a b,r a b->r b a->a=b):∀{l l':List α},l.Perm l'->l.Pairwise r->l'.Pairwise r->l=l'
 | [],l',h,_,_=>(List.nil_perm.mp h).symm▸rfl
 |a::l,[],h,_,_=>by have:=h.length_eq;cases this
 |a::l,b::l',h,p,p'=>by
  rw[List.pairwise_cons]at p p'
  have e:a=b:=by
   have h1:a∈b::l':=h.mem_iff.mp aa
   have h2:b∈a::l:=h.mem_iff.mpr aa
   rcases List.mem_cons.mp h1 with e|h1
   ·exact e
   ·rcases List.mem_cons.mp h2 with e|h2
    ·exact e.symm
    ·exact anti a b (p.1 b h2) (p'.1 a h1)
  subst e
  rw[a2q anti (List.perm_cons a|>.mp h) p.2 p'.2]
theorem a34{α:Type}(l:List α)(d:α):(List.range l.length).map (fun i=>l.getD i d)=l:=by
 apply List.ext_getElem?
 intro i
 rw[List.getElem?_map]
 by_cases h:i<l.length
 ·rw[List.getElem?_range h,Option.map_some,List.getD_eq_getElem?_getD,List.getElem?_eq_getElem h]
  rfl
 ·rw[List.getElem?_eq_none (by rw[List.length_range];omega),List.getElem?_eq_none (by omega)]
  rfl
theorem a8c{α:Type}(l:List α)(d:α){p:Array Nat}(h:p.Perm (List.toArray (List.range l.length))):(p.toList.map fun i=>l.getD i d).Perm l:=by
 have h2:p.toList.Perm (List.range l.length):=by simpa using h.toList
 have:=h2.map fun i=>l.getD i d
 rw[a34]at this
 exact this
theorem a29{α:Type}{R:V->α->Prop}(d:α):∀{ys:List V} {xs:List α} {i:Nat},Paired R ys xs->i<ys.length->R (ys.getD i .non) (xs.getD i d)
 |_,_,_,.nil,h=>by cases h
 |_,_,0,.cons h _,_=>h
 |_,_,i+ 1,.cons _ t,h=>a29 d (i:=i) t (Nat.lt_of_succ_lt_succ h)
theorem a3f{α:Type}{R:V->α->Prop}(d:α){ys:List V}{xs:List α}(h:Paired R ys xs):∀{is:List Nat},(∀i∈is,i<ys.length)->Paired R (is.map fun i=>ys.getD i .non) (is.map fun i=>xs.getD i d)
 | [],_=> .nil
 |i::is,hi=> .cons (a29 d h (hi i aa)) (a3f d h fun j hj=>hi j (List.mem_cons_of_mem _ hj))
theorem a8w{lt:Nat->Nat->Bool}{p:Array Nat}{n:Nat}(hs:p.size=n)(h:Sd lt p n):p.toList.Pairwise fun i j=>lt j i=false:=by
 rw[List.pairwise_iff_getElem]
 intro i j hi hj hij
 rw[Array.length_toList]at hi hj
 have:=(h i j hij (by omega)).1
 rw[Array.getD_eq_getD_getElem?,Array.getD_eq_getD_getElem?,Array.getElem?_eq_getElem hi,Array.getElem?_eq_getElem hj]at this
 simpa using this
theorem a6Z{α β:Type}{f:α->β}{r:β->β->Prop}{l:List α}(h:l.Pairwise fun a b=>r (f a) (f b)):(l.map f).Pairwise r:=List.pairwise_map.mpr h
def zZ(l:List (List Int)):Prop:=l.Pairwise fun a b=>HT.lexLt b a=false
theorem uX{nss:List (List Int)}{p:Array Nat}(h:gJ K H ys nss)(hs:p.size=ys.length)(hp:p.Perm (List.toArray (List.range ys.length)))(sd:Sd (nT nss) p ys.length):∃nss',nss'.Perm nss/\zZ nss'/\gJ K H (p.toList.map fun i=>ys.getD i .non) nss':=by
 have hl:ys.length=nss.length:=Paired.length h
 refine⟨p.toList.map fun i=>nss.getD i [],a8c nss [] (by rw[<- hl];exact hp),?_,a3f [] h fun i hi=>a2a hp hi⟩
 exact a6Z (a8w hs sd)
theorem a3P{l l' m m':List (List Int)}(h1:l'.Perm l)(s1:zZ l')(h2:m'.Perm m)(s2:zZ m')(h:l.Perm m):l'=m':=
 a2q (r:=fun a b=>HT.lexLt b a=false) (fun a b h1 h2=>a3U h2 h1) (h1.trans (h.trans h2.symm)) s1 s2
noncomputable def jV (nss:List (List Int)):PyData:=.list (nss.map fun ns=> .list (ns.map .int))
theorem qD{K:Fg}{H:Hp}:∀{ys:List V} {nss:List (List Int)},gJ K H ys nss->dN K H ys (nss.map fun ns=> .list (ns.map .int))
 |_,_,.nil=> .nil
 |_,_,.cons ⟨a,e,h⟩ t=>by
  subst e
  exact .cons (.lst h (oN _)) (qD t)
theorem a1v:∀nss:List (List Int),PyData.canLayAll0 (nss.map fun ns=>PyData.list (ns.map .int))=true
 | []=>rfl
 |ns::r=>by
  rw[List.map_cons,PyData.canLayAll0,a1v r,Bool.and_true]
  exact(tY ns).1
theorem a3o:∀ns:List Int,PyData.depthAll (ns.map PyData.int)=0
 | []=>rfl
 |i::r=>by
  rw[List.map_cons]
  show max 0 (PyData.depthAll (r.map PyData.int))=0
  rw[a3o r]
  rfl
theorem a2W:∀nss:List (List Int),PyData.depthAll (nss.map fun ns=>PyData.list (ns.map .int))<=1
 | []=>by decide
 |ns::r=>by
  rw[List.map_cons]
  show max (PyData.depthAll (ns.map PyData.int)+ 1) (PyData.depthAll (r.map fun ns=>PyData.list (ns.map .int)))<=1
  have:=a2W r
  rw[a3o]
  omega
theorem pL(nss:List (List Int)):(jV nss).canLay0=true/\(jV nss).depth<=64:=⟨a1v nss,by
 show PyData.depthAll (nss.map fun ns=>PyData.list (ns.map .int))+ 1<=64
 have:=a2W nss
 omega⟩
theorem a3b:∀nss:List (List Int),PyData.eqvAll (nss.map fun ns=>PyData.list (ns.map .int)) (nss.map fun ns=>PyData.list (ns.map .int))=true
 | []=>by simp[PyData.eqvAll]
 |ns::r=>by
  have h:=uM ns ns
  rw[decide_eq_true rfl]at h
  rw[List.map_cons,PyData.eqvAll,h,a3b r]
  rfl
theorem a22(nss:List (List Int)):PyData.eqv (jV nss) (jV nss)=true:=by
 unfold jV
 rw[PyData.eqv]
 exact a3b nss
theorem a0U{α β:Type} [DecidableEq α]{f:α->Option β}:∀{L R:List α},L.Nodup->R.Nodup->(∀y∈L,y∈R)->(∀y∈R,f y≠none->y∈L)->(L.filterMap f).Perm (R.filterMap f)
 | [],R,_,_,_,h=>by
  have:R.filterMap f= []:=by
   rw[List.filterMap_eq_nil_iff]
   intro y hy
   cases e:f y with
   |none=>rfl
   |some b=>exact absurd (h y hy (by rw[e];exact fun z=>by cases z)) (by simp)
  rw[this]
  exact List.Perm.refl _
 |a::L,R,hL,hR,h1,h2=>by
  rw[List.nodup_cons]at hL
  have ha:=h1 a aa
  have hp:R.Perm (a::R.erase a):=List.perm_cons_erase ha
  have hR':(a::R.erase a).Nodup:=hp.nodup_iff.mp hR
  rw[List.nodup_cons]at hR'
  have ih:=a0U (f:=f) (L:=L) (R:=R.erase a) hL.2 hR'.2 (fun y hy=>by
   have:=hp.mem_iff.mp (h1 y (List.mem_cons_of_mem _ hy))
   rcases List.mem_cons.mp this with e|e
   ·exact absurd (e▸hy) hL.1
   ·exact e) (fun y hy n=>by
   have:=h2 y (hp.mem_iff.mpr (List.mem_cons_of_mem _ hy)) n
   rcases List.mem_cons.mp this with e|e
   ·exact absurd (e▸hy) hR'.1
   ·exact e)
  refine List.Perm.trans ?_ (hp.filterMap f).symm
  rw[List.filterMap_cons,List.filterMap_cons]
  cases f a with
  |none=>exact ih
  |some b=>exact ih.cons b
theorem a63(i:Int)(h1: -1000000<=i)(h2:i<=1000000):iF (.int i)=true:=by
 have e3:(1000000:Int)<10^ (60:Int).toNat:=by decide+kernel
 show decide ((if i<0 then-i else i)<10^ (60:Int).toNat)=true
 rw[decide_eq_true_eq]
 split<;>omega
section
inductive pD(K:Fg)(vs:List V)(H:Hp)(Q:VK)(E:XK):Prop
 |mk (a:Addr) (ns:List Int) (k:Int):vs= [.ref a,.int k] ->aM K H a (ns.map V.int)->ns.length<=63->0<=k->k<=1000000->(∀m:Int,0<=m->m<2147483629->Q (.int m) H)->pD K vs H Q E
theorem vH:bD ["_law_script","_law_k","_law_cell"] ["_law_script","_law_k"] (aO tG):={}
theorem a0F(T:bF K mg):bG P w K mg af aE 1 "_law_mixed" ["_law_script","_law_k"] (pD K):=by
 refine T.d_law_mixed.known vH (fun _ _ _ _ _ _ us hl=>eC (fun _ _=>rfl) us hl) (fun vs H Q E h=> ?_) (fun f ah A ag s H vs Q E hr h=> ?_)
 ·obtain⟨a,ns,k,rfl,_⟩:=h
  rfl
 ·obtain⟨a,ns,k,rfl,hS,hl,h0,h6,q⟩:=h
  have cT:∃t,eS (eJ aE P w K mg af ["_law_script","_law_k","_law_cell"] "_law_mixed" (aO tG) f ah A ag s H E).nox ((eZ tG).drop 2) t/\∀c:Int,t {nx:=fun _ H'=>Q .non H',rt:=Q} [some (.ref a),some (.int k),some (.int c)] H:=by
   refine⟨_,(aK (bU (i:=2) vH.nd rfl (Or.inl rfl) (bR gA (bR nY (bR fZ (bR fZ (bR gA (pv 2) aY) (bR nY aY (pv 1))) aY) aY) aY))
    (aL (bL (bR gA (bR nY (pv 2) (bR fZ (bR fZ (bR gA (pv 2) aY) (pv 1)) aY)) aY)))),fun c=> ?_⟩
   refine⟨_,rfl,_,_,rfl,rfl,(show(0:Int)<2147483629 by decide),_,rfl,_,_,rfl,rfl,.inl ⟨by decide,by decide⟩,_,_,rfl,rfl,_,_,rfl,rfl,_,_,rfl,rfl,.inr ⟨by decide,by decide⟩,_,_,rfl,rfl,(show(0:Int)<2147483647 by decide),?_⟩
   have e1:=Int.emod_nonneg ((c% 2147483629+ 6151* k+ 1)* 48271) (show(2147483647:Int)≠0 by decide)
   have e2:=Int.emod_lt_of_pos ((c% 2147483629+ 6151* k+ 1)* 48271) (show(0:Int)<2147483647 by decide)
   refine⟨_,rfl,_,rfl,_,_,rfl,rfl,(show(0:Int)<65519 by decide),_,rfl,_,_,rfl,rfl,_,_,rfl,rfl,_,_,rfl,rfl,.inl ⟨by omega,by omega⟩,_,_,rfl,rfl,(show(0:Int)<2147483629 by decide),?_⟩
   exact q _ (Int.emod_nonneg _ (by decide)) (Int.emod_lt_of_pos _ (by decide))
  obtain⟨t,ht,hq⟩:=cT
  refine⟨_,(aK (bU (i:=2) vH.nd rfl (Or.inl rfl) aY)
   (aK (bK (cU vZ (cS gX rfl T.len gB (aA (pv 0) aG)) aY (cO _)) (aL (bU (i:=2) vH.nd rfl (Or.inl rfl) (dA iY (pv 0) (bR gA (pv 1) (cS gX rfl T.len gB (aA (pv 0) aG))) (fun _ _=>rfl)))) bO) ht)),?_⟩
  have el:((ns.map V.int).length:Int)=(ns.length:Int):=by rw[List.length_map]
  refine⟨_,rfl,_,_,rfl,.inl ⟨_,hS,rfl⟩,_,_,rfl,rfl,_,rfl,?_⟩
  rw[el]
  refine dM (fun h2=> ?_) (fun h2=> ?_)
  ·have h2':0<(ns.length:Int):=by simpa using h2
   have hm:=Int.emod_nonneg k (Int.ne_of_gt h2')
   have hm':=Int.emod_lt_of_pos k h2'
   exact⟨_,rfl,_,rfl,_,rfl,_,_,rfl,.inl ⟨_,hS,rfl⟩,_,_,rfl,rfl,by rw[el];exact h2',a,_,_,_,rfl,rfl,hS,by rw[el];exact a5C ns _ hm hm',hq _⟩
  ·exact hq _
end
theorem dX:Nl ("bad":Str)/\Nl ("worse":Str)/\Nl ("four":Str)/\Nl ("t":Str)/\Nl ("a":Str)/\Nl ("b":Str):=by unfold Nl;decide+kernel
def uN:PyData:=.tuple [.str "fault",.str "four"]
def iZ(is:List Int):PyData:=if is.headD 0=4 then uN else .int (is.headD 0)
section
inductive qX(K:Fg)(vs:List V)(H:Hp)(Q:VK)(E:XK):Prop
 |mk (i:Int):vs= [.int i] ->(∀H' v d,aH H H'->Pv K H' v d->Q v H')->qX K vs H Q E
theorem a75:bD ["_law_cell"] ["_law_cell"] (aO a1n):={}
theorem two9{α:Type}{x y:α}(i:Int):∃k:Nat,i/ 9% 2=(k:Int)/\([x,y][k]?=some x\/ [x,y][k]?=some y):=by
 rcases(show i/ 9% 2=0\/ i/ 9% 2=1 by omega)with h|h
 ·exact⟨0,h,.inl rfl⟩
 ·exact⟨1,h,.inr rfl⟩
theorem a1H(T:bF K mg):bG P w K mg af aE 1 "_law_value" ["_law_cell"] (qX K):=by
 refine T.d_law_value.known a75 (fun _ _ _ _ _ _ us hl=>fL (fun _=>rfl) us hl) (fun vs H Q E h=> ?_) (fun f ah A ag s H vs Q E hr h=> ?_)
 ·obtain⟨i,rfl,_⟩:=h
  rfl
 ·obtain⟨i,rfl,q⟩:=h
  refine⟨_,(aK (bK (cU mK (bR gA (pv 0) aY) aY (cO _)) (aL (bL (hZ (aA dY (aA (dA iY (fV (aA dY (aA dY aG))) (bR gA (bR zU (pv 0) aY) aY) (fun _ _=>rfl)) aG))))) bO)
   (aK (bK (cU vZ (bR gA (pv 0) aY) aY (cO _)) (aL (bL (dA iY (fV (aA (bR sV (bR xC aY aY) aY) (aA (bR sV aY (bR xC aY aY)) aG))) (bR gA (bR zU (pv 0) aY) aY) (fun _ _=>rfl)))) bO)
   (aL (bL (bR sV (bR gA (bR zU (pv 0) aY) aY) aY))))),?_⟩
  refine⟨_,rfl,_,_,rfl,rfl,(show(0:Int)<9 by decide),rfl,_,rfl,?_⟩
  refine dM (fun _=> ?_) (fun _=> ?_)
  ·refine⟨sl,fun l hl=> ?_⟩
   refine⟨_,rfl,_,_,rfl,rfl,⟨by decide,by decide⟩,_,_,rfl,rfl,(show(0:Int)<2 by decide),?_⟩
   have s1:=aH.new (o:=.lst [.str ("bad":Str),.str ("worse":Str)]) hl
   have l1:upd H l (.lst [.str ("bad":Str),.str ("worse":Str)]) l=some (.lst [.str ("bad":Str),.str ("worse":Str)]):=aJ
   generalize upd H l (.lst [.str ("bad":Str),.str ("worse":Str)])=H1 at s1 l1|-
   obtain⟨k,ek,hk⟩:=two9 (x:=V.str ("bad":Str)) (y:=V.str ("worse":Str)) i
   have fin:∀z:Str,Nl z-> [V.str ("bad":Str),V.str ("worse":Str)][k]?=some (.str z)->∃p xs j v,(V.ref l)=V.ref p/\V.int (i/ 9% 2)= .int j/\aM K H1 p xs/\cQ xs j=some v/\([V.str ("fault":Str),v].length<=sizeLine/\∀p,H1 p=none->Q (.ref p) (upd H1 p (.tup [.str ("fault":Str),v]))):=fun z hz e=>by
    refine⟨l,_,_,.str z,rfl,rfl,aM.of l1,by rw[ek];exact kW e,sl,fun p hp=> ?_⟩
    exact q _ _ (.tuple [.str "fault",.str z]) (s1.trans (aH.new hp)) (.inr ⟨p,z,rfl,aJ,rfl,hz⟩)
   rcases hk with hk|hk
   ·exact fin _ dX.1 hk
   ·exact fin _ dX.2.1 hk
  ·refine⟨_,rfl,_,_,rfl,rfl,(show(0:Int)<9 by decide),_,_,rfl,rfl,_,rfl,?_⟩
   refine dM (fun _=> ?_) (fun _=> ?_)
   ·refine⟨_,_,rfl,rfl,⟨by decide,by decide,by decide⟩,_,_,rfl,rfl,_,_,rfl,rfl,⟨by decide,by decide,by decide⟩,_,_,rfl,rfl,sl,fun l hl=> ?_⟩
    refine⟨_,rfl,_,_,rfl,rfl,⟨by decide,by decide⟩,_,_,rfl,rfl,(show(0:Int)<2 by decide),?_⟩
    obtain⟨k,ek,hk⟩:=two9 (x:=V.int (10^ (60:Int).toNat- 1)) (y:=V.int (1- 10^ (60:Int).toNat)) i
    rcases hk with hk|hk
    ·exact⟨l,_,_,_,rfl,rfl,aM.of aJ,by rw[ek];exact kW hk,q _ _ (.int (10^ (60:Int).toNat- 1)) (aH.new hl) (.inl ⟨_,rfl,rfl,by decide+kernel⟩)⟩
    ·exact⟨l,_,_,_,rfl,rfl,aM.of aJ,by rw[ek];exact kW hk,q _ _ (.int (1- 10^ (60:Int).toNat)) (aH.new hl) (.inl ⟨_,rfl,rfl,by decide+kernel⟩)⟩
   ·refine⟨_,rfl,_,_,rfl,rfl,⟨by decide,by decide⟩,_,_,rfl,rfl,(show(0:Int)<7 by decide),_,_,rfl,rfl,?_⟩
    refine q _ _ (.int (i/ 9% 7- 2)) (aH.refl H) (.inl ⟨_,rfl,rfl,a63 _ (by omega) (by omega)⟩)
inductive xP(K:Fg)(vs:List V)(H:Hp)(Q:VK)(E:XK):Prop
 |mk (ca l:Addr) (is:List Int) (cs:List V):vs= [.ref ca,.ref l] ->H l=some (.lst (is.map V.int))->H ca=some (.lst cs)->cs.length<900->(∃n,is= [n])->ca≠l->(∀H' v lc,bC ca H H'->H lc=none->H' ca=some (.lst (cs++ [.ref lc]))->H' lc=some (.lst (is.map V.int))->Dt K H' v (iZ is)->Q v H')->xP K vs H Q E
theorem a7c:bD ["_law_calls","_law_some"] ["_law_calls","_law_some"] (aO a1h):={}
theorem a7v(T:bF K mg):bG P w K mg af aE 1 "_law_noted" ["_law_calls","_law_some"] (xP K):=by
 refine T.d_law_noted.known a7c (fun _ _ _ _ _ _ us hl=>eC (fun _ _=>rfl) us hl) (fun vs H Q E h=> ?_) (fun f ah A ag s H vs Q E hr h=> ?_)
 ·obtain⟨ca,l,is,cs,rfl,_⟩:=h
  rfl
 ·obtain⟨ca,l,is,cs,rfl,hl,hca,c9,⟨n,rfl⟩,ne,q⟩:=h
  refine⟨_,(aK (cG (kI F.plainAttrs_list F.slot_list_append F.type_list_append jN (pv 0) (aA (nK rS rfl T.list jL (aA (pv 1) aG)) aG)))
   (aK (bK (cU mK (dA iY (pv 1) aY (fun _ _=>rfl)) aY (cO _)) (aL (bL (hZ (aA dY (aA dY aG))))) bO)
   (aL (bL (dA iY (pv 1) aY (fun _ _=>rfl)))))),?_⟩
  refine⟨_,rfl,.inl ⟨rfl,_,aM.of hca⟩,_,rfl,l,_,rfl,.inl (aM.of hl),fun lc hlc=> ?_⟩
  have s1:=aH.new (o:=.lst ([n].map V.int)) hlc
  have l1:upd H lc (.lst ([n].map V.int)) lc=some (.lst ([n].map V.int)):=aJ
  generalize upd H lc (.lst ([n].map V.int))=H1 at s1 l1|-
  refine⟨ca,_,_,rfl,rfl,s1 _ _ hca,dJ (by omega),?_⟩
  have u2:bC ca H1 (upd H1 ca (.lst (cs++ [.ref lc]))):=bC.upd
  have c2:upd H1 ca (.lst (cs++ [.ref lc])) ca=some (.lst (cs++ [.ref lc])):=aJ
  generalize upd H1 ca (.lst (cs++ [.ref lc]))=H2 at u2 c2|-
  have b2:bC ca H H2:=(bC.of s1).trans u2
  have nlc:lc≠ca:=fun y=>by rw[y,hca]at hlc;cases hlc
  have l2:=b2 _ _ ne.symm hl
  have lc2:=u2 _ _ nlc l1
  refine⟨_,rfl,l,_,_,_,rfl,rfl,aM.of l2,rfl,rfl,_,rfl,?_⟩
  have eg:iZ [n]=if n=4 then uN else .int n:=rfl
  refine dM (fun h=> ?_) (fun h=> ?_)
  ·have h4:n=4:=by simpa using h
   refine⟨sl,fun tp htp=> ?_⟩
   have s3:=aH.new (o:=.tup [.str ("fault":Str),.str ("four":Str)]) htp
   refine q _ _ lc (b2.trans (bC.of s3)) hlc (s3 _ _ c2) (s3 _ _ lc2) ?_
   rw[eg,if_pos h4]
   exact .tup (cF.of aJ) (.cons (.str _) (.cons (.str _) .nil))
  ·have h4:n≠4:=by simpa using h
   refine⟨_,rfl,l,_,_,_,rfl,rfl,aM.of l2,rfl,q _ _ lc b2 hlc c2 lc2 ?_⟩
   rw[eg,if_neg h4]
   exact .int n
def sH(n:Int):PyData->Bool
 | .int i=>i==n
 |_=>false
def bY(c:Str)(d:PyData):PyData:=if c= "b" /\sH 4 d=true then uN else d
theorem a7q(d:PyData)(h:Vd d)(n:Int):PyData.eqv d (.int n)=sH n d:=by
 rcases h with⟨i,rfl,_⟩|⟨y,rfl,_⟩
 ·simp[PyData.eqv,sH]
 ·simp[PyData.eqv,sH]
inductive a0d(K:Fg)(vs:List V)(H:Hp)(Q:VK)(E:XK):Prop
 |mk (v:V) (c:Str) (d:PyData):vs= [v,.str c] ->Pv K H v d->(∀H' v',aH H H'->Pv K H' v' (bY c d)->Q v' H')->a0d K vs H Q E
theorem a7g:bD ["_law_value_here","_law_column"] ["_law_value_here","_law_column"] (aO a0J):={}
theorem a6n(T:bF K mg):bG P w K mg af aE 1 "_law_shown" ["_law_value_here","_law_column"] (a0d K):=by
 refine T.d_law_shown.known a7g (fun _ _ _ _ _ _ us hl=>eC (fun _ _=>rfl) us hl) (fun vs H Q E h=> ?_) (fun f ah A ag s H vs Q E hr h=> ?_)
 ·obtain⟨v,c,d,rfl,_⟩:=h
  rfl
 ·obtain⟨v,c,d,rfl,hv,q⟩:=h
  refine⟨_,(aK (bK (PW.pt (kU (cU mK (pv 1) dY (cO _)) (lU (cU (nO hr.units) (pv 0) aY (cO _))))) (aL (bL (hZ (aA dY (aA dY aG))))) bO)
   (aL (bL (pv 0)))),?_⟩
  refine⟨_,rfl,rfl,_,rfl,?_⟩
  refine dM (fun hb=> ?_) (fun hb=> ?_)
  ·have hb:c= "b":=by simpa using hb
   refine⟨_,rfl,d,.int 4,hv.dt,.int 4,hv.vd.lay.1,rfl,Nat.le_trans hv.vd.lay.2 (by decide),_,rfl,?_⟩
   rw[a7q d hv.vd]
   refine dM (fun h4=> ?_) (fun h4=> ?_)
   ·refine⟨sl,fun tp htp=> ?_⟩
    refine q _ _ (aH.new htp) ?_
    rw[bY,if_pos ⟨hb,h4⟩]
    exact .inr ⟨tp,"four",rfl,aJ,rfl,dX.2.2.1⟩
   ·refine⟨_,rfl,q H v (aH.refl H) ?_⟩
    rw[bY,if_neg (fun h=>h4 h.2)]
    exact hv
  ·have hb:c≠ "b":=by simpa using hb
   refine bH ⟨_,rfl,q H v (aH.refl H) ?_⟩
   rw[bY,if_neg (fun h=>hb h.1)]
   exact hv
end
theorem Vd.kd(h:Vd d):decide (gO d= .tup)=My.isT d:=by
 rcases h with⟨i,rfl,_⟩|⟨y,rfl,_⟩<;>rfl
theorem rM{c A B:Prop} [Decidable c](h2:¬c->B)(h1:c->A):if c then A else B:=dM h1 h2
theorem cV.atD{K:Fg}{H:Hp}:∀{xs:List V} {ds:List PyData} {i:Nat},cV K H xs ds->i<ds.length->∃v d,xs[i]?=some v/\ds[i]?=some d/\Pv K H v d
 |_,_,0,.cons h _,_=>⟨_,_,rfl,rfl,h⟩
 |_,_,i+ 1,.cons _ t,h=>cV.atD (i:=i) t (Nat.lt_of_succ_lt_succ h)
noncomputable def iU (c:Str) (d:PyData) (w:Option Int):Bool:=decide (c= "b")&&(!isT d&&decide (w≠some (eW d)))
def a2m:Option Int->V
 |none=> .non
 |some n=> .int n
noncomputable def tP:Option Int->PyData
 |none=> .none
 |some n=> .int n
theorem a5r(w:Option Int)(n:Int):(!PyData.eqv (tP w) (.int n))=decide (w≠some n):=by
 cases w with
 |none=>simp[tP,PyData.eqv]
 |some m=>by_cases h:m=n<;>simp[tP,PyData.eqv,h]
noncomputable def dR (c:Str) (ds:List PyData) (st:(Nat->Option Int)×List (List Int)) (p:Nat):(Nat->Option Int)×List (List Int):=
 if iU c (ds.getD p .none) (st.1 p) then(fun q=>if q=p then some (eW (ds.getD p .none)) else st.1 q,st.2++ [[eW (ds.getD p .none)]]) else st
def wP(m:Nat)(ls:List V)(wl:Nat->Option Int):Prop:=ls.length=m/\∀p,p<m->ls[p]?=some (a2m (wl p))
def oF(no:List Addr)(H:Hp):List V->List (List Int)->Prop:=Paired fun x ns=>∃a,x= .ref a/\H a=some (.lst (ns.map V.int))/\a∉no
theorem oF.mv{dv:List V}{dues:List (List Int)}(u:∀b ys,b∉no->H b=some (.lst ys)->H' b=some (.lst ys))(h:oF no H dv dues):oF no H' dv dues:=Paired.imp (fun a b ⟨x,e1,e2,e3⟩=>⟨x,e1,u _ _ e3 e2,e3⟩) h
theorem oF.ls{dv:List V}{dues:List (List Int)}(h:oF no H dv dues):gJ K H dv dues:=Paired.imp (fun a b ⟨x,e1,e2,_⟩=>⟨x,e1,aM.of e2⟩) h
structure eX(K:Fg)(no:List Addr)(vl la du:Addr)(m:Nat)(ds:List PyData)(st:(Nat->Option Int)×List (List Int))(H:Hp):Prop where
 hv:∃zs,H vl=some (.lst zs)/\cV K H zs ds
 lm:ds.length=m
 hl:∃ls,H la=some (.lst ls)/\wP m ls st.1
 hd:∃dv,H du=some (.lst dv)/\oF no H dv st.2
 hn:vl∈no/\la∈no/\du∈no
 nth:∀b∈no,H b≠none
 d1:vl≠la/\vl≠du/\la≠du
theorem eX.mv{m:Nat}{st:(Nat->Option Int)×List (List Int)}(h:eX K no vl la du m ds st H)(k:bS H H')(k1:∀b ys,b∉no->H b=some (.lst ys)->H' b=some (.lst ys))(k2:∀b ys,b=vl\/ b=la\/ b=du->H b=some (.lst ys)->H' b=some (.lst ys))(nth:∀b∈no,H' b≠none):eX K no vl la du m ds st H':=
 ⟨h.hv.imp fun zs e=>⟨k2 _ _ (.inl rfl) e.1,e.2.keep k⟩,h.lm,h.hl.imp fun ls e=>⟨k2 _ _ (.inr (.inl rfl)) e.1,e.2⟩,h.hd.imp fun dv e=>⟨k2 _ _ (.inr (.inr rfl)) e.1,e.2.mv k1⟩,h.hn,nth,h.d1⟩
theorem eX.same{m:Nat}{st:(Nat->Option Int)×List (List Int)}(h:eX K no vl la du m ds st H)(s:aH H H'):eX K no vl la du m ds st H':=
 h.mv (bS.of s) (fun b ys _ e=>s _ _ e) (fun b ys _ e=>s _ _ e) (fun b hb y=>h.nth b hb (jH s y))
theorem eX.noup{m:Nat}{st:(Nat->Option Int)×List (List Int)}(h:eX K no vl la du m ds st H)(hD:H D=none)(s:aH H H')(hD':H' D≠none):eX K (D::no) vl la du m ds st H':=by
 have h2:=h.same s
 refine⟨h2.hv,h2.lm,h2.hl,?_,⟨List.mem_cons_of_mem _ h.hn.1,List.mem_cons_of_mem _ h.hn.2.1,List.mem_cons_of_mem _ h.hn.2.2⟩,fun b hb=>(List.mem_cons.mp hb).elim (fun y=>y▸hD') (h2.nth b),h.d1⟩
 obtain⟨dv,e1,e2⟩:=h.hd
 exact⟨dv,s _ _ e1,Paired.imp (fun a b ⟨x,x1,x2,x3⟩=>⟨x,x1,s _ _ x2,fun hm=>(List.mem_cons.mp hm).elim (fun y=>by rw[y,hD]at x2;cases x2) x3⟩) e2⟩
theorem eX.nodown{m:Nat}{st:(Nat->Option Int)×List (List Int)}(h:eX K (D::no) vl la du m ds st H)(hn:vl∈no/\la∈no/\du∈no):eX K no vl la du m ds st H:=by
 obtain⟨dv,e1,e2⟩:=h.hd
 exact⟨h.hv,h.lm,h.hl,⟨dv,e1,Paired.imp (fun a b ⟨x,x1,x2,x3⟩=>⟨x,x1,x2,fun hm=>x3 (List.mem_cons_of_mem _ hm)⟩) e2⟩,hn,fun b hb=>h.nth b (List.mem_cons_of_mem _ hb),h.d1⟩
section
def nI(la du:Addr)(H H':Hp):Prop:=∀b o,b≠la->b≠du->H b=some o->H' b=some o
inductive qB(K:Fg)(vs:List V)(H:Hp)(Q:VK)(E:XK):Prop
 |mk (no:List Addr) (vl la du:Addr) (m:Nat) (ds:List PyData) (st:(Nat->Option Int)×List (List Int)) (c:Str) (p:Nat):vs= [.ref vl,.ref la,.str c,.int (p:Int),.ref du] ->eX K no vl la du m ds st H->p<m->st.2.length<900->(∀H' v,Pv K H' v (bY c (ds.getD p .none))->nI la du H H'->eX K no vl la du m ds (dR c ds st p) H'->Q v H')->qB K vs H Q E
abbrev Nwt:List Str:=["_law_values","_law_last","_law_column","_law_place","_law_due","_law_value_here"]
theorem a3I:bD Nwt ["_law_values","_law_last","_law_column","_law_place","_law_due"] (aO a2Q):={}
theorem a3G(T:bF K mg):bG P w K mg af aE 2 "_law_wanted" ["_law_values","_law_last","_law_column","_law_place","_law_due"] (qB K):=by
 have G_law_shown:bG P w K mg af aE 1 "_law_shown" ["_law_value_here","_law_column"] (a0d K):=a6n T
 refine T.d_law_wanted.known a3I (fun _ _ _ _ _ _ us hl=>qV (fun _ _ _ _ _=>rfl) us hl) (fun vs H Q E h=> ?_) (fun f ah A ag s H vs Q E hr h=> ?_)
 ·obtain⟨no,vl,la,du,m,ds,st,c,p,rfl,_⟩:=h
  rfl
 ·obtain⟨no,vl,la,du,m,ds,st,c,p,rfl,W,hp,d9,q⟩:=h
  refine⟨_,(aK (bU (i:=5) a3I.nd rfl (Or.inl rfl) (dA iY (pv 0) (pv 3) (fun _ _=>rfl)))
   (aK (bK (PW.pt (kU (cU mK (pv 2) dY (cO _)) (kU (eI (dI (cS kM rfl T.isinstance jD (aA (pv 5) (aA (jE T.tuple zY) aG))) (fun _=>rfl))) (lU (cU (nR hr.units) (dA iY (pv 1) (pv 3) (fun _ _=>rfl)) (pv 5) (cO _)))))) (aK (a0l (pv 5) (a0m (pv 1) (pv 3) zB (fun _=>rfl)))
   (aL (cG (kI F.plainAttrs_list F.slot_list_append F.type_list_append jN (pv 4) (aA (fV (aA (pv 5) aG)) aG))))) bO)
   (aL (bL (bQ G_law_shown hr.mn aR (aA (pv 5) (aA (pv 2) aG))))))),?_⟩
  obtain⟨zs,hvl,pz⟩:=W.hv
  obtain⟨ls,hla,lsl,lsa⟩:=W.hl
  obtain⟨dv,hdu,dvi⟩:=W.hd
  obtain⟨v,d,hv,hd,hpv⟩:=cV.atD pz (i:=p) (by rw[W.lm];exact hp)
  have ed:ds.getD p .none=d:=by rw[List.getD_eq_getElem?_getD,hd];rfl
  have ldv:=Paired.length dvi
  have quiet:iU c d (st.1 p)=false->∀v' H',aH H H'->Pv K H' v' (bY c d)->Q v' H':=fun hw v' H' s' hp'=>by
   have:dR c ds st p=st:=by
    unfold dR
    rw[ed,hw,if_neg Bool.false_ne_true]
   refine q H' v' (by rw[ed];exact hp') (fun b o _ _ e=>s' _ _ e) ?_
   rw[this]
   exact W.same s'
  refine⟨_,rfl,_,rfl,vl,_,_,v,rfl,rfl,aM.of hvl,kW hv,?_⟩
  refine⟨_,rfl,rfl,_,rfl,?_⟩
  refine rM (fun hb=> ?_) (fun hb=> ?_)
  ·have hb:c≠ "b":=by simpa using hb
   refine bH ⟨_,rfl,_,rfl,v,c,d,rfl,hpv,fun H' v' s' hp'=>quiet (by unfold iU;rw[decide_eq_false hb];rfl) v' H' s' hp'⟩
  ·have hb:c= "b":=by simpa using hb
   refine⟨_,rfl,v,"tuple",d,_,rfl,hpv.dt,wO K _,_,rfl,?_⟩
   rw[hpv.vd.kd]
   cases hT:isT d with
   |true=>
    refine bH (bH ⟨_,rfl,_,rfl,v,c,d,rfl,hpv,fun H' v' s' hp'=>quiet (by unfold iU;rw[hT];simp) v' H' s' hp'⟩)
   |false=>
    obtain⟨n,rfl⟩:∃n,d= .int n:=by
     rcases hpv.vd with⟨n,h,_⟩|⟨y,h,_⟩
     ·exact⟨n,h⟩
     ·rw[h]at hT;cases hT
    have ev:v= .int n:=by
     have:=hpv.dt
     cases this
     rfl
    subst ev
    refine cE ⟨_,rfl,_,rfl,la,_,_,_,rfl,rfl,aM.of hla,kW (lsa p hp),_,rfl,tP (st.1 p),.int n,?_,.int n,?_,rfl,?_,_,rfl,?_⟩
    ·cases st.1 p with
     |none=>exact .non
     |some k=>exact .int k
    ·cases st.1 p<;>rfl
    ·cases st.1 p<;>exact Nat.zero_le _
    rw[a5r]
    refine rM (fun hn=> ?_) (fun hn=> ?_)
    ·refine⟨_,rfl,_,rfl,.int n,c,.int n,rfl,hpv,fun H' v' s' hp'=>quiet (by unfold iU;rw[show decide (st.1 p≠some (eW (.int n)))=false from by rw[show eW (.int n)=n from rfl];simpa using hn];simp) v' H' s' hp'⟩
    ·refine⟨_,rfl,_,rfl,_,rfl,la,ls,(p:Int),p,rfl,rfl,hla,by rw[vV (by omega) (by omega),Int.toNat_natCast],?_⟩
     have u1:bC la H (upd H la (.lst (ls.set p (.int n)))):=bC.upd
     have la1:upd H la (.lst (ls.set p (.int n))) la=some (.lst (ls.set p (.int n))):=aJ
     generalize upd H la (.lst (ls.set p (.int n)))=H1 at u1 la1|-
     have du1:=u1 _ _ W.d1.2.2.symm hdu
     refine⟨_,rfl,.inl ⟨rfl,_,aM.of du1⟩,_,rfl,sl,fun l hl=> ?_⟩
     have hlH:H l=none:=by
      cases e:H l with
      |none=>rfl
      |some o=>
       by_cases y:l=la
       ·rw[y,la1]at hl;cases hl
       ·rw[u1 _ _ y e]at hl;cases hl
     have s2:=aH.new (o:=.lst [.int n]) hl
     have l2:upd H1 l (.lst [.int n]) l=some (.lst [.int n]):=aJ
     generalize upd H1 l (.lst [.int n])=H2 at s2 l2|-
     refine⟨du,_,_,rfl,rfl,s2 _ _ du1,dJ (by omega),?_⟩
     have u3:bC du H2 (upd H2 du (.lst (dv++ [.ref l]))):=bC.upd
     have du3:upd H2 du (.lst (dv++ [.ref l])) du=some (.lst (dv++ [.ref l])):=aJ
     generalize upd H2 du (.lst (dv++ [.ref l]))=H3 at u3 du3|-
     have k3:nI la du H H3:=fun b o n1 n2 e=>u3 _ _ n2 (s2 _ _ (u1 _ _ n1 e))
     have kt3:bS H H3:=fun b xs e=>k3 _ _ (fun y=>by rw[y,hla]at e;cases e) (fun y=>by rw[y,hdu]at e;cases e) e
     have nld:l≠du:=fun y=>by rw[y,hdu]at hlH;cases hlH
     have l3:=u3 _ _ nld l2
     have lno:l∉no:=fun hm=>W.nth l hm hlH
     have W3:eX K no vl la du m ds (dR c ds st p) H3:=by
      have ew:dR c ds st p=(fun q=>if q=p then some n else st.1 q,st.2++ [[n]]):=by
       unfold dR
       rw[ed,show iU c (.int n) (st.1 p)=true from by unfold iU;rw[decide_eq_true hb,show decide (st.1 p≠some (eW (.int n)))=true from hn];rfl,if_pos rfl]
       rfl
      rw[ew]
      refine⟨⟨zs,k3 _ _ W.d1.1 W.d1.2.1 hvl,pz.keep kt3⟩,W.lm,⟨_,u3 _ _ W.d1.2.2 (s2 _ _ la1),by rw[List.length_set];exact lsl,fun r hr'=> ?_⟩,⟨_,du3,?_⟩,W.hn,fun b hb y=> ?_,W.d1⟩
      ·show(ls.set p (.int n))[r]?=some (a2m (if r=p then some n else st.1 r))
       by_cases e:r=p
       ·subst e
        rw[if_pos rfl,List.getElem?_set_self (by omega)]
        rfl
       ·rw[if_neg e,List.getElem?_set_ne (fun y=>e y.symm)]
        exact lsa r hr'
      ·exact Paired.snoc ⟨l,rfl,l3,lno⟩ (oF.mv (fun b ys n e=>k3 _ _ (fun y=>n (y▸W.hn.2.1)) (fun y=>n (y▸W.hn.2.2)) e) dvi)
      ·by_cases e1:b=la
       ·rw[e1,u3 _ _ W.d1.2.2 (s2 _ _ la1)]at y;cases y
       ·by_cases e2:b=du
        ·rw[e2,du3]at y;cases y
        ·cases e:H b with
         |none=>exact W.nth b hb e
         |some o=>rw[k3 _ _ e1 e2 e]at y;cases y
     refine⟨_,rfl,_,rfl,.int n,c,.int n,rfl,hpv.keep kt3,fun H4 v4 s4 hp4=>q H4 v4 (by rw[ed];exact hp4) (fun b o n1 n2 e=>s4 _ _ (k3 _ _ n1 n2 e)) (W3.same s4)⟩
end
theorem a0x(h:Vd d):Vd (bY c d):=by
 unfold bY
 split
 ·exact .inr ⟨"four",rfl,dX.2.2.1⟩
 ·exact h
section
inductive a0B(K:Fg)(vs:List V)(H:Hp)(Q:VK)(E:XK):Prop
 |mk (no:List Addr) (vl la du:Addr) (m:Nat) (ds:List PyData) (wl:Nat->Option Int) (c:Str):vs= [.ref vl,.ref la,.str c,.ref du] ->eX K no vl la du m ds (wl,[]) H->m<=30->(∀H' v,Dt K H' v (jB (ds.map (bY c)) 0)->nI la du H H'->eX K no vl la du m ds ((List.range (gF (ds.map (bY c)))).foldl (dR c ds) (wl,[])) H'->Q v H')->a0B K vs H Q E
abbrev Nlt:List Str:=["_law_values","_law_last","_law_column","_law_due","_law_total_here","_law_place","_law_value_here"]
theorem qY:bD Nlt ["_law_values","_law_last","_law_column","_law_due"] (aO a1W):={}
theorem a6y(c:Str)(ds:List PyData)(st:(Nat->Option Int)×List (List Int))(p:Nat):(dR c ds st p).2.length<=st.2.length+ 1:=by
 unfold dR
 split
 ·rw[List.length_append];exact Nat.le_refl _
 ·omega
theorem yS(c:Str)(ds:List PyData):∀(ps:List Nat) (st:(Nat->Option Int)×List (List Int)),(ps.foldl (dR c ds) st).2.length<=st.2.length+ ps.length
 | [],st=>Nat.le_refl _
 |p::ps,st=>by
  have h1:=yS c ds ps (dR c ds st p)
  have h2:=a6y c ds st p
  rw[List.foldl_cons,List.length_cons]
  omega
theorem a4T(T:bF K mg):bG P w K mg af aE 3 "_law_total" ["_law_values","_law_last","_law_column","_law_due"] (a0B K):=by
 have G_law_wanted:bG P w K mg af aE 2 "_law_wanted" ["_law_values","_law_last","_law_column","_law_place","_law_due"] (qB K):=a3G T
 refine T.d_law_total.known qY (fun _ _ _ _ _ _ us hl=>mS (fun _ _ _ _=>rfl) us hl) (fun vs H Q E h=> ?_) (fun f ah A ag s H vs Q E hr h=> ?_)
 ·obtain⟨no,vl,la,du,m,ds,wl,c,rfl,_⟩:=h
  rfl
 ·obtain⟨no,vl,la,du,m,ds,wl,c,rfl,W,m30,q⟩:=h
  refine⟨_,(aK (bU (i:=4) qY.nd rfl (Or.inl rfl) aY)
   (aK (kO PassesOwn.never rfl (uG rfl T.range (aA (cS gX rfl T.len gB (aA (pv 0) aG)) aG)) (gQ (i:=5) qY.nd rfl (Or.inl rfl)) (aK (bU (i:=6) qY.nd rfl (Or.inl rfl) (bQ G_law_wanted hr.mn aR (aA (pv 0) (aA (pv 1) (aA (pv 2) (aA (pv 5) (aA (pv 3) aG)))))))
   (aK (bK (dI (cS kM rfl T.isinstance jD (aA (pv 6) (aA (jE T.tuple zY) aG))) (fun _=>rfl)) (aL (bL (pv 6))) bO)
   (aL (bU (i:=4) qY.nd rfl (Or.inl rfl) (bR fZ (pv 4) (pv 6)))))))
   (aL (bL (pv 4))))),?_⟩
  obtain⟨zs,hvl,pz⟩:=W.hv
  have lz:zs.length=m:=by rw[Paired.length pz,W.lm]
  refine⟨_,rfl,_,_,rfl,.inl ⟨_,aM.of hvl,rfl⟩,_,rfl,by omega,by omega,?_⟩
  rw[lz]
  have lds:(ds.map (bY c)).length=m:=by rw[List.length_map,W.lm]
  refine a0D (lo:=0) (n:=((m:Nat):Int).toNat) (fun i σ H2=>∃o5 o6 n,σ= [some (.ref vl),some (.ref la),some (.str c),some (.ref du),some (.int n),o5,o6] /\nI la du H H2/\eX K no vl la du m ds ((List.range i).foldl (dR c ds) (wl,[])) H2/\jB ((ds.map (bY c)).drop i) n=jB (ds.map (bY c)) 0/\gF (ds.map (bY c))=i+ gF ((ds.map (bY c)).drop i)) ?_ ?_ ?_
  ·exact⟨_,_,0,rfl,fun b o _ _ e=>e,W,rfl,by rw[Nat.zero_add];rfl⟩
  ·rintro i σ H2 hi ⟨o5,o6,n,rfl,f2,W2,ht,hup⟩
   have hi:i<m:=by omega
   rw[Int.zero_add]
   have fl:=yS c ds (List.range i) (wl,[])
   rw[List.length_range,show((wl,([]:List (List Int))):(Nat->Option Int)×List (List Int)).2.length=0 from rfl]at fl
   refine⟨_,rfl,_,rfl,_,rfl,_,rfl,_,rfl,no,vl,la,du,m,ds,_,c,i,rfl,W2,hi,by omega,fun H3 v p3 f3 W3=> ?_⟩
   have hd:(ds.map (bY c))[i]?=some (bY c (ds.getD i .none)):=by
    rw[List.getElem?_map,List.getD_eq_getElem?_getD,List.getElem?_eq_getElem (by rw[W.lm];exact hi)]
    rfl
   have W3':eX K no vl la du m ds ((List.range (i+ 1)).foldl (dR c ds) (wl,[])) H3:=by
    rw[List.range_succ,List.foldl_append]
    exact W3
   have f23:nI la du H H3:=fun b o n1 n2 e=>f3 _ _ n1 n2 (f2 _ _ n1 n2 e)
   rw[mZ hd,a0j]at ht
   rw[mZ hd,a0h]at hup
   refine⟨_,rfl,v,"tuple",_,_,rfl,p3.dt,wO K _,_,rfl,?_⟩
   rw[p3.vd.kd]
   cases hT:isT (bY c (ds.getD i .none))with
   |true=>
    rw[hT,if_pos rfl]at ht hup
    refine cE ⟨_,rfl,q H3 v (by rw[<- ht];exact p3.dt) f23 ?_⟩
    rw[hup]
    exact W3'
   |false=>
    rw[hT,if_neg Bool.false_ne_true]at ht hup
    obtain⟨j,hj⟩:∃j,bY c (ds.getD i .none)= .int j:=by
     rcases p3.vd with⟨j,h,_⟩|⟨y,h,_⟩
     ·exact⟨j,h⟩
     ·rw[h]at hT;cases hT
    rw[hj]at ht
    have ev:v= .int j:=by
     have:=p3.dt
     rw[hj]at this
     cases this
     rfl
    subst ev
    exact bH ⟨_,rfl,_,rfl,_,_,rfl,rfl,_,_,n+ j,rfl,f23,W3',ht,by omega⟩
  ·rintro σ H2 ⟨o5,o6,n,rfl,f2,W2,ht,hup⟩
   have em:((m:Nat):Int).toNat=(ds.map (bY c)).length:=by omega
   rw[em,List.drop_length]at ht hup
   rw[em]at W2
   refine⟨_,rfl,q H2 _ (by rw[<- ht];exact .int n) f2 ?_⟩
   rw[hup]
   exact W2
end
noncomputable def eT (c:Str) (ds:List PyData) (wl:Nat->Option Int) (p:Nat):Option (List Int):=if iU c (ds.getD p .none) (wl p) then some [eW (ds.getD p .none)] else none
theorem yO{st:(Nat->Option Int)×List (List Int)}{q:Nat}(h:q≠p):(dR c ds st p).1 q=st.1 q:=by
 unfold dR
 split
 ·exact if_neg h
 ·rfl
theorem a37{st:(Nat->Option Int)×List (List Int)}:(dR c ds st p).1 p=if c= "b" /\isT (ds.getD p .none)=false then some (eW (ds.getD p .none)) else st.1 p:=by
 unfold dR iU
 generalize ds.getD p .none=d
 by_cases h1:c= "b"<;>cases h2:isT d<;>by_cases h3:st.1 p=some (eW d)<;>simp[h1,h3]
theorem a86{st:(Nat->Option Int)×List (List Int)}:(dR c ds st p).2=st.2++ (eT c ds st.1 p).toList:=by
 unfold dR eT
 split
 ·rfl
 ·exact(List.append_nil _).symm
theorem nJ{c:Str}{ds:List PyData}:∀{ps:List Nat} {st:(Nat->Option Int)×List (List Int)} {q:Nat},q∉ps->(ps.foldl (dR c ds) st).1 q=st.1 q
 | [],_,_,_=>rfl
 |p::ps,st,q,h=>by
  rw[List.mem_cons,not_or]at h
  rw[List.foldl_cons,nJ h.2,yO h.1]
theorem nZ{c:Str}{ds:List PyData}:∀{ps:List Nat} {st:(Nat->Option Int)×List (List Int)} {q:Nat},ps.Nodup->q∈ps->(ps.foldl (dR c ds) st).1 q=if c= "b" /\isT (ds.getD q .none)=false then some (eW (ds.getD q .none)) else st.1 q
 |p::ps,st,q,hn,h=>by
  rw[List.nodup_cons]at hn
  rw[List.foldl_cons]
  by_cases e:q=p
  ·subst e
   rw[nJ hn.1,a37]
  ·rw[nZ hn.2 ((List.mem_cons.mp h).resolve_left e),yO e]
theorem a8e{wl':Nat->Option Int}(h:wl' p=wl p):eT c ds wl' p=eT c ds wl p:=by
 unfold eT
 rw[h]
theorem a0g{c:Str}{ds:List PyData}:∀{ps:List Nat} {st:(Nat->Option Int)×List (List Int)},ps.Nodup->(ps.foldl (dR c ds) st).2=st.2++ ps.filterMap (eT c ds st.1)
 | [],st,_=>(List.append_nil _).symm
 |p::ps,st,hn=>by
  rw[List.nodup_cons]at hn
  rw[List.foldl_cons,a0g hn.2,a86,List.append_assoc]
  congr 1
  rw[List.filterMap_cons]
  have:ps.filterMap (eT c ds (dR c ds st p).1)=ps.filterMap (eT c ds st.1):=uP fun q hq=>a8e (yO fun e=>hn.1 (e▸hq))
  rw[this]
  cases eT c ds st.1 p<;>rfl
structure cN where
 s:Addr
 ch:Addr
 bd:Addr
 gr:Addr
 nl:Addr
 fa:Addr
 ca:Addr
 mc:Addr
 vl:Addr
 la:Addr
 lA:Addr
 B:BM
 m:Nat
def cN.fx(W:cN):List Addr:=[W.ch,W.B.r,W.B.od,W.lA,W.nl,W.ca,W.vl,W.la]
structure iJ(W:cN):Prop where
 nd:W.fx.Nodup
 mb:W.mc≠W.bd/\W.mc≠W.B.e/\W.mc≠W.B.ru/\W.mc≠W.B.me
 ss:qF W.bd W.ch W.B
 k1:aF W.B.kvs (.inr "a":aB)=some (.ref W.lA)
 r0:aF W.B.rus (.inr "b":aB)=some (.ref W.gr)
 r1:aF W.B.rus (.inr "a":aB)=none
 me:aF W.B.mes (.inr "b":aB)=some (.ref W.mc)
 xs:W.B.xs=fP 0 W.m
 m7:W.m<=7
 od:W.B.ord= [("a":Str),("b":Str)]
 gc:W.gr≠W.ca
 gs:W.gr≠W.s/\W.nl≠W.s
 gx:W.gr∉W.fx
theorem iJ.ne{W:cN}(O:iJ W):(W.ch≠W.B.r/\W.ch≠W.B.od/\W.ch≠W.lA/\W.ch≠W.nl/\W.ch≠W.ca/\W.ch≠W.vl/\W.ch≠W.la)/\(W.B.r≠W.B.od/\W.B.r≠W.lA/\W.B.r≠W.nl/\W.B.r≠W.ca/\W.B.r≠W.vl/\W.B.r≠W.la)/\(W.B.od≠W.lA/\W.B.od≠W.nl/\W.B.od≠W.ca/\W.B.od≠W.vl/\W.B.od≠W.la)/\(W.lA≠W.nl/\W.lA≠W.ca/\W.lA≠W.vl/\W.lA≠W.la)/\(W.nl≠W.ca/\W.nl≠W.vl/\W.nl≠W.la)/\(W.ca≠W.vl/\W.ca≠W.la)/\W.vl≠W.la:=by
 have:=O.nd
 unfold cN.fx at this
 simp only[List.nodup_cons,List.mem_cons,List.not_mem_nil,or_false,not_or]at this
 obtain⟨a,b,c,d,e,f,g,_⟩:=this
 exact⟨a,b,c,d,e,f,g⟩
theorem a5R{m:Nat}(h:p<m):cQ (fP 0 m) (p:Int)=some (.int (p:Int)):=by
 refine kW ?_
 unfold fP
 rw[List.getElem?_map,List.getElem?_range h]
 show some (V.int (0+ (p:Int)))=_
 rw[Int.zero_add]
theorem lE:("a":Str)≠ "b" /\("b":Str)≠ "a":=by decide+kernel
section
variable(P:Program)(w:World)(K:Fg)(mg:Str->Option Value)(af:Heap)
def gL(CG:Addr)(W:cN):RD:=⟨W.gr,W.fa,W.mc,CG,iE W.nl W.fa,[W.gr,W.nl],none,iZ,fun is=>∃n,is= [n] /\iF (.int n)=true,rD P w K mg af CG⟩
def aZ(CG:Addr)(W:cN)(fi fd lk:Addr)(ys:List V)(ds:List PyData):X1 where
 fi:=fi
 bd:=W.bd
 fd:=fd
 lk:=lk
 nm:= "t"
 B:=W.B
 m:=W.m
 gv:=fun c=>if c= "a" then some ys else none
 val:=fun c p=>if c= "a" then ds.getD p .none else bY "b" (ds.getD p .none)
 rl:=fun c=>if c= "b" then some (gL P w K mg af CG W) else none
 tree:=fun c p=>if c= "b" then jP "t" ["a"] p else .done (.inl .none)
 rk:=fun _ _=>0
 rc:=["b"]
 num:=fun p=>p
 bnd:=W.m
 ca:=some W.ca
 fx:=W.fx
 abn:=fun _=>False
 wa:=fun _ _=>none
end
theorem a3F{n:Int}(h:iF (.int n)=true):fK (iZ [n])=bY "b" (.int n):=by
 unfold fK iZ bY
 by_cases e:n=4
 ·subst e
  rw[show ([4]:List Int).headD 0=4 from rfl,if_pos rfl,if_pos (show jF uN=true from by decide+kernel),if_pos ⟨rfl,rfl⟩]
 ·have e2:sH 4 (.int n)=false:=by
   show(n==4)=false
   simpa using e
  rw[show ([n]:List Int).headD 0=n from rfl,if_neg e,if_pos (show jF (.int n)=true from by rw[show jF (.int n)=(iF (.int n)||iQ (.int n)) from rfl,h];rfl),if_neg (fun y=>by rw[e2]at y;cases y.2)]
theorem sR{W:cN}{val:aQ->PyData}:(jP "t" ["a"] p).run val=if isT (val ("t","a",p)) then .inl (val ("t","a",p)) else .inr [eW (val ("t","a",p))]:=by
 show(iK .done [(("t","a",p):aQ)] []).run val=_
 rw[a0a]
 show(if isT (val ("t","a",p)) then GT.done (.inl (val ("t","a",p))) else iK .done [] ([] ++ [eW (val ("t","a",p))])).run val=_
 cases isT (val ("t","a",p))<;>rfl
theorem a2J{val:aQ->PyData}:(jP "t" ["a"] p).looks val= [(("t","a",p):aQ)]:=by
 show(iK .done [(("t","a",p):aQ)] []).looks val=_
 rw[a0a]
 show _::(if isT (val ("t","a",p)) then GT.done (.inl (val ("t","a",p))) else iK .done [] ([] ++ [eW (val ("t","a",p))])).looks val=_
 cases isT (val ("t","a",p))<;>rfl
section
theorem fX{W:cN}{R:RD}(h:(aZ P w K mg af CG W fi fd lk ys ds).rl c=some R):c= "b" /\R=gL P w K mg af CG W:=by
 have h:(if c= "b" then some (gL P w K mg af CG W) else none)=some R:=h
 split at h
 ·exact⟨by assumption,(Option.some.inj h).symm⟩
 ·cases h
theorem oR{W:cN}{ys':List V}(h:(aZ P w K mg af CG W fi fd lk ys ds).gv c=some ys'):c= "a" /\ys'=ys:=by
 have h:(if c= "a" then some ys else none)=some ys':=h
 split at h
 ·exact⟨by assumption,(Option.some.inj h).symm⟩
 ·cases h
theorem oC{W:cN}:(aZ P w K mg af CG W fi fd lk ys ds).v ("t","a",p)=ds.getD p .none:=by
 show(if("a":Str)= "a" then ds.getD p .none else bY "b" (ds.getD p .none))=_
 rw[if_pos rfl]
theorem a5l{W:cN}:(aZ P w K mg af CG W fi fd lk ys ds).v ("t","b",p)=bY "b" (ds.getD p .none):=by
 show(if("b":Str)= "a" then ds.getD p .none else bY "b" (ds.getD p .none))=_
 rw[if_neg lE.2]
theorem a6r{W:cN}(O:iJ W)(fl:fd≠lk)(ly:ys.length=W.m)(ld:ds.length=W.m)(vd:∀d∈ds,Vd d):X1Ok (aZ P w K mg af CG W fi fd lk ys ds):=by
 obtain⟨⟨a1,a2,a3,a4,a5,a6,a7⟩,⟨b1,b2,b3,b4,b5,b6⟩,⟨c1,c2,c3,c4,c5⟩,⟨d1,d2,d3,d4⟩,⟨e1,e2,e3⟩,⟨f1,f2⟩,g1⟩:=O.ne
 have m7:=O.m7
 have hv:∀p,p<W.m->Vd (ds.getD p .none):=fun p hp=>by
  rw[List.getD_eq_getElem?_getD,List.getElem?_eq_getElem (by omega)]
  exact vd _ (List.getElem_mem _)
 refine⟨by show W.B.xs.length=W.m;rw[O.xs,nN],by show W.m<=30;omega,by show W.B.ord.length<=8;rw[O.od];decide,fun c hc=> ?_,fun c R h=> ?_,fun c hc=> ?_,(by show(["b"]:List Str).Nodup;decide+kernel),fun c R h=> ?_,fun c R h=> ?_,fun c R h is hi=> ?_,fun c R h=> ?_,fun c R h=> ?_,fun c R c' R' h h' _=> ?_,⟨fun y=>b4 (Option.some.inj y).symm,fun y=>c3 (Option.some.inj y).symm⟩,fun c ys' l g e y=> ?_,fl,fun p hp=>⟨by show cQ W.B.xs _=_;rw[O.xs];exact a5R hp,hp⟩,fun p p' _ _ e=>e,by show W.m<=85;omega,fun p j _ h=>False.elim h,fun a e=> ?_,fun c R p _ hp h=> ?_,fun c R p _ hp h y hy=> ?_,fun c R p _ hp h is hi=> ?_⟩
 ·have hc:c∈W.B.ord:=hc
  rw[O.od]at hc
  simp only[List.mem_cons,List.not_mem_nil,or_false]at hc
  rcases hc with rfl|rfl
  ·exact .inl ⟨ys,(show(if("a":Str)= "a" then some ys else none)=some ys from if_pos rfl),ly,dX.2.2.2.2.1,O.r1⟩
  ·exact .inr ⟨(show(if("b":Str)= "a" then some ys else none)=none from if_neg lE.2),gL P w K mg af CG W,(show(if("b":Str)= "b" then some (gL P w K mg af CG W) else none)=some (gL P w K mg af CG W) from if_pos rfl)⟩
 ·rw[(fX h).1];exact List.mem_singleton.mpr rfl
 ·rw[List.mem_singleton.mp hc];exact(show(if("b":Str)= "a" then some ys else none)=none from if_neg lE.2)
 ·obtain⟨rfl,rfl⟩:=fX h;exact⟨O.r0,O.me⟩
 ·obtain⟨rfl,rfl⟩:=fX h;exact⟨⟨(pS _ _).1,(pS _ _).2.2.2.2⟩,(pS _ _).2.2.2.1⟩
 ·obtain⟨rfl,rfl⟩:=fX h
  obtain⟨n,rfl,hn⟩:=hi
  have hs:Vd (fK (iZ [n])):=by rw[a3F hn];exact a0x (.inl ⟨n,rfl,hn⟩)
  refine⟨?_,hs⟩
  show jS (iZ [n])
  unfold iZ
  split
  ·exact(Vd.short (.inr ⟨"four",rfl,dX.2.2.1⟩)).1
  ·exact(Vd.short (.inl ⟨n,rfl,hn⟩)).1
 ·obtain⟨rfl,rfl⟩:=fX h
  refine⟨aa,fun b hb y=> ?_⟩
  have hb:b∈ [W.gr,W.nl]:=hb
  have y:W.ca=b:=Option.some.inj y
  simp only[List.mem_cons,List.not_mem_nil,or_false]at hb
  rcases hb with h|h
  ·exact O.gc (h▸y.symm)
  ·exact e1 (h▸y.symm)
 ·obtain⟨rfl,rfl⟩:=fX h;exact O.mb
 ·rw[(fX h).1,(fX h').1]
 ·obtain⟨rfl,rfl⟩:=oR g
  have e:aF W.B.kvs (.inr "a":aB)=some (.ref l):=e
  rw[O.k1]at e
  have:=V.ref.inj (Option.some.inj e)
  exact d2 (this.trans (Option.some.inj y).symm)
 ·rw[<- Option.some.inj e]
  show W.ca∈W.fx
  unfold cN.fx
  simp
 ·obtain⟨rfl,rfl⟩:=fX h
  show(if("b":Str)= "a" then ds.getD p .none else bY "b" (ds.getD p .none))=uZ iZ ((if("b":Str)= "b" then jP "t" ["a"] p else .done (.inl .none):GT).run (aZ P w K mg af CG W fi fd lk ys ds).v)
  rw[if_neg lE.2,if_pos rfl,sR (W:=W),oC]
  rcases hv p hp with⟨n,h,hn⟩|⟨y,h,_⟩
  ·rw[h]
   show _=fK (iZ [n])
   rw[a3F hn]
  ·rw[h]
   show bY "b" (.tuple _)=_
   unfold bY
   rw[if_neg (fun z=>by cases z.2)]
   rfl
 ·obtain⟨rfl,rfl⟩:=fX h
  have hy:y∈(if("b":Str)= "b" then jP "t" ["a"] p else .done (.inl .none)).looks (aZ P w K mg af CG W fi fd lk ys ds).v:=hy
  rw[if_pos rfl,a2J,List.mem_singleton]at hy
  subst hy
  exact⟨⟨rfl,by show("a":Str)∈W.B.ord;rw[O.od];exact aa,hp⟩,fun g=>by
   have g:(if("a":Str)= "a" then some ys else none)=none:=g
   rw[if_pos rfl]at g
   cases g⟩
 ·obtain⟨rfl,rfl⟩:=fX h
  have hi:(if("b":Str)= "b" then jP "t" ["a"] p else .done (.inl .none)).run (aZ P w K mg af CG W fi fd lk ys ds).v= .inr is:=hi
  rw[if_pos rfl,sR (W:=W),oC]at hi
  rcases hv p hp with⟨n,h,hn⟩|⟨y,h,_⟩
  ·rw[h]at hi
   have hi:Sum.inr [n]=(Sum.inr is:PyData ⊕ List Int):=hi
   cases hi
   exact⟨⟨n,rfl,hn⟩,by show 1<=100;decide⟩
  ·rw[h]at hi
   cases hi
end
noncomputable def cC (a n:Nat):List Nat:=(List.range n).map fun i=>a+ i
theorem lN(a n:Nat):(cC a n).Nodup:=(List.nodup_range (n:=n)).map (f:=fun i=>a+ i) (fun x y h e=>h (by omega))
theorem sN{a n:Nat}:p∈cC a n↔a<=p/\p<a+ n:=by
 unfold cC
 rw[List.mem_map]
 constructor
 ·rintro⟨i,hi,rfl⟩
  rw[List.mem_range]at hi
  omega
 ·intro h
  exact⟨p- a,List.mem_range.mpr (by omega),by omega⟩
theorem oA(nm c:Str)(a n:Nat):dH nm c a n=(cC a n).map fun p=>((nm,c,p):aQ):=by
 unfold dH cC
 rw[List.map_map]
 rfl
theorem a1u(n:Nat):cC 0 n=List.range n:=by
 unfold cC
 have:(fun i=>0+ i)=(fun i:Nat=>i):=by funext i;exact Nat.zero_add i
 rw[this,List.map_id']
noncomputable def lw (wo:aQ->Option (List Int×V)) (p:Nat):Option Int:=(wo ("t","b",p)).map fun jv=>jv.1.headD 0
section
variable{W:cN}
theorem a6h{x y:aQ}(h:kY (aZ P w K mg af CG W fi fd lk ys ds).sx x y):y=x:=by
 induction h with
 |refl=>rfl
 | @step y z h hz g ih=>
  exfalso
  obtain⟨t,c,p⟩:=y
  have hz:z∈(if c= "b" then jP "t" ["a"] p else .done (.inl .none):GT).looks (aZ P w K mg af CG W fi fd lk ys ds).v:=hz
  split at hz
  ·rw[a2J,List.mem_singleton]at hz
   subst hz
   have g:(if("t":Str)= "t" then(if("a":Str)= "a" then some ys else none) else none)=none:=g
   rw[if_pos rfl,if_pos rfl]at g
   cases g
  ·cases hz
theorem a7F(w1:∀p is v,wo ("t","b",p)=some (is,v)->∃n,is= [n])(hv:Vd (ds.getD p .none)):iD (aZ P w K mg af CG W fi fd lk ys ds).sx wo ("t","b",p)=(eT "b" ds (lw wo) p).map fun is=>((none:Option V),is):=by
 have e1:(aZ P w K mg af CG W fi fd lk ys ds).sx.rl "t" "b"=some (gL P w K mg af CG W):=by
  show(if("t":Str)= "t" then(if("b":Str)= "b" then some (gL P w K mg af CG W) else none) else none)=_
  rw[if_pos rfl,if_pos rfl]
 have e2:((aZ P w K mg af CG W fi fd lk ys ds).sx.tree ("t","b",p)).run (aZ P w K mg af CG W fi fd lk ys ds).sx.val=if isT (ds.getD p .none) then .inl (ds.getD p .none) else .inr [eW (ds.getD p .none)]:=by
  show(if("b":Str)= "b" then jP "t" ["a"] p else .done (.inl .none):GT).run (aZ P w K mg af CG W fi fd lk ys ds).v=_
  rw[if_pos rfl,sR (W:=W),oC]
 unfold iD eT iU
 rw[e2]
 simp only[e1,decide_eq_true rfl,Bool.true_and]
 rcases hv with⟨n,h,hn⟩|⟨y,h,_⟩
 ·rw[h]
  show(if(wo ("t","b",p)).map (·.1)=some [n] then none else some (none,[n]))=((if(true&&decide (lw wo p≠some n))=true then some [n] else none).map fun is=>((none:Option V),is))
  rw[Bool.true_and]
  unfold lw
  cases hw:wo ("t","b",p)with
  |none=>
   rw[if_neg (fun y=>by cases y),if_pos (by rfl)]
   rfl
  |some jv=>
   obtain⟨js,v⟩:=jv
   obtain⟨k,rfl⟩:=w1 p js v hw
   show(if some [k]=some [n] then none else some (none,[n]))=((if decide (some k≠some n)=true then some [n] else none).map fun is=>((none:Option V),is))
   by_cases e:k=n
   ·subst e
    rw[if_pos rfl,if_neg (by simp)]
    rfl
   ·rw[if_neg (fun y=>e (by simpa using y)),if_pos (by simpa using e)]
    rfl
 ·rw[h]
  rfl
theorem wL(vd:∀d∈ds,Vd d)(ld:ds.length=W.m)(hc:c= "a"\/ c= "b"){a n:Nat}(hn:a+ n<=W.m)(od:W.B.ord= [("a":Str),("b":Str)]){kl':List (Ky×V)}{mem mem':Str->Str->List (aB×V)}(w1:∀p is v,wo ("t","b",p)=some (is,v)->∃n,is= [n])(S:SB P w K mg af RG CF CB CT zt (aZ P w K mg af CG W fi fd lk ys ds).sx kf kl mem wo cs ns H)(S':SB P w K mg af RG CF CB CT zt (aZ P w K mg af CG W fi fd lk ys ds).sx kf' kl' mem' wo' cs' ns' H')(fnd:∀x∈dH "t" c a n,(aZ P w K mg af CG W fi fd lk ys ds).sx.gv x.1 x.2.1=none->(aF kf' (cK x)).isSome=true)(ve:eB (aZ P w K mg af CG W fi fd lk ys ds).sx (dH "t" c a n) kf kf' wo wo' ns ns' L):
 (∃calls:List (List Int),ns'=ns++ calls.map (fun is=>((none:Option V),is))/\calls.Perm ((cC a n).filterMap (eT c ds (lw wo)))/\calls.length<=n)/\(∀q,q<W.m->lw wo' q=((cC a n).foldl (dR c ds) (lw wo,[])).1 q)/\∀p is v,wo' ("t","b",p)=some (is,v)->∃n,is= [n]:=by
 have gvb:(aZ P w K mg af CG W fi fd lk ys ds).sx.gv "t" "b"=none:=by
  show(if("t":Str)= "t" then(if("b":Str)= "a" then some ys else none) else none)=none
  rw[if_pos rfl,if_neg lE.2]
 have gva:(aZ P w K mg af CG W fi fd lk ys ds).sx.gv "t" "a"=some ys:=by
  show(if("t":Str)= "t" then(if("a":Str)= "a" then some ys else none) else none)=some ys
  rw[if_pos rfl,if_pos rfl]
 have hv:∀p,p<W.m->Vd (ds.getD p .none):=fun p hp=>by
  rw[List.getD_eq_getElem?_getD,List.getElem?_eq_getElem (by omega)]
  exact vd _ (List.getElem_mem _)
 have run:∀p,((aZ P w K mg af CG W fi fd lk ys ds).sx.tree ("t","b",p)).run (aZ P w K mg af CG W fi fd lk ys ds).sx.val=if isT (ds.getD p .none) then .inl (ds.getD p .none) else .inr [eW (ds.getD p .none)]:=fun p=>by
  show(if("b":Str)= "b" then jP "t" ["a"] p else .done (.inl .none):GT).run (aZ P w K mg af CG W fi fd lk ys ds).v=_
  rw[if_pos rfl,sR (W:=W),oC]
 have Vc:∀p,p<W.m->(aZ P w K mg af CG W fi fd lk ys ds).sx.Vc ("t","b",p):=fun p hp=>⟨rfl,by show("b":Str)∈W.B.ord;rw[od];exact List.mem_cons_of_mem _ aa,hp⟩
 have lH:∀y∈L,y∈dH "t" c a n:=fun y hy=>by
  obtain⟨_,_,_,x,hx,hd⟩:=ve.mem y hy
  rw[a6h hd]
  exact hx
 rcases hc with rfl|rfl
 ·have hL:L= []:=by
   cases L with
   |nil=>rfl
   |cons y L=>
    have h1:=lH y aa
    have h2:=(ve.mem y aa).2.1
    rw[oA]at h1
    obtain⟨p,_,rfl⟩:=List.mem_map.mp h1
    have h2:(aZ P w K mg af CG W fi fd lk ys ds).sx.gv "t" "a"=none:=h2
    rw[gva]at h2
    cases h2
  subst hL
  have hw:∀y,wo' y=wo y:=fun y=>ve.won y (fun h=>by cases h)
  have hdu:∀p,eT "a" ds (lw wo) p=none:=fun p=>by
   unfold eT iU
   rw[decide_eq_false lE.1]
   rfl
  refine⟨⟨[],by rw[ve.ns];rfl,?_,Nat.zero_le _⟩,fun q _=> ?_,fun p is v e=>w1 p is v (by rw[<- hw];exact e)⟩
  ·rw[show (cC a n).filterMap (eT "a" ds (lw wo))= [] from List.filterMap_eq_nil_iff.mpr fun p _=>hdu p]
  ·by_cases hq:q∈cC a n
   ·rw[nZ (lN a n) hq,if_neg (fun y=>lE.1 y.1)]
    show lw wo' q=lw wo q
    unfold lw
    rw[hw]
   ·rw[nJ hq]
    show lw wo' q=lw wo q
    unfold lw
    rw[hw]
 ·have hcall:∀p,p<W.m->iD (aZ P w K mg af CG W fi fd lk ys ds).sx wo ("t","b",p)=(eT "b" ds (lw wo) p).map fun is=>((none:Option V),is):=fun p hp=>a7F w1 (hv p hp)
  have nd:(dH "t" "b" a n).Nodup:=by
   rw[oA]
   exact(lN a n).map (f:=fun p=>(("t","b",p):aQ)) (fun x y h e=>h (congrArg (fun z:aQ=>z.2.2) e))
  have need:∀y∈dH "t" "b" a n,iD (aZ P w K mg af CG W fi fd lk ys ds).sx wo y≠none->y∈L:=fun y hy hn'=>by
   cases Classical.em (y∈L)with
   |inl h=>exact h
   |inr h=>
    exfalso
    obtain⟨p,hp,rfl⟩:∃p,p∈cC a n/\(("t","b",p):aQ)=y:=by rw[oA]at hy;exact List.mem_map.mp hy
    have hpm:p<W.m:=by have:=sN.mp hp;omega
    have hf:=fnd _ hy gvb
    rw[ve.fnd _ gvb h]at hf
    obtain⟨v,hv'⟩:=Option.isSome_iff_exists.mp hf
    have h2:=(S.fp _ v (Vc p hpm) gvb hv').2
    rw[run p]at h2
    apply hn'
    rw[hcall p hpm]
    unfold eT iU
    cases hT:isT (ds.getD p .none)with
    |true=>simp
    |false=>
     have h3:=h2 [eW (ds.getD p .none)] (by rw[hT];rfl)
     have:lw wo p=some (eW (ds.getD p .none)):=by unfold lw;rw[h3];rfl
     rw[this]
     simp
  have perm:(L.filterMap (iD (aZ P w K mg af CG W fi fd lk ys ds).sx wo)).Perm ((dH "t" "b" a n).filterMap (iD (aZ P w K mg af CG W fi fd lk ys ds).sx wo)):=a0U ve.nd nd lH need
  have eR:(dH "t" "b" a n).filterMap (iD (aZ P w K mg af CG W fi fd lk ys ds).sx wo)=((cC a n).filterMap (eT "b" ds (lw wo))).map fun is=>((none:Option V),is):=by
   rw[oA,List.filterMap_map,List.map_filterMap]
   exact uP fun p hp=>hcall p (by have:=sN.mp hp;omega)
  have eL:∃calls:List (List Int),L.filterMap (iD (aZ P w K mg af CG W fi fd lk ys ds).sx wo)=calls.map (fun is=>((none:Option V),is)):=by
   refine⟨(L.filterMap (iD (aZ P w K mg af CG W fi fd lk ys ds).sx wo)).map (·.2),?_⟩
   rw[List.map_map]
   refine(List.map_id _).symm.trans (List.map_congr_left fun x hx=> ?_)
   rw[eR]at perm
   obtain⟨is,_,rfl⟩:=List.mem_map.mp (perm.mem_iff.mp hx)
   rfl
  obtain⟨calls,ecalls⟩:=eL
  rw[ecalls,eR]at perm
  have perm2:calls.Perm ((cC a n).filterMap (eT "b" ds (lw wo))):=by
   have:=perm.map (·.2)
   rw[List.map_map,List.map_map,show((fun x:Option V×List Int=>x.2) ∘ fun is=>((none:Option V),is))=(fun is:List Int=>is) from rfl,List.map_id',List.map_id']at this
   exact this
  have lc:calls.length<=n:=by
   rw[perm2.length_eq]
   refine Nat.le_trans (List.length_filterMap_le _ _) ?_
   unfold cC
   rw[List.length_map,List.length_range]
   exact Nat.le_refl _
  have newv:∀p,p∈cC a n->isT (ds.getD p .none)=false->∃v,wo' ("t","b",p)=some ([eW (ds.getD p .none)],v):=fun p hp hT=>by
   have hpm:p<W.m:=by have:=sN.mp hp;omega
   have hf:=fnd ("t","b",p) (by rw[oA];exact List.mem_map.mpr ⟨p,hp,rfl⟩) gvb
   obtain⟨v,hv'⟩:=Option.isSome_iff_exists.mp hf
   have h2:=(S'.fp _ v (Vc p hpm) gvb hv').2
   rw[run p]at h2
   exact⟨v,h2 _ (by rw[hT];rfl)⟩
  have oldv:∀p,p∉cC a n\/ isT (ds.getD p .none)=true->wo' ("t","b",p)=wo ("t","b",p):=fun p h=>by
   by_cases hL:(("t","b",p):aQ)∈L
   ·rcases h with h|h
    ·have h1:=lH _ hL
     rw[oA]at h1
     obtain⟨p',hp',e⟩:=List.mem_map.mp h1
     have:p'=p:=congrArg (fun z:aQ=>z.2.2) e
     exact absurd (this▸hp') h
    ·exact ve.wov _ hL (ds.getD p .none) (by rw[run p,h];rfl)
   ·exact ve.won _ hL
  refine⟨⟨calls,by rw[ve.ns,ecalls],perm2,lc⟩,fun q hq=> ?_,fun p is v e=> ?_⟩
  ·by_cases hqr:q∈cC a n
   ·rw[nZ (lN a n) hqr]
    cases hT:isT (ds.getD q .none)with
    |false=>
     obtain⟨v,hv'⟩:=newv q hqr hT
     rw[if_pos ⟨rfl,rfl⟩]
     unfold lw
     rw[hv']
     rfl
    |true=>
     rw[if_neg (fun y=>by cases y.2)]
     show lw wo' q=lw wo q
     unfold lw
     rw[oldv q (.inr hT)]
   ·rw[nJ hqr]
    show lw wo' q=lw wo q
    unfold lw
    rw[oldv q (.inl hqr)]
  ·by_cases hp:p∈cC a n/\isT (ds.getD p .none)=false
   ·obtain⟨v',hv'⟩:=newv p hp.1 hp.2
    rw[hv']at e
    cases e
    exact⟨_,rfl⟩
   ·refine w1 p is v ?_
    rw[<- oldv p ?_]
    ·exact e
    ·by_cases h1:p∈cC a n
     ·refine .inr ?_
      cases hT:isT (ds.getD p .none)with
      |true=>rfl
      |false=>exact absurd ⟨h1,hT⟩ hp
     ·exact .inl h1
end
theorem a2b:∀{ds:List PyData},(∀d∈ds,Vd d)->PyData.canLayAll0 ds=true
 | [],_=>rfl
 |d::r,h=>by
  rw[PyData.canLayAll0,(h d aa).lay.1,a2b (fun x hx=>h x (List.mem_cons_of_mem _ hx))]
  rfl
theorem a1B:∀{ds:List PyData},(∀d∈ds,Vd d)->PyData.depthAll ds<=62
 | [],_=>by decide
 |d::r,h=>by
  show max d.depth (PyData.depthAll r)<=62
  have h1:=(h d aa).lay.2
  have h2:=a1B (fun x hx=>h x (List.mem_cons_of_mem _ hx))
  omega
theorem yF(h:∀d∈ds,Vd d):(PyData.list ds).canLay0=true/\(PyData.list ds).depth<=64:=⟨a2b h,by
 show PyData.depthAll ds+ 1<=64
 have:=a1B h
 omega⟩
theorem Vd.eqv(h:Vd d):PyData.eqv d d=true:=by
 rcases h with⟨i,rfl,_⟩|⟨y,rfl,_⟩<;>simp[PyData.eqv,PyData.eqvAll]
theorem a0R:∀{ds:List PyData},(∀d∈ds,Vd d)->PyData.eqvAll ds ds=true
 | [],_=>by simp[PyData.eqvAll]
 |d::r,h=>by
  rw[PyData.eqvAll,(h d aa).eqv,a0R (fun x hx=>h x (List.mem_cons_of_mem _ hx))]
  rfl
theorem wT(h:∀d∈ds,Vd d):PyData.eqv (.list ds) (.list ds)=true:=by
 rw[PyData.eqv]
 exact a0R h
theorem qS{K:Fg}{H:Hp}:∀{xs:List V} {ds:List PyData},Paired (Pd K H) xs ds->dN K H xs ds
 |_,_,.nil=> .nil
 |_,_,.cons h t=> .cons h.2 (qS t)
section
variable{X:SX}{mem:Str->Str->List (aB×V)}
theorem SB.clear(S:SB P w K mg af RG CF CB CT zt X kf kl mem wo cs ns H)(O:gK X)(hc:X.ca=some a)(u:bC a H H')(h':H' a=some (.lst [])):SB P w K mg af RG CF CB CT zt X kf kl mem wo [] [] H':=by
 have ha:=S.ca.2 a hc
 have k1:∀b o,H b=some o->(∀y,o≠ .lst y)->H' b=some o:=fun b o e n=>u b o (fun y=>by rw[y,ha]at e;exact n _ (Option.some.inj e).symm) e
 refine S.mv [a] (fun b o e n _=>k1 b o e n) (fun b ys n e=>u b _ (fun y=>n (by rw[y];exact List.mem_singleton.mpr rfl)) e) (fun b hb=> ?_) (fun b hb=> ?_) (fun b hb=> ?_) (fun b hb=> ?_) (fun b hb=> ?_) ⟨fun _=>rfl,fun b e=> ?_⟩ (fun h=> .nil) (nQ S.tb fun b o _ _ n e=>k1 b o e n)
 ·by_cases e:b=a
  ·rw[e,h'];exact fun y=>by cases y
  ·cases e2:H b with
   |none=>exact absurd e2 (S.fx b hb)
   |some o=>rw[u b o e e2];exact fun y=>by cases y
 ·rw[List.mem_singleton.mp hb];exact O.cf a hc
 ·rw[List.mem_singleton.mp hb];exact fun tb htb=>⟨fun y=>(O.cc tb htb).1 (y▸hc),fun y=>(O.cc tb htb).2 (y▸hc)⟩
 ·rw[List.mem_singleton.mp hb];exact fun t c ys B g h e=>O.cl t c ys B a g h e hc
 ·rw[List.mem_singleton.mp hb];exact fun t c R hR hm=>(O.ft t c R hR).2 a hm hc
 ·rw[hc]at e
  cases e
  exact h'
theorem xW{fx:List Addr}:∀{cs:List V} {calls:List (List Int)},Paired (mI fx H) cs (calls.map fun is=>((none:Option V),is))->gJ K H cs calls
 |_,[],.nil=> .nil
 |_,_::_,.cons ⟨lc,h1,_⟩ t=> .cons ⟨lc,h1.2.1 rfl,aM.of h1.1⟩ (xW t)
end
section
def jO(P:Program)(w:World)(K:Fg)(mg:Str->Option Value)(af:Heap)(CG:Addr):Addr->Sp->Prop:=fun C sp=>C=CG/\sp=rD P w K mg af C
structure eQ(P:Program)(w:World)(K:Fg)(mg:Str->Option Value)(af:Heap)(CS CF CB CT CG zt:Addr)(W:cN)(fi fd lk:Addr)(ys:List V)(ds:List PyData)(kf kl:List (Ky×V))(mem:Str->Str->List (aB×V))(wo:aQ->Option (List Int×V))(cs:List V)(ns:List (Option V×List Int))(csh:List V)(wl:Nat->Option Int)(H:Hp):Prop where
 sb:SB P w K mg af (jO P w K mg af CG) CF CB CT zt (aZ P w K mg af CG W fi fd lk ys ds).sx kf kl mem wo cs ns H
 sh:∃dx,H W.s=some (.ins CS dx (dF W.bd W.ch fi))
 ch:H W.ch=some (.lst csh)
 fl:fd≠lk
 ly:ys.length=W.m
 ld:ds.length=W.m
 py:cV K H ys ds
 w1:∀p is v,wo ("t","b",p)=some (is,v)->∃n,is= [n]
 zs:∃zs,H W.vl=some (.lst zs)/\cV K H zs ds
 ls:∃ls,H W.la=some (.lst ls)/\wP W.m ls wl
theorem eQ.ok{W:cN}{mem:Str->Str->List (aB×V)}(N:eQ P w K mg af CS CF CB CT CG zt W fi fd lk ys ds kf kl mem wo cs ns csh wl H)(O:iJ W):gK (aZ P w K mg af CG W fi fd lk ys ds).sx:=a6A (a6r O N.fl N.ly N.ld N.py.vd)
theorem fW(W:cN):W.ch∈W.fx/\W.ca∈W.fx/\W.vl∈W.fx/\W.la∈W.fx/\W.lA∈W.fx:=by
 unfold cN.fx
 simp
theorem eQ.mv{W:cN}{mem:Str->Str->List (aB×V)}(N:eQ P w K mg af CS CF CB CT CG zt W fi fd lk ys ds kf kl mem wo cs ns csh wl H)(O:iJ W)(k1:∀b o,H b=some o->(∀y,o≠ .lst y)->(∀u,o≠Fz u)->H' b=some o)(k2:∀b ys,H b=some (.lst ys)->H' b=some (.lst ys))(tb':iL mX H' zt):eQ P w K mg af CS CF CB CT CG zt W fi fd lk ys ds kf kl mem wo cs ns csh wl H':=by
 have kt:bS H H':=fun a xs e=>k1 _ _ e nk nk
 refine⟨N.sb.mv [] k1 (fun b ys _ e=>k2 b ys e) (fun b hb y=> ?_) (fun b hb=>by cases hb) (fun b hb=>by cases hb) (fun b hb=>by cases hb) (fun b hb=>by cases hb) ⟨N.sb.ca.1,fun a e=>k2 _ _ (N.sb.ca.2 a e)⟩ (fun h=>Paired.imp (fun a b h=>h.mv kt (fun b ys _ e=>k2 b ys e)) (N.sb.nt h)) tb',N.sh.imp fun _ e=>k1 _ _ e nk nk,k2 _ _ N.ch,N.fl,N.ly,N.ld,N.py.keep kt,N.w1,N.zs.imp fun _ e=>⟨k2 _ _ e.1,e.2.keep kt⟩,N.ls.imp fun _ e=>⟨k2 _ _ e.1,e.2⟩⟩
 have hb:b∈W.fx:=hb
 have hB:=N.sb.F _ (List.mem_singleton.mpr rfl)
 have b1:H W.B.r=some (.lst W.B.xs):=hB.B.tab.rows
 have b2:H W.B.od=some (.lst (W.B.ord.map V.str)):=hB.B.ord
 have fin:∀{b:Addr} {o:HO},H b=some o->(∀u,o≠Fz u)->H' b≠none:=fun{b o} e n y=>by
  by_cases hl:∃zs,o= .lst zs
  ·obtain⟨zs,rfl⟩:=hl
   rw[k2 _ _ e]at y;cases y
  ·rw[k1 _ _ e (fun z hz=>hl ⟨z,hz⟩) n]at y;cases y
 unfold cN.fx at hb
 simp only[List.mem_cons,List.not_mem_nil,or_false]at hb
 rcases hb with rfl|rfl|rfl|rfl|rfl|rfl|rfl|rfl
 ·exact fin N.ch (fun _ z=>by cases z) y
 ·exact fin b1 (fun _ z=>by cases z) y
 ·exact fin b2 (fun _ z=>by cases z) y
 ·obtain⟨l,h1,h2⟩:=N.sb.cols "t" "a" ys W.B (by show(if("t":Str)= "t" then(if("a":Str)= "a" then some ys else none) else none)=some ys;rw[if_pos rfl,if_pos rfl]) (List.mem_singleton.mpr rfl)
  rw[O.k1]at h1
  cases h1
  exact fin h2 (fun _ z=>by cases z) y
 ·obtain⟨o,e,_,_,_,n⟩:=N.sb.rt "t" "b" (gL P w K mg af CG W) (by show(if("t":Str)= "t" then(if("b":Str)= "b" then some (gL P w K mg af CG W) else none) else none)=_;rw[if_pos rfl,if_pos rfl]) W.nl (List.mem_cons_of_mem _ aa)
  exact fin e n y
 ·exact fin (N.sb.ca.2 _ rfl) (fun _ z=>by cases z) y
 ·obtain⟨zs,h,_⟩:=N.zs;exact fin h (fun _ z=>by cases z) y
 ·obtain⟨ls,h,_⟩:=N.ls;exact fin h (fun _ z=>by cases z) y
theorem eQ.same{W:cN}{mem:Str->Str->List (aB×V)}(N:eQ P w K mg af CS CF CB CT CG zt W fi fd lk ys ds kf kl mem wo cs ns csh wl H)(O:iJ W)(s:aH H H'):eQ P w K mg af CS CF CB CT CG zt W fi fd lk ys ds kf kl mem wo cs ns csh wl H':=N.mv O (fun b o e _ _=>s _ _ e) (fun b ys e=>s _ _ e) (a3u s N.sb.tb)
end
theorem a6M(m1:Int):∃c:Str,(c= "a"\/ c= "b")/\∃ch,cQ ("ab":Str).cps.toList (m1% 2)=some ch/\(⟨#[ch]⟩:Str)=c:=by
 rcases(show m1% 2=0\/ m1% 2=1 by omega)with h|h
 ·exact⟨"a",.inl rfl,_,by rw[h];rfl,rfl⟩
 ·exact⟨"b",.inr rfl,_,by rw[h];rfl,rfl⟩
theorem a0X(d:PyData):bY "a" d=d:=by
 unfold bY
 rw[if_neg (fun y=>lE.1 y.1)]
section
noncomputable def iM(c:Str)(ds:List PyData)(ps:List Nat):List PyData:=ps.map fun p=>bY c (ds.getD p .none)
theorem wA{W:cN}(hc:c= "a"\/ c= "b")(a n:Nat):(dH "t" c a n).map (aZ P w K mg af CG W fi fd lk ys ds).sx.val=iM c ds (cC a n):=by
 rw[oA,List.map_map]
 refine List.map_congr_left fun p _=> ?_
 rcases hc with rfl|rfl
 ·rw[a0X]
  exact oC (P:=P) (w:=w) (K:=K) (mg:=mg) (af:=af) (CG:=CG) (W:=W) (fi:=fi) (fd:=fd) (lk:=lk) (ys:=ys)
 ·exact a5l (P:=P) (w:=w) (K:=K) (mg:=mg) (af:=af) (CG:=CG) (W:=W) (fi:=fi) (fd:=fd) (lk:=lk) (ys:=ys)
theorem a5J{m:Nat}(ld:ds.length=m)(vd:∀d∈ds,Vd d){ps:List Nat}(h:∀p∈ps,p<m):∀d∈iM c ds ps,Vd d:=fun d hd=>by
 obtain⟨p,hp,rfl⟩:=List.mem_map.mp hd
 refine a0x ?_
 rw[List.getD_eq_getElem?_getD,List.getElem?_eq_getElem (by rw[ld];exact h p hp)]
 exact vd _ (List.getElem_mem _)
def uW(Hz:Hp)(W:cN)(zt:Addr):Prop:=∀b o,Hz b=some o->b∉zt::W.s::W.mc::W.fx/\∀y,o≠ .dT y
def jM(W:cN)(zt:Addr)(H H':Hp):Prop:=∀b o,b∉zt::W.s::W.mc::W.fx->(∀y,o≠ .dT y)->H b=some o->H' b=some o
theorem jM.z{W:cN}{Hz:Hp}(Z:uW Hz W zt)(s:aH Hz H)(f:jM W zt H H'):aH Hz H':=fun b o e=>f b o (Z b o e).1 (Z b o e).2 (s b o e)
theorem bV.fr31{W:cN}{mem:Str->Str->List (aB×V)}(S:SB P w K mg af RG CF CB CT zt (aZ P w K mg af CG W fi fd lk ys ds).sx kf kl mem wo cs ns H)(f:bV (aZ P w K mg af CG W fi fd lk ys ds).sx zt H H'):jM W zt H H':=fun b o n1 n2 e=>by
 simp only[List.mem_cons,not_or]at n1
 refine f b o (fun y=>by rw[y,S.fd]at e;exact n2 _ (Option.some.inj e).symm) (fun y=>by rw[y,S.hl]at e;exact n2 _ (Option.some.inj e).symm) n1.1 (fun y=>n1.2.2.2 ?_) (fun t c R hR y=> ?_) e
 ·rw[<- Option.some.inj y]
  exact(fW W).2.1
 ·obtain⟨_,h⟩:=X1.rl_some hR
  obtain⟨_,rfl⟩:=fX h
  exact n1.2.2.1 y
inductive wQ(P:Program)(w:World)(K:Fg)(mg:Str->Option Value)(af:Heap)(CS CF CB CT CG zt:Addr)(vs:List V)(H:Hp)(Q:VK)(E:XK):Prop
 |mk (Hz:Hp) (a:Addr) (sc:List Int) (i:Int) (W:cN) (fi fd lk:Addr) (ys:List V) (ds:List PyData) (kf kl:List (Ky×V)) (mem:Str->Str->List (aB×V)) (wo:aQ->Option (List Int×V)) (cs:List V) (ns:List (Option V×List Int)) (csh:List V):vs= [.ref a,.int i,.ref W.s,.ref W.ca,.ref W.vl,.ref W.la] ->aM K Hz a (sc.map V.int)->uW Hz W zt->aH Hz H->sc.length<=63->0<=i->i<=1000->iJ W->eQ P w K mg af CS CF CB CT CG zt W fi fd lk ys ds kf kl mem wo cs ns csh (lw wo) H->jQ P w K mg af (aZ P w K mg af CG W fi fd lk ys ds).sx H->(∀H' kf' kl' mem' wo' cs' ns',cs'.length<=7->eQ P w K mg af CS CF CB CT CG zt W fi fd lk ys ds kf' kl' mem' wo' cs' ns' csh (lw wo') H'->cL H H'->jM W zt H H'->Q (.bl true) H')->wQ P w K mg af CS CF CB CT CG zt vs H Q E
abbrev rT:List Str:=["_law_script","_law_at","_law_sheet","_law_calls","_law_values","_law_last","_law_column","_law_due","_law_found","_law_told","_law_start","_law_end"]
theorem lW:bD rT ["_law_script","_law_at","_law_sheet","_law_calls","_law_values","_law_last"] (aO lV):={}
end
theorem a0O{m:Nat}(ld:ds.length=m):iM c ds (cC 0 m)=ds.map (bY c):=by
 rw[a1u]
 unfold iM
 subst ld
 have:=a34 ds PyData.none
 conv=>rhs;rw[<- this]
 rw[List.map_map]
 rfl
theorem a3g:∀(ds:List PyData) (n:Int),(∀d∈ds,Vd d)->(∃k,jB ds n= .int k)\/ ∃y,jB ds n= .tuple [.str "fault",.str y] /\Nl y
 | [],n,_=> .inl ⟨n,rfl⟩
 |d::r,n,h=>by
  rw[a0j]
  cases hT:isT d with
  |true=>
   rw[if_pos rfl]
   rcases h d aa with⟨i,rfl,_⟩|⟨y,rfl,hy⟩
   ·cases hT
   ·exact .inr ⟨y,rfl,hy⟩
  |false=>
   rw[if_neg Bool.false_ne_true]
   exact a3g r _ fun x hx=>h x (List.mem_cons_of_mem _ hx)
theorem a5w(h:(∃k,d= .int k)\/ ∃y,d= .tuple [.str "fault",.str y] /\Nl y):d.canLay0=true/\d.depth<=64/\PyData.eqv d d=true/\decide (gO d= .bl)=false:=by
 rcases h with⟨k,rfl⟩|⟨y,rfl,hy⟩
 ·exact⟨rfl,Nat.zero_le _,by simp[PyData.eqv],rfl⟩
 ·have hv:Vd (.tuple [.str "fault",.str y]):=.inr ⟨y,rfl,hy⟩
  exact⟨hv.lay.1,Nat.le_trans hv.lay.2 (by decide),hv.eqv,rfl⟩
theorem a2t:∀ds:List PyData,gF ds<=ds.length
 | []=>Nat.le_refl _
 |d::r=>by
  rw[a0h,List.length_cons]
  have:=a2t r
  split<;>omega
section
structure kJ(P:Program)(w:World)(K:Fg)(mg:Str->Option Value)(af:Heap)(CS CF CB CT CG zt:Addr)(W:cN)(fi fd lk:Addr)(ys:List V)(ds:List PyData)(kf kl:List (Ky×V))(mem:Str->Str->List (aB×V))(wo:aQ->Option (List Int×V))(cs:List V)(ns:List (Option V×List Int))(csh:List V)(du:Addr)(st:(Nat->Option Int)×List (List Int))(H:Hp):Prop where
 sb:SB P w K mg af (jO P w K mg af CG) CF CB CT zt {(aZ P w K mg af CG W fi fd lk ys ds).sx with fx:=du::W.fx} kf kl mem wo cs ns H
 own:eX K (du::W.fx) W.vl W.la du W.m ds st H
 sh:∃dx,H W.s=some (.ins CS dx (dF W.bd W.ch fi))
 ch:H W.ch=some (.lst csh)
 py:cV K H ys ds
 w1:∀p is v,wo ("t","b",p)=some (is,v)->∃n,is= [n]
 ap:W.ca≠du/\du≠W.B.r/\du≠W.B.od/\du≠W.lA/\du∉ [W.gr,W.nl] /\du≠W.ch
section
variable{W:cN}{mem:Str->Str->List (aB×V)}{st:(Nat->Option Int)×List (List Int)}
theorem kJ.n(M:kJ P w K mg af CS CF CB CT CG zt W fi fd lk ys ds kf kl mem wo cs ns csh du st H)(fl:fd≠lk)(ly:ys.length=W.m):eQ P w K mg af CS CF CB CT CG zt W fi fd lk ys ds kf kl mem wo cs ns csh st.1 H:=
 ⟨M.sb.fxdown,M.sh,M.ch,fl,ly,M.own.lm,M.py,M.w1,M.own.hv,M.own.hl⟩
theorem kJ.law(M:kJ P w K mg af CS CF CB CT CG zt W fi fd lk ys ds kf kl mem wo cs ns csh du st H)(O:iJ W)(f:nI W.la du H H'){st':(Nat->Option Int)×List (List Int)}(own:eX K (du::W.fx) W.vl W.la du W.m ds st' H'):kJ P w K mg af CS CF CB CT CG zt W fi fd lk ys ds kf kl mem wo cs ns csh du st' H':=by
 obtain⟨⟨a1,a2,a3,a4,a5,a6,a7⟩,⟨b1,b2,b3,b4,b5,b6⟩,⟨c1,c2,c3,c4,c5⟩,⟨d1,d2,d3,d4⟩,⟨e1,e2,e3⟩,⟨f1,f2⟩,g1⟩:=O.ne
 obtain⟨ls,hla,_⟩:=M.own.hl
 obtain⟨dv,hdu,_⟩:=M.own.hd
 have k1:∀b o,H b=some o->(∀y,o≠ .lst y)->H' b=some o:=fun b o e n=>f b o (fun y=>by rw[y,hla]at e;exact n _ (Option.some.inj e).symm) (fun y=>by rw[y,hdu]at e;exact n _ (Option.some.inj e).symm) e
 have kt:bS H H':=fun a xs e=>k1 _ _ e nk
 have k2:∀b ys,b∉ [W.la,du] ->H b=some (.lst ys)->H' b=some (.lst ys):=fun b ys n e=>by
  simp only[List.mem_cons,List.not_mem_nil,or_false,not_or]at n
  exact f b _ n.1 n.2 e
 have inD:∀{b:Addr},b∈ [W.la,du] ->b=W.la\/ b=du:=fun hb=>by simpa using hb
 refine⟨M.sb.mv [W.la,du] (fun b o e n _=>k1 b o e n) k2 own.nth (fun b hb=> ?_) (fun b hb tb htb=> ?_) (fun b hb t c ys' B' g h y=> ?_) (fun b hb t c R hR hm=> ?_) ⟨M.sb.ca.1,fun a e=> ?_⟩ (fun h=>Paired.imp (fun a b h=>h.mv kt (fun b ys n e=>k2 b ys (fun hb=>n ?_) e)) (M.sb.nt h)) (nQ M.sb.tb fun b o _ _ n e=>k1 b o e n),own,M.sh.imp fun _ e=>k1 _ _ e nk,f _ _ a7 M.ap.2.2.2.2.2.symm M.ch,M.py.keep kt,M.w1,M.ap⟩
 ·rcases inD hb with rfl|rfl
  ·exact List.mem_cons_of_mem _ (fW W).2.2.2.1
  ·exact aa
 ·rw[List.mem_singleton.mp htb]
  rcases inD hb with rfl|rfl
  ·exact⟨b6.symm,c5.symm⟩
  ·exact⟨M.ap.2.1,M.ap.2.2.1⟩
 ·have g1:(aZ P w K mg af CG W fi fd lk ys ds).gv c=some ys':=(X1.gv_some (Y:=aZ P w K mg af CG W fi fd lk ys ds) g).2
  obtain⟨rfl,_⟩:=oR g1
  rw[(lG h).2]at y
  have y:aF W.B.kvs (.inr "a":aB)=some (.ref b):=y
  rw[O.k1]at y
  have y:=V.ref.inj (Option.some.inj y)
  rcases inD hb with rfl|rfl
  ·exact d4 y
  ·exact M.ap.2.2.2.1 y.symm
 ·have h1:(aZ P w K mg af CG W fi fd lk ys ds).rl c=some R:=(X1.rl_some (Y:=aZ P w K mg af CG W fi fd lk ys ds) hR).2
  obtain⟨_,rfl⟩:=fX h1
  have hm:b∈ [W.gr,W.nl]:=hm
  rcases inD hb with rfl|rfl
  ·simp only[List.mem_cons,List.not_mem_nil,or_false]at hm
   rcases hm with h|h
   ·obtain⟨⟨dx,e⟩,_⟩:=M.sb.rg _ _ _ hR
    have e:H W.gr=some (.ins CG dx (iE W.nl W.fa)):=e
    rw[<- h,hla]at e
    cases e
   ·exact e3 h.symm
  ·exact M.ap.2.2.2.2.1 hm
 ·have e:some W.ca=some a:=e
  cases e
  exact f _ _ f2 M.ap.1 (M.sb.ca.2 _ rfl)
 ·rcases inD hb with rfl|rfl
  ·exact List.mem_cons_of_mem _ (fW W).2.2.2.1
  ·exact aa
theorem kJ.sheet(M:kJ P w K mg af CS CF CB CT CG zt W fi fd lk ys ds kf kl mem wo cs ns csh du st H)(O:iJ W){kl':List (Ky×V)}{mem':Str->Str->List (aB×V)}(S':SB P w K mg af (jO P w K mg af CG) CF CB CT zt {(aZ P w K mg af CG W fi fd lk ys ds).sx with fx:=du::W.fx} kf' kl' mem' wo' cs' ns' H')(f:bV (aZ P w K mg af CG W fi fd lk ys ds).sx zt H H')(w1':∀p is v,wo' ("t","b",p)=some (is,v)->∃n,is= [n]):kJ P w K mg af CS CF CB CT CG zt W fi fd lk ys ds kf' kl' mem' wo' cs' ns' csh du st H':=by
 obtain⟨⟨a1,a2,a3,a4,a5,a6,a7⟩,_,_,_,_,⟨f1,f2⟩,_⟩:=O.ne
 have kt:=M.sb.ktt f
 have kl:∀{b:Addr} {ys':List V},H b=some (.lst ys')->W.ca≠b->H' b=some (.lst ys'):=fun e n=>M.sb.k f e nk nk nk (fun y=>n (Option.some.inj y))
 refine⟨S',M.own.mv kt.t (fun b ys' n e=>kl e (fun y=>n (by rw[<- y];exact List.mem_cons_of_mem _ (fW W).2.1))) (fun b ys' hb e=>kl e ?_) S'.fx,M.sb.hs M.sh f,kl M.ch a5.symm,M.py.keep kt.t,w1',M.ap⟩
 rcases hb with rfl|rfl|rfl
 ·exact f1
 ·exact f2
 ·exact M.ap.1
end
theorem xV{W:cN}(m7:W.m<=7)(kf:List (Ky×V))(fx:List Addr):(aZ P w K mg af CG W fi fd lk ys ds).sx.Rs.length<=7/\bX {(aZ P w K mg af CG W fi fd lk ys ds).sx with fx:=fx} kf<=7:=by
 have h:(aZ P w K mg af CG W fi fd lk ys ds).sx.Rs.length<=7:=by
  show(([("b":Str)]).flatMap fun c=>(List.range W.m).map fun p=>((("t":Str),c,p):aQ)).length<=7
  rw[zD (n:=W.m) (fun a=>by rw[List.length_map,List.length_range])]
  show 1* W.m<=7
  omega
 exact⟨h,Nat.le_trans List.countP_le_length h⟩
theorem a5q{Q:VK}{ca:Addr}{dv:List V}{calls dues:List (List Int)}(hca:H ca=some (.lst cs))(hdu:H du=some (.lst dv))(l1:gJ K H cs calls)(l2:gJ K H dv dues)(n1:cs.length<64)(n2:dv.length<64)(perm:calls.Perm dues)(b:Bool)
 (q:∀H',aH H H'->Q (.bl b) H'){R:V->V->Hp->VK->Prop}(hR:∀(x y:Addr) (H':Hp) (nss:List (List Int)),Dt K H' (.ref x) (jV nss)->Dt K H' (.ref y) (jV nss)->(Q (.bl b) H')->R (.ref x) (.ref y) H' Q):
 ∀(D:Addr) (p:Array Nat),H D=none->p.size=cs.length->p.Perm (List.toArray (List.range cs.length))->Sd (nT calls) p cs.length->
  ∃(l':Addr) (ys':List V) (lt':Nat->Nat->Bool),[V.ref du]= [.ref l'] /\aM K (upd H D (.lst (p.toList.map fun i=>cs.getD i .non))) l' ys'/\ys'.length<64/\fH lt'/\(∃nss,gJ K (upd H D (.lst (p.toList.map fun i=>cs.getD i .non))) ys' nss/\lt'=nT nss)/\∀(D':Addr) (p':Array Nat),upd H D (.lst (p.toList.map fun i=>cs.getD i .non)) D'=none->p'.size=ys'.length->p'.Perm (List.toArray (List.range ys'.length))->Sd lt' p' ys'.length->R (.ref D) (.ref D') (upd (upd H D (.lst (p.toList.map fun i=>cs.getD i .non))) D' (.lst (p'.toList.map fun i=>ys'.getD i .non))) Q:=by
 intro D p hD hs hp sd
 obtain⟨nss1,p1,s1,ls1⟩:=uX l1 hs hp sd
 have sD:=aH.new (o:=.lst (p.toList.map fun i=>cs.getD i .non)) hD
 have cD:upd H D (.lst (p.toList.map fun i=>cs.getD i .non)) D=some (.lst (p.toList.map fun i=>cs.getD i .non)):=aJ
 generalize upd H D (.lst (p.toList.map fun i=>cs.getD i .non))=H1 at sD cD|-
 have l2':gJ K H1 dv dues:=Paired.imp (fun a b ⟨x,e1,e2⟩=>⟨x,e1,sD.seq e2⟩) l2
 refine⟨du,dv,_,rfl,aM.of (sD _ _ hdu),n2,uR dues,⟨dues,l2',rfl⟩,fun D' p' hD' hs' hp' sd'=> ?_⟩
 obtain⟨nss2,p2,s2,ls2⟩:=uX l2' hs' hp' sd'
 have sD':=aH.new (o:=.lst (p'.toList.map fun i=>dv.getD i .non)) hD'
 have e:nss1=nss2:=a3P p1 s1 p2 s2 perm
 subst e
 refine hR D D' _ nss1 (.lst (aM.of (sD' _ _ cD)) (qD (Paired.imp (fun a b ⟨x,e1,e2⟩=>⟨x,e1,sD'.seq (sD.seq e2)⟩) ls1))) (.lst (aM.of aJ) (qD (Paired.imp (fun a b ⟨x,e1,e2⟩=>⟨x,e1,sD'.seq e2⟩) ls2))) (q _ (sD.trans sD'))
theorem a7Z(T:bF K mg){CR:Addr}(Y:gM K mg CS)(R:mV K mg CR)(F:fC K mg CF)(Wb:dG K mg CB)(U:dZ K mg CT)(Ce:nA K mg CG){z:Addr×Addr}(B2:kF K mg "Finder" "gathered" "Finder.gathered" iB z)(M2:kC mg af z.1 z.2):bG P w K mg af aE 13 "_law_looked" ["_law_script","_law_at","_law_sheet","_law_calls","_law_values","_law_last"] (wQ P w K mg af CS CF CB CT CG z.2):=by
 have hRG:∀C sp,jO P w K mg af CG C sp->cI K C/\aS P w K mg af aE 8 C "gather" ["self","look","many","table","column","place"] sp:=fun C sp h=>by
  obtain⟨rfl,rfl⟩:=h
  exact⟨Ce.cl,a2e T Ce⟩
 have G_vo:aS P w K mg af aE 11 CF "value_of" ["self","cell"] (mC P w K mg af (jO P w K mg af CG) CF CB CT z.2):=a3O T R F Wb U B2 M2 hRG
 have G_total:aS P w K mg af aE 12 CS "total" ["self","table","column"] (zH P w K mg af (jO P w K mg af CG) CS CF CB CT z.2):=a7T T Y F Wb U G_vo
 have G_stretch:aS P w K mg af aE 12 CS "stretch" ["self","table","column","start","end"] (tN P w K mg af (jO P w K mg af CG) CS CF CB CT z.2):=a1d T Y F Wb U G_vo
 have G_law_mixed:bG P w K mg af aE 1 "_law_mixed" ["_law_script","_law_k"] (pD K):=a0F T
 have G_law_wanted:bG P w K mg af aE 2 "_law_wanted" ["_law_values","_law_last","_law_column","_law_place","_law_due"] (qB K):=a3G T
 have G_law_total:bG P w K mg af aE 3 "_law_total" ["_law_values","_law_last","_law_column","_law_due"] (a0B K):=a4T T
 refine T.d_law_looked.known lW (fun _ _ _ _ _ _ us hl=>bi6 (fun _ _ _ _ _ _=>rfl) us hl) (fun vs H Q E h=> ?_) (fun f ah A ag s H vs Q E hr h=> ?_)
 ·obtain⟨Hz,a,sc,i,W,fi,fd,lk,ys,ds,kf,kl,mem,wo,cs,ns,csh,rfl,_⟩:=h
  rfl
 ·obtain⟨Hz,a,sc,i,W,fi,fd,lk,ys,ds,kf,kl,mem,wo,cs,ns,csh,rfl,hS,Z,old,hl,i0,i1,O,N,fn,q⟩:=h
  have hu2:(A.deeper (PyProof.Rows.envOfC "_law_looked" (aO lV) s.heap.objs.size f ah)).in1.in1.units<cLine:=by
   have:=hr.units
   show(A.deeper (PyProof.Rows.envOfC "_law_looked" (aO lV) s.heap.objs.size f ah)).units+ 1+ 1<cLine
   omega
  have hcl:∀x,(eJ aE P w K mg af rT "_law_looked" (aO lV) f ah A ag s H E).nox.env.scope.names.lookup x=some .cell->∃c,(eJ aE P w K mg af rT "_law_looked" (aO lV) f ah A ag s H E).nox.env.cells.lookup x=some c:=fun x hx=>Option.isSome_iff_exists.mp (PySem.W.cellsFrom_some _ _ _ (.inl hx))
  have OX:=N.ok O
  have m7:=O.m7
  have lx:W.B.xs.length=W.m:=by rw[O.xs,nN]
  have cT:∃t,eS (eJ aE P w K mg af rT "_law_looked" (aO lV) f ah A ag s H E).nox ((eZ lV).drop 4) t/\
   ∀(H2:Hp) (c:Str) (du:Addr),(c= "a"\/ c= "b")->kJ P w K mg af CS CF CB CT CG z.2 W fi fd lk ys ds kf kl mem wo [] [] csh du (lw wo,[]) H2->jQ P w K mg af (aZ P w K mg af CG W fi fd lk ys ds).sx H2->cL H H2->jM W z.2 H H2->H du=none->t {nx:=fun _ H'=>Q .non H',rt:=Q} [some (.ref a),some (.int i),some (.ref W.s),some (.ref W.ca),some (.ref W.vl),some (.ref W.la),some (.str c),some (.ref du),none,none,none,none] H2:=by
   refine⟨_,(aK (bU (i:=10) lW.nd rfl ad (bR gA (bQ G_law_mixed hr.mn aR (aA (pv 0) (aA (bR fZ (pv 1) aY) aG))) (bR fZ (cS gX rfl T.len gB (aA (pv 4) aG)) aY)))
    (aK (bU (i:=11) lW.nd rfl ad (bR fZ (pv 10) (bR gA (bQ G_law_mixed hr.mn aR (aA (pv 0) (aA (bR fZ (pv 1) aY) aG))) (bR sV (bR fZ (cS gX rfl T.len gB (aA (pv 4) aG)) aY) (pv 10)))))
    (aK (xN (te:=oM (qB K) [] E0 (iO (jC 1) (iO (jC 2) (iO (jC 3) (iO (jC 0) (iO (jC 4) kP)))))) (i:=9) lW.nd rfl rfl (mF (sc:=aO lV) (N:=rT) (cp:=[(4,"_law_values"),(5,"_law_last"),(6,"_law_column"),(7,"_law_due")]) hcl) rfl rfl (by decide) (a2k rfl T.range (aA (pv 10) (aA (pv 11) aG))) (fun _ _ _ _ _=>mG) (fun _ _ _ _ _=>(bQ G_law_wanted hr.mn aR (aA (pv 1) (aA (pv 2) (aA (pv 3) (aA (pv 0) (aA (pv 4) aG))))))) rfl)
    (aK (bU (i:=8) lW.nd rfl ad (cB (pv 2) Y.cl G_stretch hr aR (aA dY (aA (pv 6) (aA (pv 10) (aA (pv 11) aG))))))
    (aK (bK (PW.pt (gZ (eI (dI (cS kM rfl T.isinstance jD (aA (pv 8) (aA (jE T.list jL) aG))) (fun _=>rfl))) (gZ (cU (nR hr.units) (pv 8) (pv 9) (cO _)) (jK (cU (nR hr.units) (cS (vT hu2) rfl T.sorted tZ (aA (pv 3) aG)) (cS (vT hu2) rfl T.sorted tZ (aA (pv 7) aG)) (cO _)))))) (aL (bL qQ)) bO)
    (aK (cG (kI PySem.F.plainAttrs_list PySem.F.slot_list_append PySem.F.type_list_append jN (pv 8) (aA aY aG)))
    (aK (cG (a0A PySem.F.plainAttrs_list PySem.F.slot_list_clear PySem.F.type_list_clear a07 (pv 3)))
    (aL (bL (lZ (lQ (nO hr.units) (cB (pv 2) Y.cl G_stretch hr aR (aA dY (aA (pv 6) (aA (pv 10) (aA (pv 11) aG))))) (pv 9) (cO _)) (mR (lQ (nO hr.units) (pv 3) (fV aG) (cO _))))))))))))),?_⟩
   intro H2 c du hc M2' fn2 kz2 fr2 hdu0
   obtain⟨⟨a1,a2,a3,a4,a5,a6,a7⟩,⟨b1,b2,b3,b4,b5,b6⟩,⟨c1,c2',c3,c4,c5⟩,⟨dd1,dd2,dd3,dd4⟩,⟨e1,e2,e3⟩,⟨f1,f2⟩,g1⟩:=O.ne
   have nc:Nl c:=by
    rcases hc with rfl|rfl
    ·exact dX.2.2.2.2.1
    ·exact dX.2.2.2.2.2
   have co:c∈W.B.ord:=by
    rw[O.od]
    rcases hc with rfl|rfl<;>simp
   have old2:=jM.z Z old fr2
   obtain⟨zs2,hvl2,pvl2⟩:=M2'.own.hv
   have lz:zs2.length=W.m:=by rw[Paired.length pvl2,N.ld]
   refine⟨_,rfl,_,rfl,_,_,rfl,rfl,a,sc,_,rfl,old2.seq hS,hl,by omega,by omega,fun m3 h3 h4=>⟨_,rfl,_,_,rfl,.inl ⟨_,aM.of hvl2,rfl⟩,_,_,rfl,rfl,_,_,rfl,rfl,by omega,?_⟩⟩
   rw[lz]
   have q1:=Int.emod_nonneg m3 (show((W.m:Int)+ 1)≠0 by omega)
   have q2:=Int.emod_lt_of_pos m3 (show(0:Int)<(W.m:Int)+ 1 by omega)
   obtain⟨a',ha'⟩:∃a':Nat,m3% ((W.m:Int)+ 1)=(a':Int):=⟨(m3% ((W.m:Int)+ 1)).toNat,by omega⟩
   dsimp only
   rw[ha']
   refine⟨_,rfl,_,rfl,_,rfl,_,_,rfl,rfl,a,sc,_,rfl,old2.seq hS,hl,by omega,by omega,fun m4 h5 h6=>⟨_,rfl,_,_,rfl,.inl ⟨_,aM.of hvl2,rfl⟩,_,_,rfl,rfl,_,rfl,_,_,rfl,rfl,_,_,rfl,rfl,by omega,_,_,rfl,rfl,?_⟩⟩
   rw[lz]
   have q3:=Int.emod_nonneg m4 (show((W.m:Int)+ 1- (a':Int))≠0 by omega)
   have q4:=Int.emod_lt_of_pos m4 (show(0:Int)<(W.m:Int)+ 1- (a':Int)by omega)
   obtain⟨n,hn⟩:∃n:Nat,m4% ((W.m:Int)+ 1- (a':Int))=(n:Int):=⟨(m4% ((W.m:Int)+ 1- (a':Int))).toNat,by omega⟩
   dsimp only
   rw[hn]
   have han:a'+ n<=W.m:=by omega
   rw[show (a':Int)+ (n:Int)=((a'+ n:Nat):Int)by omega]
   refine⟨_,rfl,_,rfl,(a':Int),((a'+ n:Nat):Int),rfl,⟨by omega,by omega,by omega,by omega⟩,fun D hD=> ?_⟩
   rw[show (((a'+ n:Nat):Int)- (a':Int)).toNat=n by omega]
   refine yH (lo:=(a':Int)) (n:=n) (fun i ys' Hi=>nI W.la du H2 Hi/\eX K (D::du::W.fx) W.vl W.la du W.m ds ((cC a' i).foldl (dR c ds) (lw wo,[])) Hi/\Paired (Pv K Hi) ys' (iM c ds (cC a' i))) ?_ ?_ ?_
   ·have sD:=aH.new (o:=.lst []) hD
    exact⟨fun b o _ _ e=>sD _ _ e,M2'.own.noup hD sD (by rw[aJ];exact fun y=>by cases y),.nil⟩
   ·rintro i ys' Hi hi hiD ⟨fi',Wi,pi⟩
    have eN:cC a' (i+ 1)=cC a' i++ [a'+ i]:=by
     unfold cC
     rw[List.range_succ,List.map_append]
     rfl
    have yl:ys'.length=i:=by
     rw[Paired.length pi,iM,List.length_map,cC,List.length_map,List.length_range]
    have fl':=yS c ds (cC a' i) (lw wo,[])
    rw[show (cC a' i).length=i from by unfold cC;rw[List.length_map,List.length_range],show((lw wo,([]:List (List Int))):(Nat->Option Int)×List (List Int)).2.length=0 from rfl]at fl'
    refine⟨_,rfl,_,rfl,_,rfl,_,rfl,_,rfl,D::du::W.fx,W.vl,W.la,du,W.m,ds,_,c,a'+ i,(by show [V.ref W.vl,V.ref W.la,V.str c,V.int ((a':Int)+ (i:Int)),V.ref du]= [.ref W.vl,.ref W.la,.str c,.int ((a'+ i:Nat):Int),.ref du];rw[show ((a'+ i:Nat):Int)=(a':Int)+ (i:Int)by omega]),Wi,by omega,by omega,fun Hj v pj fj Wj=> ?_⟩
    have nDla:D≠W.la:=fun y=>by obtain⟨ls,h,_⟩:=M2'.own.hl;rw[y,h]at hD;cases hD
    have nDdu:D≠du:=fun y=>by obtain⟨ls,h,_⟩:=M2'.own.hd;rw[y,h]at hD;cases hD
    have hjD:=fj _ _ nDla nDdu hiD
    refine⟨hjD,dJ (by omega),?_⟩
    have u:bC D Hj (upd Hj D (.lst (ys'++ [v]))):=bC.upd
    have hu':upd Hj D (.lst (ys'++ [v])) D=some (.lst (ys'++ [v])):=aJ
    generalize upd Hj D (.lst (ys'++ [v]))=Hk at u hu'|-
    have kt:bS Hj Hk:=fun b xs e=>u _ _ (fun y=>by rw[y,hjD]at e;cases e) e
    have ktij:bS Hi Hj:=fun b xs e=>fj _ _ (fun y=>by obtain⟨ls,h,_⟩:=Wi.hl;rw[y,h]at e;cases e) (fun y=>by obtain⟨ls,h,_⟩:=Wi.hd;rw[y,h]at e;cases e) e
    refine⟨fun b o n1 n2 e=>u _ _ (bE e hD) (fj _ _ n1 n2 (fi' _ _ n1 n2 e)),?_,?_⟩
    ·rw[eN,List.foldl_append]
     refine Wj.mv kt (fun b ys'' nb e=>u _ _ (fun y=>nb (by rw[y];exact aa)) e) (fun b ys'' hb e=>u _ _ (fun y=> ?_) e) (fun b hb y=> ?_)
     ·subst y
      rcases hb with h|h|h
      ·rw[h,hvl2]at hD;cases hD
      ·exact nDla h
      ·exact nDdu h
     ·cases e:Hj b with
      |none=>exact Wj.nth b hb e
      |some o=>
       by_cases eD:b=D
       ·rw[eD,hu']at y;cases y
       ·rw[u _ _ eD e]at y;cases y
    ·rw[eN,iM,List.map_append]
     exact Paired.snoc (pj.keep kt) (Paired.imp (fun a b h=>(h.keep ktij).keep kt) pi)
   ·rintro tys H3 h3D ⟨f3',W3,pt3⟩
    have M3:=M2'.law O f3' (W3.nodown M2'.own.hn)
    have ktl:∀{b:Addr} {o:HO},H2 b=some o->(∀y,o≠ .lst y)->H3 b=some o:=fun{b o} e n=>by
     obtain⟨ls2,hla2,_⟩:=M2'.own.hl
     obtain⟨dv2,hdu2,_⟩:=M2'.own.hd
     exact f3' b o (fun y=>by rw[y,hla2]at e;exact n _ (Option.some.inj e).symm) (fun y=>by rw[y,hdu2]at e;exact n _ (Option.some.inj e).symm) e
    have kz3:cL H2 H3:=fun b u e=>ktl e nk
    have fn3:=fn2.keep kz3
    obtain⟨dS,sS⟩:=M3.sh
    have ul:=fun kf'=>xV (P:=P) (w:=w) (K:=K) (mg:=mg) (af:=af) (CG:=CG) m7 (fi:=fi) (fd:=fd) (lk:=lk) (ys:=ys) (ds:=ds) kf' (du::W.fx)
    have ul0:=ul kf
    have vdd:∀d∈iM c ds (cC a' n),Vd d:=a5J N.ld N.py.vd fun p hp=>by have:=sN.mp hp;omega
    have hval:(dH "t" c a' n).map {(aZ P w K mg af CG W fi fd lk ys ds).sx with fx:=du::W.fx}.val=iM c ds (cC a' n):=wA (P:=P) (w:=w) (K:=K) (mg:=mg) (af:=af) (CG:=CG) (W:=W) (fi:=fi) (fd:=fd) (lk:=lk) (ys:=ys) hc a' n
    refine⟨_,rfl,W.s,dS,_,rfl,sS,fE,_,rfl,_,rfl,_,rfl,{(aZ P w K mg af CG W fi fd lk ys ds).sx with fx:=du::W.fx},W.s,W.ch,"t",c,a',n,W.B,kf,kl,mem,wo,[],[],rfl,OX.fxup du,M3.sb,fn3,M3.sh,List.mem_singleton.mpr rfl,dX.2.2.2.1,nc,co,by omega,by omega,fun p hp=>⟨rfl,co,by show p<W.m;omega⟩,by show 0+ _+ (aZ P w K mg af CG W fi fd lk ys ds).sx.Rs.length<900;omega,fun H4 l vs4 kf4 kl4 mem4 wo4 cs4 ns4 L hl4 h4l pd4 S4 f4 fnd4 ve4 hc4=> ?_⟩
    rw[hval]at pd4
    have f4:bV (aZ P w K mg af CG W fi fd lk ys ds).sx z.2 H3 H4:=f4
    obtain⟨⟨calls,ens,perm,lcs⟩,hlw,w14⟩:=wL N.py.vd N.ld hc (a:=a') (n:=n) han O.od N.w1 M3.sb.fxdown S4.fxdown.fxdown fnd4 ve4.fxdown
    have M4:=M3.sheet O S4.fxdown f4 w14
    have k4:∀{b:Addr} {o:HO},H3 b=some o->(∀y,o≠ .dT y)->(∀y,o≠ .dK y)->(∀y,o≠ .ext y)->W.ca≠b->H4 b=some o:=fun e n1 n2 n3 n4=>M3.sb.k f4 e n1 n2 n3 (fun y=>n4 (Option.some.inj y))
    have nDca:W.ca≠D:=fun y=>by have e:H2 W.ca=some (.lst []):=M2'.sb.ca.2 _ rfl;rw[y,hD]at e;cases e
    have h4D:H4 D=some (.lst tys):=k4 h3D nk nk nk nDca
    have kt4:=(M3.sb.ktt f4).t
    have pt4:Paired (Pv K H4) tys (iM c ds (cC a' n)):=Paired.imp (fun a b h=>h.keep kt4) pt3
    have dtT:∀{Hx:Hp},Hx D=some (.lst tys)->Paired (Pv K Hx) tys (iM c ds (cC a' n))->Dt K Hx (.ref D) (.list (iM c ds (cC a' n))):=fun e h=> .lst (aM.of e) (cV.dt h)
    have lay:=yF vdd
    refine⟨_,rfl,.ref l,"list",_,_,rfl,.lst (aM.of h4l) (qS pd4),sW K _,_,rfl,bH ?_⟩
    refine⟨_,rfl,_,rfl,_,_,.lst (aM.of h4l) (qS pd4),dtT h4D pt4,lay.1,lay.1,lay.2,_,rfl,?_⟩
    rw[wT vdd]
    refine bH ?_
    obtain⟨dv4,hdv4,dui4⟩:=M4.own.hd
    have edue:((cC a' n).foldl (dR c ds) (lw wo,[])).2=(cC a' n).filterMap (eT c ds (lw wo)):=a0g (c:=c) (ds:=ds) (st:=(lw wo,[])) (lN a' n)
    rw[edue]at dui4
    have ntp:=M4.sb.nt (fun y=>by cases y)
    rw[ens]at ntp
    have lsc:gJ K H4 cs4 calls:=xW ntp
    have lc4:cs4.length=calls.length:=Paired.length lsc
    have ld4:dv4.length=calls.length:=by rw[Paired.length dui4,perm.length_eq]
    refine⟨_,rfl,W.ca,cs4,_,rfl,aM.of (M4.sb.ca.2 _ rfl),by omega,uR calls,⟨calls,lsc,rfl⟩,fun D1 p hD1 hs hp sd=>⟨_,rfl,?_⟩⟩
    obtain⟨nss1,p1,sr1,ls1⟩:=uX lsc hs hp sd
    have sD:=aH.new (o:=.lst (p.toList.map fun i=>cs4.getD i .non)) hD1
    have cD:upd H4 D1 (.lst (p.toList.map fun i=>cs4.getD i .non)) D1=some (.lst (p.toList.map fun i=>cs4.getD i .non)):=aJ
    generalize upd H4 D1 (.lst (p.toList.map fun i=>cs4.getD i .non))=Hs at sD cD|-
    have l2':gJ K Hs dv4 _:=Paired.imp (fun a b ⟨x,e1,e2⟩=>⟨x,e1,sD.seq e2⟩) (dui4.ls (K:=K))
    refine⟨du,dv4,_,rfl,aM.of (sD _ _ hdv4),by omega,uR _,⟨_,l2',rfl⟩,fun D2 p' hD2 hs' hp' sd'=> ?_⟩
    obtain⟨nss2,p2,sr2,ls2⟩:=uX l2' hs' hp' sd'
    have sD':=aH.new (o:=.lst (p'.toList.map fun i=>dv4.getD i .non)) hD2
    have cD':upd Hs D2 (.lst (p'.toList.map fun i=>dv4.getD i .non)) D2=some (.lst (p'.toList.map fun i=>dv4.getD i .non)):=aJ
    generalize upd Hs D2 (.lst (p'.toList.map fun i=>dv4.getD i .non))=H5 at sD' cD'|-
    have en:nss1=nss2:=a3P p1 sr1 p2 sr2 perm
    subst en
    have s5:=sD.trans sD'
    refine⟨jV nss1,jV nss1,.lst (aM.of (sD' _ _ cD)) (qD (Paired.imp (fun a b ⟨x,e1,e2⟩=>⟨x,e1,s5.seq e2⟩) ls1)),.lst (aM.of cD') (qD (Paired.imp (fun a b ⟨x,e1,e2⟩=>⟨x,e1,sD'.seq e2⟩) ls2)),(pL nss1).1,(pL nss1).1,(pL nss1).2,?_⟩
    rw[a22]
    refine⟨_,rfl,bH ?_⟩
    have h5l:=s5 _ _ h4l
    refine⟨_,rfl,.inl ⟨rfl,_,aM.of h5l⟩,l,_,_,rfl,rfl,h5l,dJ (by rw[Paired.length pd4,iM,List.length_map,cC,List.length_map,List.length_range];omega),?_⟩
    have u6:bC l H5 (upd H5 l (.lst (vs4++ [.int 0]))):=bC.upd
    have h6l:upd H5 l (.lst (vs4++ [.int 0])) l=some (.lst (vs4++ [.int 0])):=aJ
    generalize upd H5 l (.lst (vs4++ [.int 0]))=H6 at u6 h6l|-
    obtain⟨lca,lr,lc,lt⟩:=M3.sb.apart hl4
    have S6:=(((S4.same s5).own (H0:=H) h5l u6 (by rw[h6l];exact fun y=>by cases y) lca lr lc lt)).fxdown
    have ca6:H6 W.ca=some (.lst cs4):=S6.ca.2 _ rfl
    refine⟨_,rfl,.inl ⟨rfl,_,aM.of ca6⟩,W.ca,_,rfl,rfl,ca6,?_⟩
    have u7:bC W.ca H6 (upd H6 W.ca (.lst [])):=bC.upd
    have c7:upd H6 W.ca (.lst []) W.ca=some (.lst []):=aJ
    generalize upd H6 W.ca (.lst [])=H7 at u7 c7|-
    have S7:=S6.clear (OX.fxup du) rfl u7 c7
    have k37:∀{b:Addr} {o:HO},H3 b=some o->H4 b=some o->W.ca≠b->H7 b=some o:=fun e3 e4 n=>u7 _ _ n.symm (u6 _ _ (bE e3 hl4) (s5 _ _ e4))
    have kl7:∀{b:Addr} {xs:List V},H3 b=some (.lst xs)->W.ca≠b->H7 b=some (.lst xs):=fun e n=>k37 e (k4 e nk nk nk n) n
    have nca3:∀{b:Addr} {o:HO},H3 b=some o->(∀y,o≠ .lst y)->W.ca≠b:=fun e n y=>M3.sb.nl e n (by rw[<- y];rfl)
    have kt7:bS H3 H7:=fun b xs e=>k37 e (kt4 _ _ e) (nca3 e nk)
    have kz7:cL H3 H7:=fun b u e=>k37 e (M3.sb.kz f4 _ _ e) (nca3 e nk)
    have M7:kJ P w K mg af CS CF CB CT CG z.2 W fi fd lk ys ds kf4 kl4 mem4 wo4 [] [] csh du ((cC a' n).foldl (dR c ds) (lw wo,[])) H7:=by
     refine⟨S7,M3.own.mv kt7 (fun b xs nb e=>kl7 e (fun y=>nb (by rw[<- y];exact List.mem_cons_of_mem _ (fW W).2.1))) (fun b xs hb e=>kl7 e ?_) S7.fx,M3.sh.imp fun _ e=>k37 e (k4 e nk nk nk (nca3 e nk)) (nca3 e nk),kl7 M3.ch a5.symm,M3.py.keep kt7,w14,M3.ap⟩
     rcases hb with rfl|rfl|rfl
     ·exact f1
     ·exact f2
     ·exact M3.ap.1
    have fn7:=fn3.keep kz7
    have h7D:H7 D=some (.lst tys):=kl7 h3D nDca
    have ul4:=ul kf4
    obtain⟨dS7,sS7⟩:=M7.sh
    refine⟨_,rfl,W.s,dS7,_,rfl,sS7,fE,_,rfl,_,rfl,_,rfl,{(aZ P w K mg af CG W fi fd lk ys ds).sx with fx:=du::W.fx},W.s,W.ch,"t",c,a',n,W.B,kf4,kl4,mem4,wo4,[],[],rfl,OX.fxup du,M7.sb,fn7,M7.sh,List.mem_singleton.mpr rfl,dX.2.2.2.1,nc,co,by omega,by omega,fun p hp=>⟨rfl,co,by show p<W.m;omega⟩,by show 0+ _+ (aZ P w K mg af CG W fi fd lk ys ds).sx.Rs.length<900;omega,fun H8 l8 vs8 kf8 kl8 mem8 wo8 cs8 ns8 L8 hl8 h8l pd8 S8 f8 fnd8 ve8 hc8=> ?_⟩
    rw[hval]at pd8
    have f8:bV (aZ P w K mg af CG W fi fd lk ys ds).sx z.2 H7 H8:=f8
    obtain⟨⟨calls8,ens8,perm8,_⟩,hlw8,w18⟩:=wL N.py.vd N.ld hc (a:=a') (n:=n) han O.od w14 M7.sb.fxdown S8.fxdown.fxdown fnd8 ve8.fxdown
    have M8:=M7.sheet O S8.fxdown f8 w18
    have none8:(cC a' n).filterMap (eT c ds (lw wo4))= []:=List.filterMap_eq_nil_iff.mpr fun q hq=>by
     have hqm:q<W.m:=by have:=sN.mp hq;omega
     unfold eT iU
     rw[hlw q hqm,nZ (lN a' n) hq]
     by_cases hcb:c= "b"
     ·cases hT:isT (ds.getD q .none)with
      |true=>simp
      |false=>simp[hcb]
     ·rw[decide_eq_false hcb];rfl
    rw[none8]at perm8
    have ec8:calls8= []:=List.Perm.eq_nil perm8
    subst ec8
    have ntp8:=M8.sb.nt (fun y=>by cases y)
    rw[ens8]at ntp8
    have ecs8:cs8= []:=by cases ntp8;rfl
    subst ecs8
    have k8:=M7.sb.ktt f8
    have h8D:H8 D=some (.lst tys):=M7.sb.k f8 h7D nk nk nk (fun y=>nDca (Option.some.inj y))
    have pt8:Paired (Pv K H8) tys (iM c ds (cC a' n)):=Paired.imp (fun a b h=>(h.keep kt7).keep k8.t) pt3
    refine⟨_,rfl,_,_,.lst (aM.of h8l) (qS pd8),dtT h8D pt8,lay.1,lay.1,lay.2,?_⟩
    rw[wT vdd]
    refine⟨_,rfl,cE ⟨_,rfl,sl,fun el hel=> ?_⟩⟩
    have s9:=aH.new (o:=.lst []) hel
    refine⟨_,_,.lst (aM.of (s9 _ _ (M8.sb.ca.2 _ rfl))) .nil,.lst (aM.of aJ) .nil,rfl,rfl,by decide,?_⟩
    have N9:=(M8.n N.fl N.ly).same O s9
    have N9':eQ P w K mg af CS CF CB CT CG z.2 W fi fd lk ys ds kf8 kl8 mem8 wo8 [] ns8 csh (lw wo8) (upd H8 el (.lst [])):=⟨N9.sb,N9.sh,N9.ch,N9.fl,N9.ly,N9.ld,N9.py,N9.w1,N9.zs,N9.ls.imp fun ls e=>⟨e.1,e.2.1,fun p hp=>by
     rw[e.2.2 p hp,hlw8 p hp]
     congr 1
     congr 1
     by_cases hq:p∈cC a' n
     ·rw[nZ (lN a' n) hq,nZ (lN a' n) hq]
      split
      ·rfl
      ·next hne=>
       show _=lw wo4 p
       rw[hlw p hp,nZ (lN a' n) hq,if_neg hne]
     ·rw[nJ hq,nJ hq]
      show lw wo p=lw wo4 p
      rw[hlw p hp,nJ hq]⟩⟩
    have fin:∀{b:Addr} {o:HO},H2 b=some o->b≠W.la->b≠du->W.ca≠b->(∀y,o≠ .dT y)->b≠z.2->b≠W.mc->upd H8 el (.lst []) b=some o:=fun{b o} e n1 n2 n3 n4 n5 n6=>by
     have e3:=f3' b o n1 n2 e
     have hmc:∀t c R,(aZ P w K mg af CG W fi fd lk ys ds).sx.rl t c=some R->b≠R.mc:=fun t c R hR=>by
      have h1:(aZ P w K mg af CG W fi fd lk ys ds).rl c=some R:=(X1.rl_some hR).2
      obtain⟨_,rfl⟩:=fX h1
      exact n6
     have e4:H4 b=some o:=f4 b o (fun y=>by rw[y,M3.sb.fd]at e3;exact n4 _ (Option.some.inj e3).symm) (fun y=>by rw[y,M3.sb.hl]at e3;exact n4 _ (Option.some.inj e3).symm) n5 (fun y=>n3 (Option.some.inj y)) hmc e3
     have e7:=k37 e3 e4 n3
     exact s9 _ _ (f8 b o (fun y=>by rw[y,M7.sb.fd]at e7;exact n4 _ (Option.some.inj e7).symm) (fun y=>by rw[y,M7.sb.hl]at e7;exact n4 _ (Option.some.inj e7).symm) n5 (fun y=>n3 (Option.some.inj y)) hmc e7)
    refine q _ kf8 kl8 mem8 wo8 [] ns8 (Nat.zero_le _) N9' (fun b u e=>s9 _ _ (M7.sb.kz f8 _ _ (kz7 _ _ (kz3 _ _ (kz2 _ _ e))))) (fun b o n1 n2 e=> ?_)
    have e2:=fr2 b o n1 n2 e
    have n1':=n1
    simp only[List.mem_cons,not_or]at n1'
    exact fin e2 (fun y=>n1'.2.2.2 (y▸(fW W).2.2.2.1)) (bE e hdu0) (fun y=>n1'.2.2.2 (y▸(fW W).2.1)) n2 n1'.1 n1'.2.2.1
  obtain⟨t,ht,hq⟩:=cT
  refine⟨_,(aK (bU (i:=6) lW.nd rfl ad (dA a8H dY (bR gA (bQ G_law_mixed hr.mn aR (aA (pv 0) (aA (pv 1) aG))) aY) (fun _ _=>rfl)))
   (aK (bU (i:=7) lW.nd rfl ad (fV aG))
   (aK (cG (a0A PySem.F.plainAttrs_list PySem.F.slot_list_clear PySem.F.type_list_clear a07 (pv 3)))
   (aK (bK (cU mK (bR gA (bQ G_law_mixed hr.mn aR (aA (pv 0) (aA (bR fZ (pv 1) aY) aG))) aY) aY (cO _)) (aK (bU (i:=8) lW.nd rfl ad (cB (pv 2) Y.cl G_total hr aR (aA dY (aA (pv 6) aG))))
   (aK (bU (i:=9) lW.nd rfl ad (bQ G_law_total hr.mn aR (aA (pv 4) (aA (pv 5) (aA (pv 6) (aA (pv 7) aG))))))
   (aL (bL (lZ (lQ (nO hr.units) (pv 8) (pv 9) (cO _)) (lZ (a2p (cS kM rfl T.isinstance jD (aA (pv 8) (aA (jE T.bool a09) aG)))) (mR (lQ (nO hr.units) (cS (vT hu2) rfl T.sorted tZ (aA (pv 3) aG)) (cS (vT hu2) rfl T.sorted tZ (aA (pv 7) aG)) (cO _))))))))) bO)
   ht)))),?_⟩
  refine⟨_,rfl,_,rfl,a,sc,i,rfl,old.seq hS,hl,i0,by omega,fun m1 h1 h2=>⟨_,_,rfl,rfl,(show(0:Int)<2 by decide),?_⟩⟩
  obtain⟨c,hc,chh,hat,ec⟩:=a6M m1
  refine⟨"ab",_,chh,rfl,rfl,sl (by decide+kernel),hat,?_⟩
  rw[ec]
  refine⟨sl,fun du hdu=> ?_⟩
  have s1:=aH.new (o:=.lst []) hdu
  have d1:upd H du (.lst []) du=some (.lst []):=aJ
  generalize upd H du (.lst [])=H1 at s1 d1|-
  have S1:=N.sb.fxup hdu s1 (by rw[d1];exact fun y=>by cases y)
  have ca1:H1 W.ca=some (.lst cs):=s1 _ _ (N.sb.ca.2 _ rfl)
  refine⟨_,rfl,.inl ⟨rfl,_,aM.of ca1⟩,W.ca,_,rfl,rfl,ca1,?_⟩
  have u2:bC W.ca H1 (upd H1 W.ca (.lst [])):=bC.upd
  have c2:upd H1 W.ca (.lst []) W.ca=some (.lst []):=aJ
  generalize upd H1 W.ca (.lst [])=H2 at u2 c2|-
  have S2:=S1.clear (OX.fxup du) rfl u2 c2
  obtain⟨apca,apr,apc,apt⟩:=N.sb.apart hdu
  have apr:=apr _ (List.mem_singleton.mpr rfl)
  obtain⟨⟨a1,a2,a3,a4,a5,a6,a7⟩,⟨b1,b2,b3,b4,b5,b6⟩,⟨c1,c2',c3,c4,c5⟩,⟨dd1,dd2,dd3,dd4⟩,⟨e1,e2,e3⟩,⟨f1,f2⟩,g1⟩:=O.ne
  have k12:∀{b:Addr} {o:HO},H b=some o->b≠W.ca->H2 b=some o:=fun e n=>u2 _ _ n (s1 _ _ e)
  have kn:∀{b:Addr} {o:HO},H b=some o->(∀y,o≠ .lst y)->H2 b=some o:=fun e n=>k12 e (fun y=>by rw[y,N.sb.ca.2 _ rfl]at e;exact n _ (Option.some.inj e).symm)
  have kt2:bS H H2:=fun b xs e=>kn e nk
  have kz2:cL H H2:=fun b u e=>kn e nk
  have hduca:du≠W.ca:=fun y=>apca (by rw[y];rfl)
  have du2:H2 du=some (.lst []):=u2 _ _ hduca d1
  have fr2:jM W z.2 H H2:=fun b o n _ e=>k12 e (fun y=>n (by rw[y];exact List.mem_cons_of_mem _ (List.mem_cons_of_mem _ (List.mem_cons_of_mem _ (fW W).2.1))))
  have fn2:=fn.keep kz2
  have duno:∀{b:Addr} {o:HO},H b=some o->b≠du:=fun e=>bE e hdu
  obtain⟨zs0,hvl,pvl⟩:=N.zs
  obtain⟨ls0,hla,lla⟩:=N.ls
  have M2':kJ P w K mg af CS CF CB CT CG z.2 W fi fd lk ys ds kf kl mem wo [] [] csh du (lw wo,[]) H2:=by
   refine⟨S2,⟨⟨zs0,k12 hvl f1.symm,pvl.keep kt2⟩,N.ld,⟨ls0,k12 hla f2.symm,lla⟩,⟨[],du2,.nil⟩,⟨List.mem_cons_of_mem _ (fW W).2.2.1,List.mem_cons_of_mem _ (fW W).2.2.2.1,aa⟩,S2.fx,⟨g1,duno hvl,duno hla⟩⟩,N.sh.imp fun _ e=>kn e nk,k12 N.ch a5,N.py.keep kt2,N.w1,⟨hduca.symm,apr.1,apr.2,?_,?_,(duno N.ch).symm⟩⟩
   ·obtain⟨l,h1',h2'⟩:=N.sb.cols "t" "a" ys W.B (by show(if("t":Str)= "t" then(if("a":Str)= "a" then some ys else none) else none)=some ys;rw[if_pos rfl,if_pos rfl]) (List.mem_singleton.mpr rfl)
    rw[O.k1]at h1'
    cases h1'
    exact(duno h2').symm
   ·exact apt "t" "b" (gL P w K mg af CG W) (by show(if("t":Str)= "t" then(if("b":Str)= "b" then some (gL P w K mg af CG W) else none) else none)=_;rw[if_pos rfl,if_pos rfl])
  refine⟨_,rfl,_,rfl,_,_,rfl,rfl,a,sc,_,rfl,(jM.z Z old fr2).seq hS,hl,by omega,by omega,fun m2 h3 h4=>⟨_,_,rfl,rfl,(show(0:Int)<2 by decide),rfl,_,rfl,?_⟩⟩
  refine rM (fun _=> ?_) (fun _=> ?_)
  ·exact hq H2 c du hc M2' fn2 kz2 fr2 hdu
  ·
   obtain⟨dS,sS⟩:=M2'.sh
   have lds:(dH "t" c 0 W.B.xs.length).map (aZ P w K mg af CG W fi fd lk ys ds).sx.val=ds.map (bY c):=by rw[lx,wA hc,a0O N.ld]
   have vds:∀d∈ds.map (bY c),Vd d:=fun d hd=>by
    obtain⟨d0,h0,rfl⟩:=List.mem_map.mp hd
    exact a0x (N.py.vd d0 h0)
   have nc:Nl c:=by
    rcases hc with rfl|rfl
    ·exact dX.2.2.2.2.1
    ·exact dX.2.2.2.2.2
   have co:c∈W.B.ord:=by
    rw[O.od]
    rcases hc with rfl|rfl<;>simp
   have ul:=xV (P:=P) (w:=w) (K:=K) (mg:=mg) (af:=af) (CG:=CG) m7 (fi:=fi) (fd:=fd) (lk:=lk) (ys:=ys) (ds:=ds) kf (du::W.fx)
   refine⟨_,rfl,W.s,dS,_,rfl,sS,fE,_,rfl,{(aZ P w K mg af CG W fi fd lk ys ds).sx with fx:=du::W.fx},W.s,W.ch,"t",c,W.B,_,kf,kl,mem,wo,[],[],rfl,OX.fxup du,M2'.sb,fn2,M2'.sh,List.mem_singleton.mpr rfl,dX.2.2.2.1,nc,co,by omega,fun p hp=>⟨rfl,co,by show p<W.m;omega⟩,rfl,by show 0+ _+ (aZ P w K mg af CG W fi fd lk ys ds).sx.Rs.length<900;omega,fun H3 v kf3 kl3 mem3 wo3 cs3 ns3 L dt3 S3 f3 fnd3 ve3 hc3=> ?_⟩
   have lds':(dH "t" c 0 W.B.xs.length).map {(aZ P w K mg af CG W fi fd lk ys ds).sx with fx:=du::W.fx}.val=ds.map (bY c):=lds
   rw[lds']at dt3 fnd3 ve3
   have hup:=a2t (ds.map (bY c))
   rw[List.length_map,N.ld]at hup
   have f3:bV (aZ P w K mg af CG W fi fd lk ys ds).sx z.2 H2 H3:=f3
   obtain⟨⟨calls,ens,perm,lcs⟩,hlw,w13⟩:=wL N.py.vd N.ld hc (a:=0) (n:=gF (ds.map (bY c))) (by omega) O.od N.w1 M2'.sb.fxdown S3.fxdown fnd3 ve3.fxdown
   have M3:=M2'.sheet O S3 f3 w13
   refine⟨_,rfl,_,rfl,_,rfl,_,rfl,du::W.fx,W.vl,W.la,du,W.m,ds,lw wo,c,rfl,M3.own,by omega,fun H4 tv dt4 f4 W4=> ?_⟩
   have M4:=M3.law O f4 W4
   have tok:=a3g (ds.map (bY c)) 0 vds
   obtain⟨ty1,ty2,ty3,ty4⟩:=a5w tok
   have dt34:Dt K H4 v (jB (ds.map (bY c)) 0):=by
    obtain⟨ls3,hla3,_⟩:=M3.own.hl
    obtain⟨dv3,hdu3,_⟩:=M3.own.hd
    have ktt:dP H3 H4:=fun b o hb e=>f4 _ _ (fun y=>by rw[y,hla3]at e;obtain⟨xs,rfl|⟨q,rfl⟩⟩:=hb<;>cases e) (fun y=>by rw[y,hdu3]at e;obtain⟨xs,rfl|⟨q,rfl⟩⟩:=hb<;>cases e) e
    rcases tok with⟨k,hk⟩|⟨y,hy,hn⟩
    ·rw[hk]at dt3|-
     cases dt3
     exact .int k
    ·rw[hy]at dt3|-
     exact uT (.inr ⟨y,rfl,hn⟩) dt3 ktt
   refine⟨_,rfl,_,rfl,_,_,dt34,dt4,ty1,ty1,ty2,?_⟩
   rw[ty3]
   refine⟨_,rfl,cE ⟨_,rfl,v,"bool",_,_,rfl,dt34,a0V K _,_,rfl,?_⟩⟩
   rw[ty4]
   obtain⟨dv4,hdv4,dui4⟩:=M4.own.hd
   have edue:=a0g (c:=c) (ds:=ds) (st:=(lw wo,[])) (lN 0 (gF (ds.map (bY c))))
   rw[a1u]at edue perm hlw
   have edue:((List.range (gF (ds.map (bY c)))).foldl (dR c ds) (lw wo,[])).2=(List.range (gF (ds.map (bY c)))).filterMap (eT c ds (lw wo)):=edue
   rw[edue]at dui4
   have ntp:=M4.sb.nt (fun y=>by cases y)
   rw[ens]at ntp
   have lsc:gJ K H4 cs3 calls:=xW ntp
   have lc3:cs3.length=calls.length:=Paired.length lsc
   have ld4:dv4.length=calls.length:=by rw[Paired.length dui4,perm.length_eq]
   have hfin:∀H',aH H4 H'->Q (.bl true) H':=fun H' s'=>by
    have N4:=(M4.n N.fl N.ly).same O s'
    have N5:eQ P w K mg af CS CF CB CT CG z.2 W fi fd lk ys ds kf3 kl3 mem3 wo3 cs3 ns3 csh (lw wo3) H':=⟨N4.sb,N4.sh,N4.ch,N4.fl,N4.ly,N4.ld,N4.py,N4.w1,N4.zs,N4.ls.imp fun ls e=>⟨e.1,e.2.1,fun p hp=>by rw[hlw p hp];exact e.2.2 p hp⟩⟩
    have kd:∀{b:Addr} {o:HO},H b=some o->b∉z.2::W.s::W.mc::W.fx->(∀y,o≠ .dT y)->H' b=some o:=fun{b o} e n1 n2=>by
     have e3:=bV.fr31 M2'.sb.fxdown f3 b o n1 n2 (fr2 b o n1 n2 e)
     exact s' _ _ (f4 b o (fun y=>n1 (by rw[y];exact List.mem_cons_of_mem _ (List.mem_cons_of_mem _ (List.mem_cons_of_mem _ (fW W).2.2.2.1)))) (duno e) e3)
    refine q H' kf3 kl3 mem3 wo3 cs3 ns3 (by omega) N5 (fun b u e=> ?_) (fun b o n1 n2 e=>kd e n1 n2)
    have e3:=M2'.sb.kz f3 _ _ (kz2 _ _ e)
    refine s' _ _ (f4 b _ (fun y=> ?_) (duno e) e3)
    obtain⟨ls3,hla3,_⟩:=M3.own.hl
    rw[y,hla3]at e3
    cases e3
   refine⟨_,rfl,cE ⟨_,rfl,?_⟩⟩
   refine⟨W.ca,cs3,_,rfl,aM.of (M4.sb.ca.2 _ rfl),by omega,uR calls,⟨calls,lsc,rfl⟩,fun D p hD hs hp sd=>⟨_,rfl,?_⟩⟩
   refine a5q (K:=K) (M4.sb.ca.2 _ rfl) hdv4 lsc dui4.ls (by omega) (by omega) perm true hfin (R:=fun x y H' Q'=>∃dx dy,Dt K H' x dx/\Dt K H' y dy/\dx.canLay0=true/\dy.canLay0=true/\dx.depth<=64/\Q' (.bl (PyData.eqv dx dy)) H') (fun x y H' nss h1 h2 q'=>⟨jV nss,jV nss,h1,h2,(pL nss).1,(pL nss).1,(pL nss).2,by rw[a22];exact q'⟩) D p hD hs hp sd
end
theorem cV.set{K:Fg}{H:Hp}{v:V}{d:PyData}(h:Pv K H v d):∀{vs:List V} {ds:List PyData} {i:Nat},cV K H vs ds->cV K H (vs.set i v) (ds.set i d)
 |_,_,_,.nil=> .nil
 |_,_,0,.cons _ t=> .cons h t
 |_,_,i+ 1,.cons h' t=> .cons h' (cV.set h t)
theorem wX{K:Fg}{H:Hp}:∀{xs:List V} {ds:List PyData} {i:Nat} {v:V},cV K H xs ds->xs[i]?=some v->Pv K H v (ds.getD i .none)
 |_,_,0,_,.cons h _,e=>by cases e;exact h
 |_,_,i+ 1,_,.cons _ t,e=>wX (i:=i) t e
theorem sC{v:V}(h:cQ xs (p:Int)=some v):xs[p]?=some v:=by
 by_cases hp:p<xs.length
 ·have e:=kW (i:=p) (List.getElem?_eq_getElem hp)
  rw[h]at e
  rw[List.getElem?_eq_getElem hp,Option.some.inj e]
 ·exfalso
  unfold cQ at h
  cases e:iI xs.length (p:Int)with
  |none=>rw[e]at h;cases h
  |some j=>
   rw[e]at h
   have hj:j<xs.length:=(List.getElem?_eq_some_iff.mp h).1
   unfold iI at e
   split at e<;>simp at e<;>omega
section
variable{W:cN}{mem:Str->Str->List (aB×V)}
theorem eQ.colA(N:eQ P w K mg af CS CF CB CT CG zt W fi fd lk ys ds kf kl mem wo cs ns csh wl H)(O:iJ W):H W.lA=some (.lst ys):=by
 obtain⟨l,h1,h2⟩:=N.sb.cols "t" "a" ys W.B (by show(if("t":Str)= "t" then(if("a":Str)= "a" then some ys else none) else none)=some ys;rw[if_pos rfl,if_pos rfl]) (List.mem_singleton.mpr rfl)
 rw[O.k1]at h1
 cases h1
 exact h2
theorem a7A(N:eQ P w K mg af CS CF CB CT CG zt W fi fd lk ys ds kf kl mem wo cs ns csh wl H)(O:iJ W){zs:List V}(hzs:H W.vl=some (.lst zs)){v:V}(hv:Pv K H v d)(u:bC W.vl H H1)(h1:H1 W.vl=some (.lst (zs.set p v))):(∃dx,H1 W.s=some (.ins CS dx (dF W.bd W.ch fi)))/\H1 W.ch=some (.lst csh)/\(∃kb,H1 W.bd=some (.dK kb)/\aF kb (.inr "t":aB)=some (.ref W.B.b))/\cR CB CT H1 W.B/\H1 W.lA=some (.lst ys)/\Pv K H1 v d/\
 ∀H2 fi' fd' lk' c kb,oP CS CF W.s W.bd W.ch fi' fd' lk' (csh++ [.ref c]) kb H1 H2->aF kb (.inr "t":aB)=some (.ref W.B.b)->cR CB CT H2 W.B->H2 W.lA=some (.lst (ys.set p v))->(∀x o,x≠W.s->x≠W.ch->x≠W.lA->H1 x=some o->H2 x=some o)->
  eQ P w K mg af CS CF CB CT CG zt W fi' fd' lk' (ys.set p v) (ds.set p d) [] [] mem wo cs ns (csh++ [.ref c]) wl H2/\jM W zt H H2:=by
 obtain⟨⟨a1,a2,a3,a4,a5,a6,a7⟩,⟨b1,b2,b3,b4,b5,b6⟩,⟨c1,c2,c3,c4,c5⟩,⟨d1,d2,d3,d4⟩,⟨e1,e2,e3⟩,⟨f1,f2⟩,g1⟩:=O.ne
 have k1:∀{b:Addr} {o:HO},H b=some o->(∀y,o≠ .lst y)->H1 b=some o:=fun e n=>u _ _ (fun y=>by rw[y,hzs]at e;exact n _ (Option.some.inj e).symm) e
 have hF:=N.sb.F _ (List.mem_singleton.mpr rfl)
 have hB:cR CB CT H1 W.B:=by
  obtain⟨⟨q1,t1⟩,⟨⟨q2,t2⟩,t3,t4⟩,t5,t6,t7⟩:=hF.B
  exact⟨⟨q1,k1 t1 nk⟩,⟨⟨q2,k1 t2 nk⟩,u _ _ b5 t3,k1 t4 nk⟩,k1 t5 nk,k1 t6 nk,u _ _ c4 t7⟩
 obtain⟨kb0,kb1,kb2⟩:=hF.bds
 have hA:=N.colA O
 have kt1:bS H H1:=fun b xs e=>k1 e nk
 refine⟨N.sh.imp fun _ e=>k1 e nk,u _ _ a6 N.ch,⟨kb0,k1 kb1 nk,kb2⟩,hB,u _ _ d3 hA,hv.keep kt1,fun H2 fi' fd' lk' c kb Fr kbv B2 l2 u2=> ?_⟩
 obtain⟨⟨dS',s2⟩,ch2,bd2,⟨df,fi2⟩,fd2,lk2,fl2,nfi,nfd,nlk⟩:=Fr
 have k2:∀{b:Addr} {o:HO},H b=some o->b∉ [W.vl,W.s,W.ch,W.lA] ->H2 b=some o:=fun{b o} e n=>by
  simp only[List.mem_cons,List.not_mem_nil,or_false,not_or]at n
  exact u2 b o n.2.1 n.2.2.1 n.2.2.2 (u b o n.1 e)
 obtain⟨dS,sS⟩:=N.sh
 have kn:∀{b:Addr} {o:HO},H b=some o->(∀y,o≠ .lst y)->(∀a b c,o≠ .ins a b c)->H2 b=some o:=fun{b o} e n1 n2=>k2 e (fun hm=>by
  simp only[List.mem_cons,List.not_mem_nil,or_false]at hm
  rcases hm with y|y|y|y<;>subst y
  ·rw[hzs]at e;exact n1 _ (Option.some.inj e).symm
  ·rw[sS]at e;exact n2 _ _ _ (Option.some.inj e).symm
  ·rw[N.ch]at e;exact n1 _ (Option.some.inj e).symm
  ·rw[hA]at e;exact n1 _ (Option.some.inj e).symm)
 have kt2:bS H H2:=fun b xs e=>kn e nk (fun _ _ _ y=>by cases y)
 have hv2:=hv.keep kt2
 have py2:cV K H2 (ys.set p v) (ds.set p d):=cV.set hv2 (N.py.keep kt2)
 have rlb:(aZ P w K mg af CG W fi fd lk ys ds).sx.rl "t" "b"=some (gL P w K mg af CG W):=by
  show(if("t":Str)= "t" then(if("b":Str)= "b" then some (gL P w K mg af CG W) else none) else none)=_
  rw[if_pos rfl,if_pos rfl]
 have vl2:H2 W.vl=some (.lst (zs.set p v)):=u2 _ _ (fun y=>by rw[y,sS]at hzs;cases hzs) a6.symm d3.symm h1
 have ftn:∀b∈ [W.gr,W.nl],b∉ [W.vl,W.s,W.ch,W.lA]:=fun b hb=>by
  have gx:=O.gx
  unfold cN.fx at gx
  simp only[List.mem_cons,List.not_mem_nil,or_false,not_or]at hb gx|-
  rcases hb with rfl|rfl
  ·exact⟨gx.2.2.2.2.2.2.1,O.gs.1,gx.1,gx.2.2.2.1⟩
  ·exact⟨e2,O.gs.2,a4.symm,d1.symm⟩
 have rlx:∀{t c:Str} {R:RD},(aZ P w K mg af CG W fi fd lk ys ds).sx.rl t c=some R->t= "t" /\c= "b" /\R=gL P w K mg af CG W:=fun{t c R} h=>by
  obtain⟨h1,h2⟩:=X1.rl_some (Y:=aZ P w K mg af CG W fi fd lk ys ds) h
  obtain⟨h3,h4⟩:=fX h2
  exact⟨h1,h3,h4⟩
 have S2:SB P w K mg af (jO P w K mg af CG) CF CB CT zt (aZ P w K mg af CG W fi' fd' lk' (ys.set p v) (ds.set p d)).sx [] [] mem wo cs ns H2:=by
  refine SB.new N.sb [W.vl,W.s,W.ch,W.lA] (fun b hb=> ?_) (fun b o n e=>k2 e n) rfl rfl rfl (Nat.le_refl _) (fun t c R hR b hb=> ?_) (fun t c R hR=> ?_) (fun a e=> ?_) (fun b hb y=> ?_) (fun tb htb=> ?_) fd2 lk2 (fun t c ys' B g h=> ?_) (fun t c ys' q x g e=> ?_) (fun t c R hR q hq=> ?_) (fun x R hx hR=> .inl ⟨x,hx,rfl,rfl,rfl,rfl⟩) (fun t c R j hR hj=>False.elim hj)
  ·simp only[List.mem_cons,List.not_mem_nil,or_false]at hb
   rcases hb with rfl|rfl|rfl|rfl
   ·exact .inr ⟨_,hzs,(fW W).2.2.1⟩
   ·exact .inl ⟨_,_,_,sS⟩
   ·exact .inr ⟨_,N.ch,(fW W).1⟩
   ·exact .inr ⟨_,hA,(fW W).2.2.2.2⟩
  ·obtain⟨_,_,rfl⟩:=rlx hR
   exact ftn b hb
  ·obtain⟨_,_,rfl⟩:=rlx hR
   exact aa
  ·have e:some W.ca=some a:=e
   cases e
   simp only[List.mem_cons,List.not_mem_nil,or_false,not_or]
   exact⟨f1,fun y=>by{have:=N.sb.ca.2 _ rfl;rw[y,sS]at this;cases this},a5.symm,d2.symm⟩
  ·simp only[List.mem_cons,List.not_mem_nil,or_false]at hb
   rcases hb with rfl|rfl|rfl|rfl
   ·rw[vl2]at y;cases y
   ·rw[s2]at y;cases y
   ·rw[ch2]at y;cases y
   ·rw[l2]at y;cases y
  ·rw[List.mem_singleton.mp htb]
   exact⟨⟨df,fi2⟩,⟨kb,bd2,kbv⟩,B2,fd2,by decide⟩
  ·have g1:(aZ P w K mg af CG W fi' fd' lk' (ys.set p v) (ds.set p d)).gv c=some ys':=(X1.gv_some (Y:=aZ P w K mg af CG W fi' fd' lk' (ys.set p v) (ds.set p d)) g).2
   obtain⟨rfl,rfl⟩:=oR g1
   rw[(lG h).2]
   exact⟨W.lA,O.k1,l2⟩
  ·have g1:(aZ P w K mg af CG W fi' fd' lk' (ys.set p v) (ds.set p d)).gv c=some ys':=(X1.gv_some (Y:=aZ P w K mg af CG W fi' fd' lk' (ys.set p v) (ds.set p d)) g).2
   obtain⟨rfl,rfl⟩:=oR g1
   show Pd K H2 x ((aZ P w K mg af CG W fi' fd' lk' (ys.set p v) (ds.set p d)).v ("t","a",q))
   rw[oC]
   exact(wX py2 (sC e)).pd
  ·obtain⟨rfl,rfl,rfl⟩:=rlx hR
   refine mN.mv (fun b hb o e=>k2 e (ftn b hb)) (N.sb.ra "t" "b" _ rlb q hq)
 have la2:∃ls,H2 W.la=some (.lst ls)/\wP W.m ls wl:=N.ls.imp fun ls e=>⟨k2 e.1 (by simp only[List.mem_cons,List.not_mem_nil,or_false,not_or];exact⟨g1.symm,fun y=>by{have:=e.1;rw[y,sS]at this;cases this},a7.symm,d4.symm⟩),e.2⟩
 refine⟨⟨S2,⟨dS',s2⟩,ch2,fl2,by rw[List.length_set];exact N.ly,by rw[List.length_set];exact N.ld,py2,N.w1,⟨_,vl2,?_⟩,la2⟩,fun b o n1 n2 e=>k2 e (fun hm=> ?_)⟩
 ·obtain⟨zs',h',pz⟩:=N.zs
  rw[hzs]at h'
  cases h'
  exact cV.set hv2 (pz.keep kt2)
 ·simp only[List.mem_cons,not_or]at n1
  simp only[List.mem_cons,List.not_mem_nil,or_false]at hm
  rcases hm with rfl|rfl|rfl|rfl
  ·exact n1.2.2.2 (fW W).2.2.1
  ·exact n1.2.1 rfl
  ·exact n1.2.2.2 (fW W).1
  ·exact n1.2.2.2 (fW W).2.2.2.2
end
abbrev qG:List Str:=["_law_script","_law_values","_law_sheet","_law_calls","_law_last","_law_k","_law_place"]
theorem nU:bD qG ["_law_script"] (aO kL):={}
section
abbrev ok31:List Int->Prop:=fun is=>∃n,is= [n] /\iF (.int n)=true
theorem wG{W:cN}(h:lR P w K mg af 4 H W.fa (some W.ca) none iZ ok31):jQ P w K mg af (aZ P w K mg af CG W fi fd lk ys ds).sx H:=fun t c R hR=>by
 have h1:(aZ P w K mg af CG W fi fd lk ys ds).rl c=some R:=(X1.rl_some (Y:=aZ P w K mg af CG W fi fd lk ys ds) hR).2
 obtain⟨_,rfl⟩:=fX h1
 exact h
theorem eQ.unl{f:eG}{W:cN}{mem:Str->Str->List (aB×V)}(L:tX X σ H f)(kz:cL (cM f H) H')(O:iJ W)(N:eQ P w K mg af CS CF CB CT CG zt W fi fd lk ys ds kf kl mem wo cs ns csh wl H'):eQ P w K mg af CS CF CB CT CG zt W fi fd lk ys ds kf kl mem wo cs ns csh wl (unl f H')/\∀b o,(∀u,o≠Fz u)->H' b=some o->L2.unl f H' b=some o:=by
 have at':∀b o,f b=some o->H' b=some (Fz o):=fun b o e=>kz _ _ (kK e)
 have kn:∀b o,(∀u,o≠Fz u)->H' b=some o->L2.unl f H' b=some o:=fun b o n e=>by
  cases e2:f b with
  |none=>rw[cZ e2];exact e
  |some ob=>rw[at' b ob e2]at e;exact absurd (Option.some.inj e).symm (n ob)
 refine⟨N.mv O (fun b o e _ n=>kn b o n e) (fun b xs e=>kn b _ nk e) ?_,kn⟩
 obtain⟨S,t1,t2⟩:=N.sb.tb
 refine⟨S,kn _ _ (fun u y=>by cases y) t1,fun c hc=> ?_⟩
 obtain⟨o,o1,o2⟩:=t2 c hc
 refine⟨o,?_,o2⟩
 cases e2:f c with
 |none=>rw[cZ e2];exact o1
 |some ob=>
  rw[at' c ob e2]at o1
  have:=a5O o1
  subst this
  obtain⟨v,hv⟩:=L.only c _ e2
  obtain⟨vs,t,h1,_⟩:=o2
  rw[hv]at h1
  cases h1
def a1m(P:Program)(w:World)(K:Fg)(mg:Str->Option Value)(af:Heap)(CS CF CB CT CG zt:Addr)(W:cN)(i:Nat)(H:Hp):Prop:=∃(fi fd lk:Addr) (ys:List V) (ds:List PyData) (kf kl:List (Ky×V)) (mem:Str->Str->List (aB×V)) (wo:aQ->Option (List Int×V)) (cs:List V) (ns:List (Option V×List Int)) (csh:List V),eQ P w K mg af CS CF CB CT CG zt W fi fd lk ys ds kf kl mem wo cs ns csh (lw wo) H/\csh.length<=10+ i/\cs.length<=7
abbrev sX(P:Program)(w:World)(K:Fg)(mg:Str->Option Value)(af:Heap)(f c:Addr)(A:Around)(ag:List Env)(s:Shared)(H:Hp)(E:XK):Cx:=(eJ aE P w K mg af qG "law" (aO kL) f (.ref c) A ag s H E).nox
theorem a43(T:bF K mg){CR CV:Addr}(Y:gM K mg CS)(R:mV K mg CR)(F:fC K mg CF)(Wb:dG K mg CB)(U:dZ K mg CT)(Ce:nA K mg CG)(VP:rR K mg CV){z1 z2:Addr×Addr}(B2:kF K mg "Finder" "gathered" "Finder.gathered" iB z2)(M2:kC mg af z2.1 z2.2)(A:Around)(ag:List Env)(s:Shared)(H:Hp)(Q:VK)(E:XK)(hr:bT 17 (A.deeper (PyProof.Rows.envOfC "law" (aO kL) s.heap.objs.size f (.ref z1.1))))(q:∀H',sG [z1,z2] H'->Q (.bl true) H'):
 ∃t,eS (sX P w K mg af f z1.1 A ag s H E) ((eZ kL).drop 7) t/\
  ∀(H1 Hz:Hp) (W:cN) (a:Addr) (sc:List Int) (o5 o6:Option V),iJ W->uW Hz W z2.2->aH Hz H1->a1m P w K mg af CS CF CB CT CG z2.2 W 0 H1->aM K Hz a (sc.map V.int)->sc.length<=63->(∃S,Hz z1.2=some (fU z1.2 S))->
   (∀(σ:St) (HB:Hp) (fl:eG),Lent (sX P w K mg af f z1.1 A ag s H E) σ HB fl->σ[3]?=some (some (.ref W.ca))->aH Hz HB->lR P w K mg af 4 (cM fl HB) W.fa (some W.ca) none iZ ok31)->
   t {nx:=fun _ H'=>Q .non H',rt:=Q} [some (.ref a),some (.ref W.vl),some (.ref W.s),some (.ref W.ca),some (.ref W.la),o5,o6] H1:=by
 have hu:=dQ hr
 have hRG:∀C sp,jO P w K mg af CG C sp->cI K C/\aS P w K mg af aE 8 C "gather" ["self","look","many","table","column","place"] sp:=fun C sp h=>by
  obtain⟨rfl,rfl⟩:=h
  exact⟨Ce.cl,a2e T Ce⟩
 have G_vo:aS P w K mg af aE 11 CF "value_of" ["self","cell"] (mC P w K mg af (jO P w K mg af CG) CF CB CT z2.2):=a3O T R F Wb U B2 M2 hRG
 have G_stretch:aS P w K mg af aE 12 CS "stretch" ["self","table","column","start","end"] (tN P w K mg af (jO P w K mg af CG) CS CF CB CT z2.2):=a1d T Y F Wb U G_vo
 have G_law_mixed:bG P w K mg af aE 1 "_law_mixed" ["_law_script","_law_k"] (pD K):=a0F T
 have G_law_value:bG P w K mg af aE 1 "_law_value" ["_law_cell"] (qX K):=a1H T
 have G_put:aS P w K mg af aE 9 CS "put" ["self","table","column","place","value"] (zL K CS CF CB CT):=a5z T Y F Wb U VP
 have G_law_looked:bG P w K mg af aE 13 "_law_looked" ["_law_script","_law_at","_law_sheet","_law_calls","_law_values","_law_last"] (wQ P w K mg af CS CF CB CT CG z2.2):=a7Z T Y R F Wb U Ce B2 M2
 refine⟨_,(aK (kO PassesOwn.never rfl (uG rfl T.range (aA aY aG)) (gQ (i:=5) nU.nd rfl ad) (aL (bK (PW.pt (kU (cU (nR hr.units) (pv 1) (fV aG) (cO _)) (lU (cU mK (bR gA (bQ G_law_mixed hr.mn aR (aA (pv 0) (aA (bR fZ aY (bR nY aY (pv 5))) aG))) aY) aY (cO _))))) (aK (bU (i:=6) nU.nd rfl ad (bR gA (bQ G_law_mixed hr.mn aR (aA (pv 0) (aA (bR fZ aY (bR nY aY (pv 5))) aG))) (cS gX rfl T.len gB (aA (pv 1) aG))))
  (aK (a0l (bQ G_law_value hr.mn aR (aA (bQ G_law_mixed hr.mn aR (aA (pv 0) (aA (bR fZ aY (bR nY aY (pv 5))) aG))) aG)) (a0m (pv 1) (pv 6) zB (fun _=>rfl)))
  (aL (cG (cB (pv 2) Y.cl G_put hr.mn aR (aA dY (aA dY (aA (pv 6) (aA (dA iY (pv 1) (pv 6) (fun _ _=>rfl)) aG))))))))) (aL (bK (eI (dI (a7s G_law_looked hr.mn (aA (pv 0) (aA (bR fZ aY (bR nY aY (pv 5))) (aA (pv 2) (aA (pv 3) (aA (pv 1) (aA (pv 4) aG))))))) (fun _=>rfl))) (aL (bL qQ)) bO)))))
  (aL (bL (lQ (nO hr.units) (a8t (pv 2) Y.cl G_stretch hr.mn (aA dY (aA dY (aA aY (aA (cS gX rfl T.len gB (aA (pv 1) aG)) aG))))) (pv 1) (cO _))))),?_⟩
 intro H1 Hz W a sc o5 o6 O Z old1 L1 hS hl hz1 fnH
 have m7:=O.m7
 have lx:W.B.xs.length=W.m:=by rw[O.xs,nN]
 refine⟨_,rfl,by decide,by decide,?_⟩
 refine a0D (lo:=0) (n:=(10:Int).toNat) (fun i σ Hi=>∃o5 o6,σ= [some (.ref a),some (.ref W.vl),some (.ref W.s),some (.ref W.ca),some (.ref W.la),o5,o6] /\aH Hz Hi/\a1m P w K mg af CS CF CB CT CG z2.2 W i Hi) ⟨_,_,rfl,old1,L1⟩ ?_ ?_
 ·rintro i σ Hi hi ⟨o5,o6,rfl,oldi,L⟩
  have hi:i<10:=hi
  obtain⟨fi,fd,lk,ys,ds,kf,kl,mem,wo,cs,ns,csh,N,lc,lcs⟩:=L
  obtain⟨zs,hvl,pz⟩:=N.zs
  have lz:zs.length=W.m:=by rw[Paired.length pz,N.ld]
  have hSi:=oldi.seq hS
  refine⟨_,rfl,sl,fun el hel=> ?_⟩
  have sj:=aH.new (o:=.lst []) hel
  have cj:upd Hi el (.lst []) el=some (.lst []):=aJ
  generalize upd Hi el (.lst [])=Hj at sj cj|-
  have oldj:=oldi.trans sj
  have lay:=yF N.py.vd
  refine⟨.list ds,.list [],.lst (aM.of (sj _ _ hvl)) (cV.dt (pz.keep (bS.of sj))),.lst (aM.of cj) .nil,lay.1,rfl,lay.2,_,rfl,?_⟩
  have edd:(!PyData.eqv (.list ds) (.list []))=decide (ds≠ []):=by
   cases ds<;>simp[PyData.eqv,PyData.eqvAll]
  rw[edd]
  refine rM (fun _=>bH ?_) (fun hne=> ?_)
  ·skip
   refine⟨_,rfl,_,rfl,_,_,rfl,rfl,.inl ⟨by decide,by decide⟩,_,_,rfl,rfl,_,rfl,_,rfl,_,rfl,_,rfl,fun fl Ln=> ?_⟩
   have sL:aH Hj (cM fl Hj):=fun b o e=>by
    cases e2:fl b with
    |none=>rw[dO e2];exact e
    |some ob=>rw[Ln.free b ob e2]at e;cases e
   refine⟨Hz,a,sc,_,W,fi,fd,lk,ys,ds,kf,kl,mem,wo,cs,ns,csh,rfl,hS,Z,oldj.trans sL,hl,by omega,by omega,O,(N.same O sj).same O sL,wG (fnH _ _ _ Ln.toLent rfl oldj),fun H' kf' kl' mem' wo' cs' ns' lc' N' kz' fr'=> ?_⟩
   obtain⟨NU,kn⟩:=eQ.unl Ln kz' O N'
   refine⟨_,rfl,bH ⟨_,_,rfl,fun b o e=> ?_,fi,fd,lk,ys,ds,kf',kl',mem',wo',cs',ns',csh,NU,by omega,lc'⟩⟩
   have e':=jM.z Z (oldj.trans sL) fr' b o e
   cases e2:fl b with
   |none=>rw[cZ e2];exact e'
   |some ob=>have:=oldj b o e;rw[Ln.free b ob e2]at this;cases this
  ·have hne:ds≠ []:=of_decide_eq_true hne
   have m0:0<W.m:=by
    rw[<- N.ld]
    cases ds with
    |nil=>exact absurd rfl hne
    |cons d r=>exact Nat.succ_pos _
   refine⟨_,rfl,_,rfl,_,_,rfl,rfl,.inl ⟨by decide,by decide⟩,_,_,rfl,rfl,a,sc,_,rfl,oldj.seq hS,hl,by omega,by omega,fun m0' h1 h2=>⟨_,_,rfl,rfl,(show(0:Int)<3 by decide),rfl,_,rfl,?_⟩⟩
   refine rM (fun _=> ?_) (fun _=> ?_)
   ·skip
    refine⟨_,rfl,_,rfl,_,_,rfl,rfl,.inl ⟨by decide,by decide⟩,_,_,rfl,rfl,_,rfl,_,rfl,_,rfl,_,rfl,fun fl Ln=> ?_⟩
    have sL:aH Hj (cM fl Hj):=fun b o e=>by
     cases e2:fl b with
     |none=>rw[dO e2];exact e
     |some ob=>rw[Ln.free b ob e2]at e;cases e
    refine⟨Hz,a,sc,_,W,fi,fd,lk,ys,ds,kf,kl,mem,wo,cs,ns,csh,rfl,hS,Z,oldj.trans sL,hl,by omega,by omega,O,(N.same O sj).same O sL,wG (fnH _ _ _ Ln.toLent rfl oldj),fun H' kf' kl' mem' wo' cs' ns' lc' N' kz' fr'=> ?_⟩
    obtain⟨NU,kn⟩:=eQ.unl Ln kz' O N'
    refine⟨_,rfl,bH ⟨_,_,rfl,fun b o e=> ?_,fi,fd,lk,ys,ds,kf',kl',mem',wo',cs',ns',csh,NU,by omega,lc'⟩⟩
    have e':=jM.z Z (oldj.trans sL) fr' b o e
    cases e2:fl b with
    |none=>rw[cZ e2];exact e'
    |some ob=>have:=oldj b o e;rw[Ln.free b ob e2]at this;cases this
   ·
    have hvlj:=sj _ _ hvl
    refine⟨_,rfl,_,rfl,_,_,rfl,rfl,.inl ⟨by decide,by decide⟩,_,_,rfl,rfl,a,sc,_,rfl,oldj.seq hS,hl,by omega,by omega,fun m1 h3 h4=>⟨_,rfl,_,_,rfl,.inl ⟨_,aM.of hvlj,rfl⟩,_,_,rfl,rfl,by omega,?_⟩⟩
    have e1:=Int.emod_nonneg m1 (show(zs.length:Int)≠0 by omega)
    have e2:=Int.emod_lt_of_pos m1 (show(0:Int)<(zs.length:Int)by omega)
    obtain⟨p,hp'⟩:∃p:Nat,m1% (zs.length:Int)=(p:Int):=⟨(m1% (zs.length:Int)).toNat,by omega⟩
    have hp:p<W.m:=by omega
    refine⟨_,rfl,_,rfl,_,_,rfl,rfl,.inl ⟨by decide,by decide⟩,_,_,rfl,rfl,a,sc,_,rfl,oldj.seq hS,hl,by omega,by omega,fun m2 h5 h6=>⟨m2,rfl,fun H3 v d s3 hv=> ?_⟩⟩
    have s13:=sj.trans s3
    have N3:=N.same O s13
    have hvl3:=s13 _ _ hvl
    refine⟨_,rfl,_,rfl,W.vl,zs,m1% (zs.length:Int),p,rfl,rfl,hvl3,by rw[hp',vV (by omega) (by omega),Int.toNat_natCast],?_⟩
    have u4:bC W.vl H3 (upd H3 W.vl (.lst (zs.set p v))):=bC.upd
    have v4:upd H3 W.vl (.lst (zs.set p v)) W.vl=some (.lst (zs.set p v)):=aJ
    generalize upd H3 W.vl (.lst (zs.set p v))=H4 at u4 v4|-
    obtain⟨⟨dS,sS⟩,ch4,⟨kb,bd4,kbv⟩,B4,lA4,pv4,fin⟩:=a7A N3 O hvl3 hv u4 v4
    obtain⟨⟨a1,a2,a3,a4,a5,a6,a7⟩,⟨b1,b2,b3,b4,b5,b6⟩,⟨c1,c2,c3,c4,c5⟩,_⟩:=O.ne
    refine⟨_,rfl,W.s,dS,_,rfl,sS,fE,_,rfl,_,rfl,_,rfl,W.vl,_,_,v,rfl,rfl,aM.of v4,by{rw[hp'];exact kW (List.getElem?_set_self (by omega))},W.s,W.bd,W.ch,W.lA,csh,kb,"t","a",p,v,d,ys,W.B,by{rw[<- hp'];rfl},⟨⟨dS,fi,sS⟩,ch4,bd4⟩,by omega,dX.2.2.2.1,kbv,B4,O.ss,dX.2.2.2.2.1,by{rw[O.od];exact aa},O.r1,O.k1,lA4,by omega,by rw[lx];exact N.ly,pv4,a3.symm,b2.symm,c1.symm,fun H5 fi' fd' lk' c Fr B5 l5 u5=> ?_⟩
    obtain⟨N5,fr5⟩:=fin H5 fi' fd' lk' c kb Fr kbv B5 l5 u5
    refine⟨_,_,rfl,jM.z Z (oldi.trans s13) fr5,fi',fd',lk',ys.set p v,ds.set p d,[],[],mem,wo,cs,ns,csh++ [.ref c],N5,?_,lcs⟩
    rw[List.length_append]
    show csh.length+ 1<=10+ (i+ 1)
    omega
 ·rintro σ Hi ⟨o5,o6,rfl,oldi,L⟩
  obtain⟨fi,fd,lk,ys,ds,kf,kl,mem,wo,cs,ns,csh,N,lc,lcs⟩:=L
  obtain⟨zs,hvl,pz⟩:=N.zs
  have lz:zs.length=W.m:=by rw[Paired.length pz,N.ld]
  obtain⟨dS,sS⟩:=N.sh
  have OX:=N.ok O
  refine⟨_,rfl,W.s,dS,_,rfl,sS,fE,_,rfl,_,_,rfl,.inl ⟨_,aM.of hvl,rfl⟩,fun fl Ln=> ?_⟩
  have sL:aH Hi (cM fl Hi):=fun b o e=>by
   cases e2:fl b with
   |none=>rw[dO e2];exact e
   |some ob=>rw[Ln.free b ob e2]at e;cases e
  have NL:=N.same O sL
  have ul0:=xV (P:=P) (w:=w) (K:=K) (mg:=mg) (af:=af) (CG:=CG) m7 (fi:=fi) (fd:=fd) (lk:=lk) (ys:=ys) (ds:=ds) kf W.fx
  have ul1:bX (aZ P w K mg af CG W fi fd lk ys ds).sx kf<=7:=ul0.2
  have co:("a":Str)∈W.B.ord:=by rw[O.od];exact aa
  refine⟨(aZ P w K mg af CG W fi fd lk ys ds).sx,W.s,W.ch,"t","a",0,W.m,W.B,kf,kl,mem,wo,cs,ns,(by rw[lz,Nat.zero_add];rfl),OX,NL.sb,wG (fnH _ _ _ Ln rfl oldi),NL.sh,List.mem_singleton.mpr rfl,dX.2.2.2.1,dX.2.2.2.2.1,co,by omega,by omega,fun p hp=>⟨rfl,co,by show p<W.m;omega⟩,by omega,fun H2 l vs2 kf2 kl2 mem2 wo2 cs2 ns2 L2 hl2 h2l pd2 S2 f2 fnd2 ve2 hc2=> ?_⟩
  rw[wA (.inl rfl),a0O N.ld,show ds.map (bY "a")=ds from by rw[show bY "a"=(fun d=>d) from funext a0X,List.map_id']]at pd2
  have kz:=NL.sb.kz f2
  have kn:∀{b:Addr} {o:HO},(∀u,o≠Fz u)->H2 b=some o->unl fl H2 b=some o:=fun{b o} n e=>by
   cases e2:fl b with
   |none=>rw[cZ e2];exact e
   |some ob=>rw[kz _ _ (kK e2)]at e;exact absurd (Option.some.inj e).symm (n ob)
  have ktt:dP H2 (unl fl H2):=fun b o hb e=>kn (fun u y=>by obtain⟨xs,rfl|⟨q,rfl⟩⟩:=hb<;>(unfold Fz at y;cases y)) e
  obtain⟨zsL,hvlL,pzL⟩:=NL.zs
  obtain⟨_,_,_,_,_,⟨f1,_⟩,_⟩:=O.ne
  have hvl2:H2 W.vl=some (.lst zsL):=NL.sb.k f2 hvlL nk nk nk (fun y=>f1 (Option.some.inj y))
  have kt2:=NL.sb.ktt f2
  have lay:=yF N.py.vd
  refine⟨_,rfl,.list ds,.list ds,.lst (aM.of (kn nk h2l)) (qS (Paired.imp (fun a b h=>h.keep ktt) pd2)),.lst (aM.of (kn nk hvl2)) (cV.dt ((pzL.keep kt2.t).keep ktt.t)),lay.1,lay.1,lay.2,?_⟩
  rw[wT N.py.vd]
  refine q _ fun z hz=> ?_
  simp only[List.mem_cons,List.not_mem_nil,or_false]at hz
  rcases hz with rfl|rfl
  ·obtain⟨S,e⟩:=hz1
   have e2:=bV.fr31 NL.sb f2 _ _ (Z _ _ e).1 (Z _ _ e).2 (sL _ _ (oldi _ _ e))
   exact⟨S,kn nk e2⟩
  ·obtain⟨S,e,_⟩:=S2.tb
   exact⟨S,kn nk e⟩
end
end My
variable{J:Option My.GT->Hp->Prop}{wo wo':My.aQ->Option (List Int×V)}{tabs:List (Str×My.BM)}{kf kf' kl:List (My.Ky×V)}{Vc:My.aQ->Prop}{adj:My.aC->List My.aC}{cm:My.aC->Option My.aC}{nodes wz fz:List My.aC}{L:List My.aQ}
namespace L2
open PySem PySem.Spec PyProof.Rows
theorem jJ.okT{st:Stmt}{c:Addr}{fd:FuncData}{k:Nat}(F:jJ K x qual st f fd)(hc:fd.code= .ref c)(S:bD N ps (aO st))(len:∀vs H Q E,sp vs H Q E->vs.length=ps.length)
 (hbody:∀(A:Around) (ag:List Env) (s:Shared) (H:Hp) (vs:List V) (Q:VK) (E:XK),bT k (A.deeper (envOfC qual (aO st) s.heap.objs.size f (.ref c)))->sp vs H Q E->
  ∃t,eS (eJ aE P w K mg af N qual (aO st) f (.ref c) A ag s H E).nox (eZ st) t/\t {nx:=fun _ H'=>Q .non H',rt:=Q} (start N vs) H):fA P w K mg af aE (k+ 1) f fd ps sp:=by
 obtain⟨oc,od,kV,doc,pm,an,ah,ct,osl,rfl,lk,hcd⟩:=F.ex
 have e:ah= .ref c:=hc
 subst e
 refine a0C lk hcd S len fun A ag s H vs Q E hr hsp=> ?_
 obtain⟨t,h,q⟩:=hbody A ag s H vs Q E hr hsp
 exact⟨t,h.nox,q⟩
end L2
namespace My
open PySem L2
noncomputable def rW (H:Hp) (L:List Addr):Hp:=fun x=>if x∈L then none else match H x with
 |some (.dT _)=>none
 |o=>o
theorem wV{L:List Addr}{x:Addr}(h:rW H L x=some o):x∉L/\(∀y,o≠ .dT y)/\H x=some o:=by
 unfold rW at h
 split at h
 ·cases h
 ·next n=>
  split at h
  ·cases h
  ·next e=>
   refine⟨n,fun y z=> ?_,h⟩
   subst z
   exact e y h
theorem a3W{L:List Addr}{x:Addr}(h:H x=some o)(n:x∉L)(nd:∀y,o≠ .dT y):rW H L x=some o:=by
 unfold rW
 rw[if_neg n,h]
 split
 ·next e=>exact absurd (Option.some.inj e) (nd _)
 ·rfl
section
def a2M(K:Fg)(ca:Addr)(g:List Int->PyData)(ok:List Int->Prop):List V->Hp->VK->Prop:=fun vs H Q=>∃(l:Addr) (is:List Int) (cs:List V),vs= [.ref l] /\H l=some (.lst (is.map V.int))/\H ca=some (.lst cs)/\cs.length<900/\ok is/\ca≠l/\
 ∀H' v lc,bC ca H H'->H lc=none->H' ca=some (.lst (cs++ [.ref lc]))->H' lc=some (.lst (is.map V.int))->Dt K H' v (g is)->Q v H'
theorem a6o{ca:Addr}{k:Nat}{g:List Int->PyData}{ok:List Int->Prop}{fl:eG}{HB:Hp}(hk:k<=4)(free:∀b o,fl b=some o->HB b=none)(la:fY q params body ai clos HB fa)(F:eO P w K mg af k fa (nS fa fl q params body ai clos 1 (a2M K ca g ok))):lR P w K mg af 4 (cM fl HB) fa (some ca) none g ok:=by
 refine⟨fun H=>fY q params body ai clos H fa/\∀b o,fl b=some o->H b=some (Fz o),(F.mono hk).imp fun vs H Q E h=> ?_,⟨?_,fun b o e=>kK e⟩,fun H H' kz h=>⟨mE kz h.1,fun b o e=>kz _ _ (h.2 b o e)⟩⟩
 ·obtain⟨l,is,cs,rfl,⟨h1,h2⟩,hl,hca,c9,i0,i1,ncl,qq⟩:=h
  have hca:=hca.2 ca rfl
  have nf:∀{b:Addr} {o:HO},H b=some o->(∀u,o≠Fz u)->fl b=none:=fun{b o} e n=>by
   cases e2:fl b with
   |none=>rfl
   |some ob=>rw[h2 b ob e2]at e;exact absurd (Option.some.inj e).symm (n ob)
  have fc:=nf hca nk
  have fl':=nf hl nk
  refine⟨rfl,h1,h2,l,is,cs,rfl,by rw[cZ fl'];exact hl,by rw[cZ fc];exact hca,c9,i0,fun y=>ncl (by rw[y]),fun H' v lc b hlc hc' hl' hd fr=> ?_⟩
  have flc:fl lc=none:=by
   cases e2:fl lc with
   |none=>rfl
   |some ob=>rw[fr lc ob e2]at hl';cases hl'
  have sL:aH H' (cM fl H'):=fun x o e=>by
   cases e2:fl x with
   |none=>rw[dO e2];exact e
   |some ob=>rw[fr x ob e2]at e;cases e
  refine qq (cM fl H') v [.ref lc] (fun x o n e=> ?_) ⟨fun e=>(by cases e),fun x e=> ?_⟩ ⟨fun e=>(by cases e),fun x e=>⟨.ref lc,lc,rfl,by rw[cZ flc]at hlc;exact hlc,sL _ _ hl',fun _=>rfl,fun m e=>(by cases e)⟩⟩ (hd.same sL)
  ·cases e2:fl x with
   |none=>rw[dO e2];exact b _ _ (fun y=>n (by rw[y])) (by rw[cZ e2];exact e)
   |some ob=>rw[h2 x ob e2]at e;rw[kK e2];exact e
  ·cases e
   exact sL _ _ hc'
 ·refine mE (fun b u e=> ?_) la
  cases e2:fl b with
  |none=>rw[dO e2];exact e
  |some ob=>rw[free b ob e2]at e;cases e
inductive zX(K:Fg)(tabs:List (Addr×Addr))(vs:List V)(H:Hp)(Q:VK)(E:XK):Prop
 |mk (a:Addr) (ns:List Int):vs= [.ref a] ->aM K H a (ns.map V.int)->ns.length<=63->sJ tabs H->(∀H',sG tabs H'->Q (.bl true) H')->zX K tabs vs H Q E
theorem a59(T:bF K mg){z1 z2:Addr×Addr}(B1:vW K mg "law" kL z1)(M1:kC mg af z1.1 z1.2)(B2:kF K mg "Finder" "gathered" "Finder.gathered" iB z2)(M2:kC mg af z2.1 z2.2)(n12:z1.2≠z2.2){fd:FuncData}(F:jJ K "law" "law" kL f fd)(hcd:fd.code= .ref z1.1):fA P w K mg af aE 18 f fd ["_law_script"] (zX K [z1,z2]):=by
 obtain⟨CS,Y⟩:=T.t_Sheet
 obtain⟨CF,Fi⟩:=T.t_Finder
 obtain⟨CB,Wb⟩:=T.t_Board
 obtain⟨CT,U⟩:=T.t_Table
 obtain⟨CG,Ce⟩:=T.t_Cells
 obtain⟨CE,Ru⟩:=T.t_Rule
 obtain⟨CR,R⟩:=T.t_Trial
 obtain⟨CV,VP⟩:=T.t_ValuePut
 obtain⟨CU,CC⟩:=T.t_ColumnSet
 obtain⟨CW,TT⟩:=T.t_TableTold
 have G_law_mixed:bG P w K mg af aE 1 "_law_mixed" ["_law_script","_law_k"] (pD K):=a0F T
 have G_law_value:bG P w K mg af aE 1 "_law_value" ["_law_cell"] (qX K):=a1H T
 have G_noted:bG P w K mg af aE 1 "_law_noted" ["_law_calls","_law_some"] (xP K):=a7v T
 have GS:eU P w K mg af aE 3 CS ["self"] (wE CS CF):=a4d T Y Fi
 have G_table:aS P w K mg af aE 9 CS "table" ["self","name","many"] (xE CS CF CB CT):=a4b T Y Fi Wb U TT
 have G_give:aS P w K mg af aE 9 CS "give" ["self","table","column","values"] (yD K CS CF CB CT):=a7Q T Y Fi Wb U CC
 have G_rule:aS P w K mg af aE 9 CS "rule" ["self","table","column","rule"] (a0k K CS CF CB CT CG (uI CG)):=a4L T Y Fi Wb U CC (a36 Ce) (a8Y T Ce)
 have GI:eU P w K mg af aE 4 CG ["self","names","function"] (xT K CG):=a5I T Ru Ce
 refine F.okT hcd nU (fun vs H Q E h=> ?_) (fun A ag s H vs Q E hr h=> ?_)
 ·obtain⟨a,ns,rfl,_⟩:=h
  rfl
 ·obtain⟨a,sc,rfl,hS,hl,hT,q⟩:=h
  have hcl:∀x,(sX P w K mg af f z1.1 A ag s H E).env.scope.names.lookup x=some .cell->∃c,(sX P w K mg af f z1.1 A ag s H E).env.cells.lookup x=some c:=fun x hx=>Option.isSome_iff_exists.mp (PySem.W.cellsFrom_some _ _ _ (.inl hx))
  obtain⟨tE,hE,qE⟩:=a43 (P:=P) (w:=w) T Y R Fi Wb U Ce VP (z1:=z1) B2 M2 (f:=f) A ag s H Q E hr q
  refine⟨_,(aK (xN (te:=oM (qX K) [] E0 (iO (oM (pD K) [] E0 (iO (jC 1) (iO (qW _ (tC (.int 10)) (jC 0)) kP))) kP)) (i:=1) nU.nd rfl rfl (mF (sc:=aO kL) (N:=qG) (cp:=[(0,"_law_script")]) hcl) rfl rfl (by decide) (uG rfl T.range (aA (bR gA (bQ G_law_mixed hr.mn aR (aA (pv 0) (aA aY aG))) aY) aG)) (fun _ _ _ _ _=>mG) (fun _ _ _ _ _=>(bQ G_law_value hr.mn aR (aA (bQ G_law_mixed hr.mn aR (aA (pv 1) (aA (bR fZ aY (pv 0)) aG))) aG))) rfl)
   (aK (bU (i:=2) nU.nd rfl ad (a69 GS hr.mn Y.c aR))
   (aK (cG (cB (pv 2) Y.cl G_table hr.mn aR (aA dY (aA (cS gX rfl T.len gB (aA (pv 1) aG)) aG))))
   (aK (cG (cB (pv 2) Y.cl G_give hr.mn aR (aA dY (aA dY (aA (nK rS rfl T.list jL (aA (pv 1) aG)) aG)))))
   (aK (bU (i:=3) nU.nd rfl ad (fV aG))
   (aK (cG (cB (pv 2) Y.cl G_rule hr.mn aR (aA dY (aA dY (aA (lL GI hr.mn Ce.c aR (aA (fV (aA dY aG)) (aA (yA M1 rfl (mF (sc:=aO kL) (N:=qG) (cp:=[(3,"_law_calls")]) hcl).clos rfl) aG))) aG)))))
   (aK (xN (i:=4) nU.nd rfl rfl wD rfl rfl (by decide) (kR (pv 1)) (fun _ _ _ _ _=>mG) (fun _ _ _ _ _=>gE) rfl)
   hE))))))),?_⟩
  have t1:H z1.2=some (fU z1.2 []):=hT _ (by simp)
  have t2:H z2.2=some (fU z2.2 []):=hT _ (by simp)
  refine⟨_,rfl,a,sc,_,rfl,hS,hl,by decide,by decide,fun m1 h1 h2=>⟨_,_,rfl,rfl,(show(0:Int)<8 by decide),_,rfl,by omega,by omega,fun vl hvl=> ?_⟩⟩
  have e1:=Int.emod_nonneg m1 (show(8:Int)≠0 by decide)
  have e2:=Int.emod_lt_of_pos m1 (show(0:Int)<8 by decide)
  obtain⟨m,em⟩:∃m:Nat,m1% 8=(m:Int):=⟨(m1% 8).toNat,by omega⟩
  have m7:m<=7:=by omega
  rw[em,Int.toNat_natCast]
  refine yH (lo:=0) (n:=m) (fun i ys Hi=>aH H Hi/\ys.length=i/\∃ds,cV K Hi ys ds) ⟨aH.new hvl,rfl,[],.nil⟩ ?_ ?_
  ·rintro i ys Hi hi hiD ⟨si,li,ds,py⟩
   refine⟨_,rfl,_,rfl,_,_,rfl,rfl,a,sc,_,rfl,si.seq hS,hl,by omega,by omega,fun m2 h3 h4=>⟨m2,rfl,fun H3 v d s3 hv=> ?_⟩⟩
   have h3D:=s3 _ _ hiD
   have kt:bS H3 (upd H3 vl (.lst (ys++ [v]))):=bS.upd h3D nk
   exact⟨h3D,dJ (by omega),(si.trans s3).on hvl,by rw[List.length_append,li];rfl,ds++ [d],Paired.snoc (hv.keep kt) (cV.keep kt (cV.keep (bS.of s3) py))⟩
  rintro zs H1 vl1 ⟨s1,lz,ds,pz⟩
  intro s' dSh hs hds ne
  refine⟨s',dSh,rfl,aJ,fun H2 bd ch fi0 fd0 lk0 df fr nfl g1 g2 g3 g4 g5 g6 b1=>⟨rfl,?_⟩⟩
  have s2:aH H1 H2:=fun x o e=>b1 _ _ (bE e hs) (by rw[aI (bE e hs),aI (bE e hds)];exact e)
  have fr0:∀x∈ [bd,ch,fi0,fd0,lk0],H1 x=none:=fun x hx=>(kH (kH (fr x hx)).1).1
  refine⟨_,rfl,s',dSh,_,rfl,g1,fE,_,rfl,_,_,rfl,.inl ⟨_,aM.of (s2 _ _ vl1),rfl⟩,s',bd,ch,[],[],"t",m,by{rw[lz];rfl},⟨⟨dSh,fi0,g1⟩,g3,g2⟩,by decide,by decide,dX.2.2.2.1,rfl,by omega,fun H3 fi' fd2 lk' c1 b g r e ru me od Fr3 hB3 sp3 fr3 u3=> ?_⟩
  obtain⟨⟨dS3,sS3⟩,ch3,bd3,_⟩:=Fr3
  have nvs:vl≠s':=fun y=>by rw[<- y,vl1]at hs;cases hs
  have nvc:vl≠ch:=fun y=>by rw[y,fr0 ch (by simp)]at vl1;cases vl1
  have nvb:vl≠bd:=fun y=>by rw[y,fr0 bd (by simp)]at vl1;cases vl1
  have k3:∀{x:Addr} {o:HO},H1 x=some o->H3 x=some o:=fun{x o} e=>u3 _ _ (fun y=>by rw[y,hs]at e;cases e) (fun y=>by rw[y,fr0 ch (by simp)]at e;cases e) (fun y=>by rw[y,fr0 bd (by simp)]at e;cases e) (s2 _ _ e)
  have n2:∀{x y:Addr} {o:HO},y∈ [b,g,r,e,ru,me,od] ->H2 x=some o->x≠y:=fun hy ex z=>by rw[z,fr3 _ hy]at ex;cases ex
  have vl3:=k3 vl1
  refine⟨_,rfl,s',dS3,_,rfl,sS3,fE,_,rfl,vl,_,rfl,.inl (aM.of vl3),fun hd hhd=> ?_⟩
  have s4':=aH.new (o:=.lst zs) hhd
  have hd4:upd H3 hd (.lst zs) hd=some (.lst zs):=aJ
  generalize upd H3 hd (.lst zs)=H4 at s4' hd4|-
  have hB4:=hB3.same s4'
  have kt4:bS H1 H4:=fun x xs ex=>s4' _ _ (k3 ex)
  have kt4':∀{x:Addr} {o:HO},H1 x=some o->H4 x=some o:=fun ex=>s4' _ _ (k3 ex)
  have od3:H3 od=some (.lst (([]:List Str).map V.str)):=hB3.ord
  have nhd:hd≠od:=fun y=>by rw[y,od3]at hhd;cases hhd
  refine⟨s',bd,ch,hd,[.ref c1],[((.inr "t":aB),V.ref b)],"t","a",zs,ds,⟨b,g,r,e,ru,me,od,fP 0 m,(m:Int),[],[],[],[]⟩,rfl,⟨⟨dS3,fi',s4' _ _ sS3⟩,s4' _ _ ch3,s4' _ _ bd3⟩,(show 1<900 by decide),dX.2.2.2.1,rfl,hB4,sp3,⟨n2 (by simp) g3,n2 (by simp) g3,n2 (by simp) g2,n2 (by simp) g2,n2 (by simp) g2⟩,⟨rfl,fun h=>by cases h⟩,dX.2.2.2.2.1,hd4,nhd,pz.keep kt4,by show zs.length=(fP 0 m).length;rw[nN];exact lz,by omega,(show 0<8 by decide),(show 0<8 by decide),fun H5 fi5 fd5 lk5 c5 lA Fr5 hlA hB5 lA5 u5=> ?_⟩
  obtain⟨⟨dS5,sS5⟩,ch5,bd5,_⟩:=Fr5
  refine⟨sl,fun ca hca=> ?_⟩
  have s6:=aH.new (o:=.lst []) hca
  have c6:upd H5 ca (.lst []) ca=some (.lst []):=aJ
  generalize upd H5 ca (.lst [])=H6 at s6 c6|-
  refine⟨_,rfl,s',dS5,_,rfl,s6 _ _ sS5,fE,sl,fun l0 hl0=> ?_⟩
  have s7:=aH.new (o:=.lst [.str ("a":Str)]) hl0
  have c7:upd H6 l0 (.lst [.str ("a":Str)]) l0=some (.lst [.str ("a":Str)]):=aJ
  generalize upd H6 l0 (.lst [.str ("a":Str)])=H7 at s7 c7|-
  have s57:=s6.trans s7
  have k5:∀{x:Addr} {o:HO},H1 x=some o->H5 x=some o:=fun{x o} ex=>u5 _ _ (fun y=>by rw[y,hs]at ex;cases ex) (fun y=>by rw[y,fr0 ch (by simp)]at ex;cases ex) (n2 (by simp) (s2 _ _ ex)) (n2 (by simp) (s2 _ _ ex)) (s4' _ _ (k3 ex))
  have t1':=s57 _ _ (k5 (s1 _ _ t1))
  have t2':=s57 _ _ (k5 (s1 _ _ t2))
  refine⟨⟨[],t1',fun c hc=>by cases hc⟩,fun fa HA hfa sA tA lA'=> ?_⟩
  have kA:∀{x:Addr} {o:HO},H7 x=some o->(∀φ,o≠ .ext φ)->HA x=some o:=fun ex n=>sA _ _ (fun y=>by rw[y,t1']at ex;exact n _ (Option.some.inj ex).symm) ex
  obtain⟨S1,tS1,_⟩:=id tA
  intro gr dg hgr hdg negr
  have l0A:=kA c7 nk
  have hNa:∀z∈ [("a":Str)],Nl z:=fun z hz=>by rw[List.mem_singleton.mp hz];exact dX.2.2.2.2.1
  refine⟨gr,dg,l0,fa,[("a":Str)],rfl,aJ,aM.of ?_,bE l0A hgr,(show 1<=6 by decide),hNa,fun HB nl bB hnl' grB nlB=>⟨rfl,?_⟩⟩
  ·rw[aI (bE l0A hgr),aI (bE l0A hdg)]
   exact l0A
  have hnl:HA nl=none:=(kH (kH hnl').1).1
  have sB:aH HA HB:=fun x o ex=>bB _ _ (bE ex hgr) (by rw[aI (bE ex hgr),aI (bE ex hdg)];exact ex)
  have kB:∀{x:Addr} {o:HO},H5 x=some o->(∀φ,o≠ .ext φ)->HB x=some o:=fun ex n=>sB _ _ (kA (s57 _ _ ex) n)
  have kHA:∀{x:Addr} {o:HO},H5 x=some o->(∀φ,o≠ .ext φ)->HA x=some o:=fun ex n=>kA (s57 _ _ ex) n
  let B5:BM:={(⟨b,g,r,e,ru,me,od,fP 0 m,(m:Int),[],[],[],[]⟩:BM)with kvs:=aU [] (.inr "a":aB) (.ref lA),ord:=[] ++ [("a":Str)]}
  have hB5:cR CB CT H5 B5:=hB5
  have btB:cR CB CT HB B5:=by
   obtain⟨⟨d1,e1'⟩,⟨⟨d2,e2'⟩,e3,e4⟩,e5,e6,e7⟩:=hB5
   exact⟨⟨d1,kB e1' nk⟩,⟨⟨d2,kB e2' nk⟩,kB e3 nk,kB e4 nk⟩,kB e5 nk,kB e6 nk,kB e7 nk⟩
  have sp5:B5.sep:=⟨sp3.ro,sp3.eu,sp3.em,sp3.um⟩
  have ss5:qF bd ch B5:=⟨(show ch≠r from n2 (by simp) g3),(show ch≠od from n2 (by simp) g3),(show bd≠e from n2 (by simp) g2),(show bd≠ru from n2 (by simp) g2),(show bd≠me from n2 (by simp) g2)⟩
  have once:∀z∈fI ([("a":Str)].map fun z=>(("t":Str),z)),z=(("t":Str),("a":Str)):=fun z hz=>List.mem_singleton.mp (a2D hz)
  have aord:("a":Str)∈B5.ord:=aa
  refine⟨s',bd,ch,gr,dg,[.ref c1] ++ [.ref c5],[((.inr "t":aB),V.ref b)],"t","b",iE nl fa,B5,fI ([("a":Str)].map fun z=>(("t":Str),z)),[(("t":Str),("a":Str))],rfl,⟨⟨dS5,fi5,kB sS5 nk⟩,kB ch5 nk,kB bd5 nk⟩,(by show 2<900;decide),dX.2.2.2.1,rfl,btB,sp5,ss5,⟨rfl,fun h=>lE.2 (List.mem_singleton.mp h)⟩,dX.2.2.2.2.2,grB,(pS _ _).2.2.1,a4m grB nlB (show 1<=6 by decide) hNa dX.2.2.2.1,fun z hz=> ?_,Nat.le_trans (a2I _) (show 1<=100 by decide),fun h=> ?_,(show 1<=100 by decide),by simp,(show 1<=4 by decide),fun kv hkv=> ?_,(show 0<100 by decide),(show 0<100 by decide),(show 1<8 by decide),fun H9 fi9 fd9 lk9 c9 mc Fr9 hmc hB9 mc9 u9=> ?_⟩
  ·obtain rfl:=once z hz
   exact⟨⟨dX.2.2.2.1,dX.2.2.2.2.1⟩,List.mem_singleton.mpr rfl,B5,rfl,btB,aord⟩
  ·have:=List.mem_singleton.mp h
   exact lE.2 (Prod.mk.inj this).2
  ·rw[List.mem_singleton.mp hkv]
   exact⟨"t",B5,rfl,dX.2.2.2.1,btB,ss5.u,List.nodup_nil,Nat.zero_le _,fun rv hrv=>by cases hrv⟩
  obtain⟨⟨dS9,sh9⟩,ch9,bd9,⟨df9,fi9'⟩,fd9',lk9',fl9,_,_,_⟩:=Fr9
  have chB:=kB ch5 nk
  have sSB:=kB sS5 nk
  have odB:HB od=some (.lst (B5.ord.map V.str)):=btB.ord
  have ruB:HB ru=some (.dK B5.rus):=btB.rul
  have meB:HB me=some (.dK B5.mes):=btB.mem
  have l9:∀{x:Addr} {ys:List V},HB x=some (.lst ys)->x≠ch->x≠od->H9 x=some (.lst ys):=fun ex n1 n2=>u9 _ _ (fun y=>by rw[y,sSB]at ex;cases ex) n1 n2 (fun y=>by have ex:=ex;rw[y]at ex;have:=ruB.symm.trans ex;cases this) (fun y=>by have ex:=ex;rw[y]at ex;have:=meB.symm.trans ex;cases this) ex
  have nlA4:∀{x:Addr} {o:HO},H4 x=some o->x≠lA:=fun ex y=>by rw[y,hlA]at ex;cases ex
  have nca5:∀{x:Addr} {o:HO},H5 x=some o->x≠ca:=fun ex y=>by rw[y,hca]at ex;cases ex
  have nnlA:∀{x:Addr} {o:HO},HA x=some o->x≠nl:=fun ex y=>by rw[y,hnl]at ex;cases ex
  have nmcB:∀{x:Addr} {o:HO},HB x=some o->x≠mc:=fun ex y=>by rw[y,hmc]at ex;cases ex
  have vl2:=s2 _ _ vl1
  have vl5:=k5 vl1
  have vlA:=kHA vl5 nk
  have vlB:=sB _ _ vlA
  have nvo:vl≠od:=n2 (by simp) vl2
  have nvr:vl≠r:=n2 (by simp) vl2
  have vl9:=l9 vlB nvc nvo
  have caA:=kA (s7 _ _ c6) nk
  have caB:=sB _ _ caA
  have nhc:ch≠ca:=nca5 ch5
  have noc:od≠ca:=nca5 hB5.ord
  have ca9:=l9 caB nhc.symm noc.symm
  have lAA:=kHA lA5 nk
  have nhl:ch≠lA:=nlA4 (s4' _ _ ch3)
  have nol:od≠lA:=nlA4 hB4.ord
  have nrl:r≠lA:=nlA4 hB4.tab.rows
  have lA9:=l9 (sB _ _ lAA) nhl.symm nol.symm
  have chA:=kHA ch5 nk
  have odA:=kHA hB5.ord nk
  have rA:=kHA hB5.tab.rows nk
  have nhn:ch≠nl:=nnlA chA
  have non':od≠nl:=nnlA odA
  have nl9:=l9 nlB nhn.symm non'.symm
  have r9:H9 r=some (.lst B5.xs):=hB9.tab.rows
  have o9:H9 od=some (.lst ((B5.ord++ [("b":Str)]).map V.str)):=hB9.ord
  refine⟨_,rfl,vl,rfl,⟨_,aM.of vl9⟩,fun la hla=> ?_⟩
  refine uL (K:=K) (a:=vl) (xs:=zs) (fun i ws Hi=>aH H9 Hi/\ws=List.replicate i .non) ⟨aH.new hla,rfl⟩ (fun i ws Hi _ h=>aM.of (h.1 _ _ vl9)) ?_ ?_
  ·rintro i x ws Hi hi hD ⟨si,rfl⟩
   have il:i<zs.length:=by
    rcases Nat.lt_or_ge i zs.length with h|h
    ·exact h
    ·rw[List.getElem?_eq_none h]at hi;cases hi
   exact⟨hD,dJ (by rw[List.length_replicate];omega),si.on hla,by rw[List.replicate_succ']⟩
  rintro ws H10 la10 ⟨s10,rfl⟩
  rw[lz]at la10
  have nla:∀{x:Addr} {o:HO},H9 x=some o->x≠la:=fun ex y=>by rw[y,hla]at ex;cases ex
  let W:cN:=⟨s',ch,bd,gr,nl,fa,ca,mc,vl,la,lA,{B5 with rus:=aU B5.rus (.inr "b":aB) (.ref gr),mes:=aU B5.mes (.inr "b":aB) (.ref mc),ord:=B5.ord++ [("b":Str)]},m⟩
  have ngs:gr≠s':=fun y=>by have:=kHA sS5 nk;rw[<- y,hgr]at this;cases this
  have grn:∀{x:Addr} {o:HO},HA x=some o->gr≠x:=fun ex y=>by rw[<- y,hgr]at ex;cases ex
  have gr9:H9 gr=some (.ins CG dg (iE nl fa)):=u9 _ _ ngs (grn chA) (grn odA) (grn (kHA hB5.rul nk)) (grn (kHA hB5.mem nk)) grB
  have gr10:=s10 _ _ gr9
  have fxl:∀x∈W.fx,∃ys,H10 x=some (.lst ys):=fun x hx=>by
   have hx:x∈ [ch,r,od,lA,nl,ca,vl,la]:=hx
   simp only[List.mem_cons,List.not_mem_nil,or_false]at hx
   rcases hx with y|y|y|y|y|y|y|y<;>rw[y]
   ·exact⟨_,s10 _ _ ch9⟩
   ·exact⟨_,s10 _ _ r9⟩
   ·exact⟨_,s10 _ _ o9⟩
   ·exact⟨_,s10 _ _ lA9⟩
   ·exact⟨_,s10 _ _ nl9⟩
   ·exact⟨_,s10 _ _ ca9⟩
   ·exact⟨_,s10 _ _ vl9⟩
   ·exact⟨_,la10⟩
  have O:iJ W:=by
   refine⟨?_,⟨(nmcB (kB bd5 nk)).symm,(nmcB (show HB e=_ from btB.tab.kept)).symm,(nmcB ruB).symm,(nmcB meB).symm⟩,⟨ss5.r,ss5.o,ss5.e,ss5.u,ss5.m⟩,?_,?_,?_,?_,rfl,m7,rfl,?_,⟨ngs,fun y=> ?_⟩,fun hm=> ?_⟩
   ·show [ch,r,od,lA,nl,ca,vl,la].Nodup
    simp only[List.nodup_cons,List.mem_cons,List.not_mem_nil,or_false,not_or]
    exact⟨⟨ss5.r,ss5.o,nhl,nhn,nhc,nvc.symm,nla ch9⟩,⟨sp3.ro,nrl,nnlA rA,nca5 hB5.tab.rows,nvr.symm,nla r9⟩,⟨nol,non',noc,nvo.symm,nla o9⟩,⟨nnlA lAA,nca5 lA5,(nlA4 (kt4' vl1)).symm,nla lA9⟩,⟨(nnlA caA).symm,(nnlA vlA).symm,nla nl9⟩,⟨(nca5 vl5).symm,nla ca9⟩,nla vl9,not_false,List.nodup_nil⟩
   ·show aF (aU [] (.inr "a":aB) (.ref lA)) (.inr "a":aB)=_
    rw[fD,if_pos rfl]
   ·show aF (aU [] (.inr "b":aB) (.ref gr)) (.inr "b":aB)=_
    rw[fD,if_pos rfl]
   ·show aF (aU [] (.inr "b":aB) (.ref gr)) (.inr "a":aB)=none
    rw[fD,if_neg (by decide+kernel)]
    rfl
   ·show aF (aU [] (.inr "b":aB) (.ref mc)) (.inr "b":aB)=_
    rw[fD,if_pos rfl]
   ·exact grn caA
   ·have y:nl=s':=y
    rw[y,sSB]at nlB
    cases nlB
   ·obtain⟨ys,h⟩:=fxl gr hm
    rw[gr10]at h
    cases h
  have t2A:HA z2.2=some (fU z2.2 []):=sA _ _ n12.symm t2'
  have k10:∀{x:Addr} {o:HO},HB x=some o->(∀a b c,o≠ .ins a b c)->(∀y,o≠ .lst y)->(∀y,o≠ .dK y)->H10 x=some o:=fun{x o} ex n1 n2 n3=>s10 _ _ (u9 _ _ (fun y=>by rw[y,sSB]at ex;exact n1 _ _ _ (Option.some.inj ex).symm) (fun y=>by rw[y,chB]at ex;exact n2 _ (Option.some.inj ex).symm) (fun y=>by have y:x=od:=y;rw[y]at ex;exact n2 _ (Option.some.inj (odB.symm.trans ex)).symm) (fun y=>by have y:x=ru:=y;rw[y]at ex;exact n3 _ (Option.some.inj (ruB.symm.trans ex)).symm) (fun y=>by have y:x=me:=y;rw[y]at ex;exact n3 _ (Option.some.inj (meB.symm.trans ex)).symm) ex)
  have t210:H10 z2.2=some (fU z2.2 []):=k10 (sB _ _ t2A) (fun _ _ _ y=>by cases y) nk nk
  have kt10:bS H1 H10:=fun x xs ex=>k10 (kB (k5 ex) nk) (fun _ _ _ y=>by cases y) nk nk
  have pz10:=pz.keep kt10
  have ca10:=s10 _ _ ca9
  have lds:ds.length=m:=by rw[<- Paired.length pz];exact lz
  have rlx:∀{t c:Str} {R:RD},(aZ P w K mg af CG W fi9 fd9 lk9 zs ds).sx.rl t c=some R->t= "t" /\c= "b" /\R=gL P w K mg af CG W:=fun{t c R} h=>by
   obtain⟨h1,h2⟩:=X1.rl_some (Y:=aZ P w K mg af CG W fi9 fd9 lk9 zs ds) h
   obtain⟨h3,h4⟩:=fX h2
   exact⟨h1,h3,h4⟩
  have S10:SB P w K mg af (jO P w K mg af CG) CF CB CT z2.2 (aZ P w K mg af CG W fi9 fd9 lk9 zs ds).sx [] [] (fun _ _=> []) (fun _=>none) [] [] H10:=by
   refine⟨fun tb htb=> ?_,s10 _ _ fd9',eF.nil,fun t c p v ys _ e=>(by cases e),fun x v _ _ e=>(by cases e),fun x v _ _ e=>(by cases e),fun x _ _ _=>rfl,fun x v _ _ e=>(by cases e),s10 _ _ lk9',eF.nil,fun t c ys' B g h=> ?_,fun t c ys' q x g e=> ?_,fun t c R hR=> ?_,fun t c R hR=> ?_,fun t c R hR b hb=> ?_,fun t c R hR p hp=> ?_,fun x R hx hR=>⟨rfl,fun is v e=>(by cases e)⟩,fun t c R j hR hj=>False.elim hj,⟨fun y=>(by cases y),fun a e=> ?_⟩,fun h=> .nil,fun b hb y=> ?_,⟨[],t210,fun c hc=>by cases hc⟩⟩
   ·rw[List.mem_singleton.mp htb]
    exact⟨⟨df9,s10 _ _ fi9'⟩,⟨_,s10 _ _ bd9,rfl⟩,hB9.same s10,s10 _ _ fd9',by decide⟩
   ·have g1:(aZ P w K mg af CG W fi9 fd9 lk9 zs ds).gv c=some ys':=(X1.gv_some (Y:=aZ P w K mg af CG W fi9 fd9 lk9 zs ds) g).2
    obtain⟨rfl,rfl⟩:=oR g1
    rw[(lG h).2]
    exact⟨lA,O.k1,s10 _ _ lA9⟩
   ·have g1:(aZ P w K mg af CG W fi9 fd9 lk9 zs ds).gv c=some ys':=(X1.gv_some (Y:=aZ P w K mg af CG W fi9 fd9 lk9 zs ds) g).2
    obtain⟨rfl,rfl⟩:=oR g1
    show Pd K H10 x ((aZ P w K mg af CG W fi9 fd9 lk9 ys' ds).v ("t","a",q))
    rw[oC]
    exact(wX pz10 (sC e)).pd
   ·obtain⟨_,_,rfl⟩:=rlx hR
    exact⟨⟨dg,gr10⟩,⟨rfl,rfl⟩,a39 Ce⟩
   ·obtain⟨_,_,rfl⟩:=rlx hR
    exact⟨s10 _ _ mc9,jW.nil⟩
   ·obtain⟨_,_,rfl⟩:=rlx hR
    have hb:b∈ [gr,nl]:=hb
    simp only[List.mem_cons,List.not_mem_nil,or_false]at hb
    rcases hb with y|y<;>rw[y]
    ·exact⟨_,gr10,fun _ y=>(by cases y),fun _ y=>(by cases y),fun _ y=>(by cases y),fun _ y=>(by cases y)⟩
    ·exact⟨_,s10 _ _ nl9,fun _ y=>(by cases y),fun _ y=>(by cases y),fun _ y=>(by cases y),fun _ y=>(by cases y)⟩
   ·obtain⟨rfl,rfl,rfl⟩:=rlx hR
    have et:(aZ P w K mg af CG W fi9 fd9 lk9 zs ds).sx.tree ("t","b",p)=jP "t" ["a"] p:=by
     show(if("b":Str)= "b" then jP "t" ["a"] p else .done (.inl .none))=_
     rw[if_pos rfl]
    rw[et]
    refine a4R gr10 (s10 _ _ nl9) (show 1<=6 by decide) (fun z hz=> ?_)
    rw[List.mem_singleton.mp hz]
    exact⟨rfl,aa,hp.2.2⟩
   ·have e:some ca=some a:=e
    cases e
    exact ca10
   ·obtain⟨ys,h⟩:=fxl b hb
    rw[h]at y
    cases y
  have N:eQ P w K mg af CS CF CB CT CG z2.2 W fi9 fd9 lk9 zs ds [] [] (fun _ _=> []) (fun _=>none) [] [] ([.ref c1] ++ [.ref c5] ++ [.ref c9]) (lw fun _=>none) H10:=by
   refine⟨S10,⟨dS9,s10 _ _ sh9⟩,s10 _ _ ch9,fl9,lz,lds,pz10,fun p is v e=>(by cases e),⟨_,s10 _ _ vl9,pz10⟩,⟨_,la10,List.length_replicate,fun p hp=> ?_⟩⟩
   show(List.replicate m V.non)[p]?=some .non
   exact List.getElem?_replicate_of_lt hp
  let Hz:Hp:=rW H10 (z2.2::W.s::W.mc::W.fx)
  have zs':aH Hz H10:=fun x o ex=>(wV ex).2.2
  have Z:uW Hz W z2.2:=fun x o ex=>⟨(wV ex).1,(wV ex).2.1⟩
  have nfx:∀{x:Addr} {o:HO},H10 x=some o->(∀y,o≠ .lst y)->(∀y,o≠ .dK y)->(∀a b c,o≠ .ins a b c)->x≠z2.2->(∀y,o≠ .dT y)->Hz x=some o:=fun{x o} ex n1 n2 n3 n4 n5=>a3W ex (fun hm=>by
   rcases List.mem_cons.mp hm with y|hm
   ·exact n4 y
   ·rcases List.mem_cons.mp hm with y|hm
    ·have y:x=s':=y
     rw[y,s10 _ _ sh9]at ex
     exact n3 _ _ _ (Option.some.inj ex).symm
    ·rcases List.mem_cons.mp hm with y|hm
     ·have y:x=mc:=y
      rw[y,s10 _ _ mc9]at ex
      exact n2 _ (Option.some.inj ex).symm
     ·obtain⟨ys,h⟩:=fxl x hm
      rw[h]at ex
      exact n1 _ (Option.some.inj ex).symm) n5
  have kzz:cL HA Hz:=fun b u ex=>nfx (k10 (sB _ _ ex) (fun _ _ _ y=>by cases y) nk nk) nk nk (fun _ _ _ y=>by cases y) (fun y=>by rw[y,t2A]at ex;cases ex) nk
  have hsz:aM K Hz a (sc.map V.int):=by
   have na:∀{o:HO},H a=some o->(∀φ,o≠ .ext φ)->(∀y,o≠ .dK y)->(∀y,o≠ .dT y)->Hz a=some o:=fun{o} ex n1 n3 n4=>by
    have x1:=s1 _ _ ex
    have x2:=s2 _ _ x1
    have x5:=k5 x1
    have xA:=kHA x5 n1
    have xB:=sB _ _ xA
    have as:a≠s':=fun y=>by rw[y,hs]at x1;cases x1
    have ac:a≠ch:=fun y=>by rw[y,fr0 ch (by simp)]at x1;cases x1
    have ao:a≠od:=n2 (by simp) x2
    have x9:=u9 _ _ as ac ao (show a≠ru from n2 (by simp) x2) (show a≠me from n2 (by simp) x2) xB
    refine a3W (s10 _ _ x9) (fun hm=> ?_) n4
    have hm:a∈ [z2.2,s',mc,ch,r,od,lA,nl,ca,vl,la]:=hm
    simp only[List.mem_cons,List.not_mem_nil,or_false]at hm
    rcases hm with y|y|y|y|y|y|y|y|y|y|y
    ·rw[y,t2]at ex
     exact n1 _ (Option.some.inj ex).symm
    ·exact as y
    ·exact nmcB xB y
    ·exact ac y
    ·exact n2 (by simp) x2 y
    ·exact ao y
    ·exact nlA4 (kt4' x1) y
    ·exact nnlA xA y
    ·exact nca5 x5 y
    ·rw[y,hvl]at ex
     cases ex
    ·exact nla x9 y
   rcases hS with(ex|⟨q,ex⟩)|h
   ·exact .inl (.inl (na ex nk nk nk))
   ·exact .inl (.inr ⟨q,na ex nk nk nk⟩)
   ·exact .inr h
  have hz1:∃S,Hz z1.2=some (fU z1.2 S):=⟨S1,nfx (k10 (sB _ _ tS1) (fun _ _ _ y=>by cases y) nk nk) nk nk (fun _ _ _ y=>by cases y) n12 nk⟩
  exact qE H10 Hz W a sc none none O Z zs' ⟨fi9,fd9,lk9,zs,ds,[],[],_,_,[],[],_,N,(show 3<=10 by decide),(show 0<=7 by decide)⟩ hsz hl hz1 (fun σ HB' fl Ln h3 sz=>by
   have la':=mE (cL.of sz) (mE kzz lA')
   refine a6o (k:=2) (by decide) Ln.free la' ?_
   refine xU (sc:=aO kL) (N:=qG) (ps:=["_law_some"]) (cp:=[(3,"_law_calls")]) (cv:=[.ref ca]) (k:=1) (spB:=a2M K ca iZ ok31) la' Ln hcl (by simp only[List.map_cons,List.map_nil];rw[h3]) (fun _ _ _ _ us hl=>fL (fun _=>rfl) us hl) (fun cd A' outer' s'' H' vs Q' hr' h'=> ?_)
   obtain⟨l,is,cs,rfl,hl,hca',c9',⟨n,rfl,_⟩,ncl,q'⟩:=h'
   exact⟨_,bQ G_noted hr' aR (aA (pv 1) (aA (pv 0) aG)),_,rfl,_,rfl,ca,l,[n],cs,rfl,hl,hca',c9',⟨n,rfl⟩,ncl,q'⟩)
end
theorem walk{l:W.OpenLaw}{q:Program}{loose:List Str}{XP:(Str->Option Value)->Heap->Prop}{YP:World->Heap->Prop}{d:DefRec}{K:Params->Fg}(hn:l.most=some 63)(hdf:d.params.defaults= [])(hdn:d.name= "law")
 (hY:∀(w:World) (h:Heap),YP w h->(K w.params).In h)
 (recs:((PyProof.Rows.recsOf q).find? (fun e=>e.name==("law":Str))).isSome=true)
 (F:∀(w:World) (mg:Str->Option Value) (h:Heap),YP w h->(K w.params).In h->h.Ns mainGlobals mg->bF (K w.params) mg/\True/\Tbs h (K w.params) mg):
 W.WalkO q loose XP YP l.row.toRowW d [] (fun f vs=>PySem.call f vs):=
 L2.a5y (n:=63) (k:=18) (x:= "_law_script") (CX:=fun _=>aE) (sp:=fun w tabs=>zX (K w.params) tabs) hn (by decide) hdf ⟨rfl,by decide,by decide⟩ hY
  (fun w mg fa h Yy KX G hmg=>by
   obtain⟨T,TD,TB⟩:=F w mg h Yy KX G
   obtain⟨z_law,z_Finder_gathered,B_law,B_Finder_gathered,ne_law_Finder_gathered,te_Finder_gathered⟩:=TB.bs
   obtain⟨f,fd,F4,hm,hcd⟩:=B_law.ex
   rw[hdn]at hmg
   have e:=hmg.symm.trans hm
   cases e
   have r_law:=recs
   refine⟨T.notabs,[z_law,z_Finder_gathered],fun z hz=> ?_,fd,fun s u=> ?_,fun af kb nb mk=> ?_⟩
   ·simp only[List.mem_cons,List.not_mem_nil,or_false]at hz
    rcases hz with rfl|rfl
    ·exact .inl ⟨⟨_,r_law,B_law.tab⟩⟩
    ·exact .inr ⟨B_Finder_gathered.hd,te_Finder_gathered⟩
   ·obtain⟨oc,od,kV,doc,pm,an,ah,ct,osl,rfl,_⟩:=F4.ex
    exact .of_eq rfl
   ·exact a59 T B_law (mk _ (by simp)) B_Finder_gathered (mk _ (by simp)) ne_law_Finder_gathered F4 hcd)
  (fun _ _ _ a ns hl hT hS=>⟨a,ns,rfl,hS,hl,hT,fun _ hT'=>⟨rfl,hT'⟩⟩) fun _ _ _ _ _ z=>z
end My
namespace PySem.W.Fast
abbrev Z:=Nat
def tw5021719950884123745:=Z
def tw3039792574852466782:=Z
def tw15040811003566386680:=Z
def tw3585993222030298590:=Z
def tw14339689760385409170:=Z
def tw1317755075780550908:=Z
def tw1937615384836820157:=Z
def tw5916665302461534331:=Z
def tw14046710712146684568:=Z
def tw7162486851127277292:=Z
def tw16767736827273384001:=Z
def tw8473417993727195675:=Z
def tw16468612269866335496:=Z
def tw109194405898046544:=Z
def tw17948769199458836256:=Z
def tw17033626155913079437:=Z
def tw4640164512184131583:=Z
def tw6503483723198416047:=Z
def tw4004774751668511263:=Z
def tw15318790726752860060:=Z
def tw992918041521428864:=Z
def tw5411529431542762444:=Z
def tw13832471883033936669:=Z
def tw14154162789035806058:=Z
def tw7185808561826543466:=Z
def tw1286170697471535268:=Z
def tw3845676698931507341:=Z
def tw18442923797146078489:=Z
def tw374366690009155471:=Z
def tw15780980962532962244:=Z
def tw10538784055117970683:=Z
def tw17514444207338347958:=Z
def tw305764680428431541:=Z
def tw5363285963102992289:=Z
def tw17144448205968788005:=Z
def tw12046693981300738502:=Z
def tw2521196677151477391:=Z
def tw1566384931099317826:=Z
def tw15640185253800166431:=Z
def tw12963175718274137326:=Z
def tw7525081204949617001:=Z
def tw210114443918235692:=Z
def tw12652781192184180784:=Z
def tw13566917171566920281:=Z
def tw4663607561751961623:=Z
def tw8548525743389531706:=Z
def tw11873280702375225084:=Z
def tw15217683357705389305:=Z
def tw3710300626676212399:=Z
def tw17142321584406169219:=Z
def tw11256314024344521120:=Z
def tw14117038174419885809:=Z
def tw15443632493389120451:=Z
def tw8526992929768409711:=Z
def tw749764124049331493:=Z
def tw12258717735019387055:=Z
def tw5855137464121698960:=Z
def tw2482435108276068324:=Z
def tw13560783579852097498:=Z
def tw3417778705299497163:=Z
def tw6772920680938978182:=Z
def tw9779986638111877659:=Z
def tw9098594996497673673:=Z
def tw738752246297495226:=Z
def tw11181834953652172628:=Z
def tw11204182419558023449:=Z
def tw17296846152665860989:=Z
def tw8241420609424975490:=Z
def tw17722769330659335789:=Z
def tw3738316464263141167:=Z
def tw10181685129944935059:=Z
def tw2864062413023029761:=Z
def tw14561456885031148378:=Z
def tw6059972030461980130:=Z
def tw14342545075766696695:=Z
def tw3152909396510551464:=Z
def tw6304339469124643167:=Z
def tw15367059232213214763:=Z
def tw9192376484590445865:=Z
def tw11892074536798271450:=Z
def tw326221923202711217:=Z
def tw12840122818847263617:=Z
def tw14985391205980033411:=Z
def tw15175109849450319243:=Z
def tw5358432814412265817:=Z
def tw16292938042345951973:=Z
def tw4568808493547257790:=Z
def tw8523703167444570000:=Z
def tw1175775076152501462:=Z
def tw11757255118238558274:=Z
def tw14969001272036693298:=Z
def tw8220734066870829312:=Z
def tw17401274053760595703:=Z
def tw5827734355125119760:=Z
def tw1185635042760886772:=Z
def tw2697287208124512289:=Z
def tw15883825097027273174:=Z
def tw9058703680004634783:=Z
def tw9607755858516092604:=Z
def tw9832383913352523348:=Z
def tw12063397443407734241:=Z
def tw2816502148994384558:=Z
def tw7891157037151392510:=Z
def tw4899321712565159046:=Z
def tw10218336799241181054:=Z
def tw5048101852416439280:=Z
def tw10382577082727000409:=Z
def tw3317563258463262335:=Z
def tw16658339595607121184:=Z
def tw11528051738644276736:=Z
def tw9284525000408127986:=Z
def tw2884656616925634065:=Z
def tw3920949018906864708:=Z
def tw3706653187217827400:=Z
def tw7644051411009635379:=Z
def tw8519230790377162414:=Z
def tw12721216690820142486:=Z
def tw16619318863771004853:=Z
def tw1167255154226181849:=Z
def tw13959610602749219275:=Z
def tw9845269694841161703:=Z
def tw11728818174880617119:=Z
def tw196704714006454890:=Z
def tw5934615827856455134:=Z
def tw15885688365849334511:=Z
def tw12398383899592612193:=Z
def tw4409822529490463604:=Z
def tw1451400091329424836:=Z
def tw18381966800680484740:=Z
def tw18098648686621335301:=Z
def tw7561725491737277940:=Z
def tw13792854529572155565:=Z
def tw11798028821027760086:=Z
def tw9255956902649498880:=Z
def tw7523708708807353671:=Z
def tw10472646847521964096:=Z
def tw3051344162871322663:=Z
def tw10816538912196459894:=Z
def tw806242360481418569:=Z
def tw2476602217922760155:=Z
def tw5148373596280613535:=Z
def tw2668548073038844486:=Z
def tw1123227794613342423:=Z
def tw17605098857331085176:=Z
def tw9575491938841467825:=Z
def tw5328361369519313040:=Z
def tw8699303239402894798:=Z
def tw14647051078867073465:=Z
def tw11916249706954411561:=Z
def tw3313587152144037952:=Z
def tw14305371473346754336:=Z
def tw17632719521702746666:=Z
def tw4603702664571842434:=Z
def tw574653659900763947:=Z
def tw1441239508657988808:=Z
def tw12323401132108922063:=Z
def tw17208271588902098858:=Z
def tw13747793212283857550:=Z
def tw17218913827901734261:=Z
def tw14166060634190919211:=Z
def tw10779839284751718334:=Z
def tw8120282904621667429:=Z
def tw12265961250394595036:=Z
def tw16600085833930192344:=Z
def tw12790711594185854189:=Z
def tw11314122648510129490:=Z
def tw4714031021515774233:=Z
def tw1762534903846737477:=Z
def tw16985218828242830017:=Z
def tw7787774991007377784:=Z
def tw165491300262919586:=Z
def tw2321959922315390649:=Z
def tw10905008349207594431:=Z
def tw4534061648717537916:=Z
def tw7415781635938905263:=Z
def tw12530280328342565505:=Z
def tw3198441351723256340:=Z
def tw15363369375151452026:=Z
def tw6038411366151683175:=Z
def tw3749192346047052967:=Z
def tw3653151660667924451:=Z
def tw9317930182604559118:=Z
def tw15197710122458160685:=Z
def tw12003570418644610883:=Z
def tw5933559810160730166:=Z
def tw3960719084508750551:=Z
def tw12194221832262299461:=Z
def tw4212559404589036208:=Z
def tw17478586336875245065:=Z
def tw16884709172769234596:=Z
def tw11304923027994275079:=Z
def tw15224048624918816570:=Z
def tw9317529346474000830:=Z
def tw6501300185682459940:=Z
def tw17220037625927047841:=Z
def tw878515180343246693:=Z
def tw10587136417678570191:=Z
def tw13792981228070512609:=Z
def tw15310453839772966507:=Z
def tw5916753891665148277:=Z
def tw13336201304439243522:=Z
def tw12474116266589557447:=Z
def tw11406341012213795902:=Z
def tw15097096324047025743:=Z
def tw5054716367781207562:=Z
def tw15701493441787985091:=Z
def tw4927006920160294811:=Z
def tw7098280168602329903:=Z
def tw10051577060538054462:=Z
def tw14320726692408238401:=Z
def tw1144814562255690404:=Z
def tw1172507787780497082:=Z
def tw12719691301182998107:=Z
def tw1180427890963744027:=Z
def tw2888773698109694296:=Z
def tw4405637837354375862:=Z
def tw8388722828835005641:=Z
def tw3643473429931243711:=Z
def tw17401351902684325039:=Z
def tw14197198251399518456:=Z
def tw12609297232460723670:=Z
def tw4902407825108856644:=Z
def tw14924344181613617767:=Z
def tw8254037222223433299:=Z
def tw2868325301237985868:=Z
def tw9552105855338987072:=Z
def tw12383543332744515744:=Z
def tw354691378684186265:=Z
def tw6470554252299189923:=Z
def tw5159106921590967493:=Z
def tw16724218613902064540:=Z
def tw3938044600207621714:=Z
def tw8055879468941136026:=Z
def tw5058556884488242314:=Z
def tw564488567565526928:=Z
def tw9350898933338628100:=Z
def tw17014361652421522486:=Z
def tw14082358215257954015:=Z
def tw1564292016447866706:=Z
def tw7487567484942067992:=Z
def tw11935172886562152038:=Z
def tw16849161261311984827:=Z
def tw18357516173118797270:=Z
def tw17592527033535834898:=Z
def tw10381508621021395833:=Z
def tw14569015199318480076:=Z
def tw3960996316845891494:=Z
def tw3828194997970118163:=Z
def tw18300430595903512673:=Z
def tw4795020381792644155:=Z
def tw11841311110027005380:=Z
def tw14076279969284625370:=Z
def tw3277367382062937254:=Z
def tw2618538064184324358:=Z
def tw1945354660403544396:=Z
def tw969174444460457835:=Z
def tw2557665194851557423:=Z
def tw18230474839375694610:=Z
def tw10428099068355008700:=Z
def tw11138651169553172077:=Z
def tw393442495340999995:=Z
def tw1613519352525121751:=Z
def tw17852640987568089589:=Z
def tw795825135628981415:=Z
def tw12357998666076594007:=Z
def tw17762132465551492620:=Z
def tw13178390259913181109:=Z
def tw17411821505099783291:=Z
def tw239106370726605667:=Z
def tw1882822371652386250:=Z
def tw1280757689019533874:=Z
def tw13160187057968216464:=Z
def tw10623430692200009182:=Z
def tw4023706154503107025:=Z
def tw14217991628268973138:=Z
def tw5470915583619673107:=Z
def tw836804057126026340:=Z
def tw13352503581883637352:=Z
def tw12368988634504105714:=Z
def tw1838017608905356558:=Z
def tw880195378957575835:=Z
def tw13814355044380988337:=Z
def tw6510618466319758553:=Z
def tw15125358936896558692:=Z
def tw13068477993084593768:=Z
def tw15299587316599989687:=Z
def tw2535055136372842632:=Z
def tw14190693715289897854:=Z
def tw4278362749536035981:=Z
def tw17968006812716030428:=Z
def tw8345475505772574852:=Z
def tw7740410730659174210:=Z
def tw4318020769022674980:=Z
def tw6180809887909608839:=Z
def tw14361462591108744588:=Z
def tw7039628652149767113:=Z
def tw17843003293968554712:=Z
def tw7669993407748614051:=Z
def tw3805954438362118966:=Z
def tw2296031720094173031:=Z
def tw10232547122868943907:=Z
def tw6507375569483602884:=Z
def tw8205407474424928749:=Z
def tw13274583157474576306:=Z
def tw12873916338916859057:=Z
def tw16553331592470024915:=Z
def tw17793849968939560087:=Z
def tw13785145126704623609:=Z
def tw15218966285397859542:=Z
def tw16265908350647392215:=Z
def tw4054769435431083134:=Z
def tw6175351356924177013:=Z
def tw7635066968979745905:=Z
def tw15237226119731712265:=Z
def tw2238142831963159587:=Z
def tw2601436251156925785:=Z
def tw5278070020770750540:=Z
def tw13151965464306898958:=Z
def tw10505244742375843060:=Z
def tw13796862792814383016:=Z
def tw550449780794392116:=Z
def tw12210146832793209450:=Z
def tw11959125018118446552:=Z
def tw11061875156099955075:=Z
def tw10818683656227880730:=Z
def tw4841633119341519561:=Z
def tw483130583383259438:=Z
def tw10981074282630166710:=Z
def tw16708011012028309751:=Z
def tw9868643388736970565:=Z
def tw9434379586491330068:=Z
def tw7041763531874223344:=Z
def tw12346347358286490852:=Z
def tw10867610671188237128:=Z
def tw2357873726040541578:=Z
def tw17226213316380322464:=Z
def tw17510955048788437489:=Z
def tw1362676953631691169:=Z
def tw2841073706691784184:=Z
def tw10077379445923864202:=Z
def tw17736951287892907955:=Z
def tw16073130293017282373:=Z
def tw13623218733182714973:=Z
def tw10777383074455943614:=Z
def tw9176692977470117839:=Z
def tw16270503405538243801:=Z
def tw499915486038159083:=Z
def tw10969141662963175639:=Z
def tw5773368548088322193:=Z
def tw8067226825412829022:=Z
def tw4017599151038158564:=Z
def tw11794053959666361237:=Z
def tw15825127938226160985:=Z
def tw3075295240829464353:=Z
def tw12200775377922787176:=Z
def tw10160325814859731977:=Z
def tw12842291007314152328:=Z
def tw3729795756095645939:=Z
def tw16150039041966918717:=Z
def tw867012286700406726:=Z
def tw581572176627029953:=Z
def tw7156297520549607482:=Z
def tw14158852151937368261:=Z
def tw4870585735559666129:=Z
def tw8660970134587370509:=Z
def tw7934164755987248010:=Z
def tw7216930780385422007:=Z
def tw10027150827822626846:=Z
def tw3405664294244773409:=Z
def tw12279633928391609338:=Z
def tw1652761456421743979:=Z
def tw3818331708351613779:=Z
def tw17192283865094116378:=Z
def tw15473832976626311077:=Z
def tw4967388948674553328:=Z
def tw15083479109120501076:=Z
def tw17940345412907232538:=Z
def tw9548327524897794581:=Z
def tw744396648261273639:=Z
def tw1348234360499663263:=Z
def tw7857498590446386101:=Z
def tw8473747128284445427:=Z
def tw75537664434796215:=Z
def tw5860490178319820732:=Z
def tw9957195871240714714:=Z
def tw14941500676666187057:=Z
def tw9633191691362818974:=Z
def tw5769294157448258270:=Z
def tw7492532041866274507:=Z
def tw11802284679413831574:=Z
def tw3098516444594927405:=Z
def tw15866477965219644858:=Z
def tw9293278767244835174:=Z
def tw14458064676961029544:=Z
def tw13481701539594202949:=Z
def tw15303030518033250415:=Z
def tw15035424272775106757:=Z
def tw442245028187014302:=Z
def tw13682380626339192822:=Z
def tw6729539279231807993:=Z
def tw10849172205217003849:=Z
def tw6398542421507138520:=Z
def tw7004907150194169837:=Z
def tw9203927890011414628:=Z
def tw10138729349295924326:=Z
def tw10702064996935407048:=Z
def tw5708545138680414067:=Z
def tw3049111615251328423:=Z
def tw15120322149623236832:=Z
def tw11737102756474031273:=Z
def tw7932632990102496268:=Z
def tw497259025824795536:=Z
def tw15277368341474695456:=Z
def tw9640600558280074981:=Z
def tw14184733375944248713:=Z
def tw16530279193368883397:=Z
def tw10616546135202865744:=Z
def tw4573969239897998508:=Z
def tw5652054728932729330:=Z
def tw16242417588028508292:=Z
def tw7826710833850419205:=Z
def tw2197067646126485521:=Z
def tw13368529961154670332:=Z
def tw17265983435172747840:=Z
def tw13856083250390402728:=Z
def tw12914610716713799746:=Z
def tw3556779048065729572:=Z
def tw8395739000860484262:=Z
def tw5972885883461147170:=Z
def tw2031481472877244518:=Z
def tw14043339144500431326:=Z
def tw10652603375693873175:=Z
def tw8133121494906636772:=Z
def tw1876441699566894839:=Z
def tw1988446763965552217:=Z
def tw9516742715442253766:=Z
def tw11185104454197523677:=Z
def tw12914066947984030204:=Z
def tw2084623753990875265:=Z
def tw13737980468002414847:=Z
def tw13445876691250718049:=Z
def tw7390240660492416829:=Z
def tw12955271204480261060:=Z
def tw6789460340967738342:=Z
def tw2096649253725302263:=Z
def tw17990041500202086252:=Z
def tw9320343799680095149:=Z
def tw5310178848567242543:=Z
def tw11254041303042487257:=Z
def tw3896546356807086411:=Z
def tw2626228158959347709:=Z
def tw2516881053721077119:=Z
def tw5025612527258968198:=Z
def tw17169652307909393337:=Z
def tw7593483831859359705:=Z
def tw10834429972968956693:=Z
def tw3994109236249035746:=Z
def tw14572270799711831590:=Z
def tw3575926631211201160:=Z
def tw17215779365613319767:=Z
def tw2851698025493699839:=Z
def tw13526970814313789604:=Z
def tw9271687325286652822:=Z
def tw7655888626039960269:=Z
def tw17655317300788383574:=Z
def tw15089867683272834900:=Z
def tw11294054006482160475:=Z
def tw2816233192560083353:=Z
def tw3909234236990276391:=Z
def tw9988605735821302239:=Z
def tw5958936469108542540:=Z
def tw9598376769299791435:=Z
def tw7055768610094966916:=Z
def tw4493593795314403229:=Z
def tw17675857855080071249:=Z
def tw9713561036096865247:=Z
def tw8459752573232014606:=Z
def tw3109896374820405659:=Z
def tw4936737296479288083:=Z
def tw12769010109695651408:=Z
def tw15177075718033892179:=Z
def tw15510730291257216530:=Z
def tw7107426095329695524:=Z
def tw8236831488731471279:=Z
def tw14885548535339335093:=Z
def tw18031379489146943269:=Z
def tw15367656899058984699:=Z
def tw8726445349439107296:=Z
def tw9913522299711228140:=Z
def tw141892395641854070:=Z
def tw5976744960359966841:=Z
def tw16035040370470281433:=Z
def tw13085171852018980776:=Z
def tw9924668324380215057:=Z
def tw1941793934617127342:=Z
def tw13550543474824263461:=Z
def tw1639283103362775696:=Z
def tw16123974434402326458:=Z
def tw11417750617803608621:=Z
def tw319972769798927563:=Z
def tw3216114298616978191:=Z
def tw17940783103458841874:=Z
def tw1055837485591080848:=Z
def tw17852559184627230252:=Z
def tw16444830408247738996:=Z
def tw12345301044630091567:=Z
def tw10586671073071800580:=Z
def tw15281726645486980558:=Z
def tw2060001792293116637:=Z
def tw9912982739018994307:=Z
def tw16021387540118993391:=Z
def tw1090616295734786948:=Z
def tw8727558928311346991:=Z
def tw3595904816782617793:=Z
def tw8368368651895038636:=Z
def tw7533679678543392601:=Z
def tw8181179499466794550:=Z
def tw13759518183911670634:=Z
def tw12766575579075369093:=Z
def tw8046273712619591712:=Z
def tw16867749397145603369:=Z
def tw14132899011627922984:=Z
def tw6941895073014224460:=Z
def tw1418436182599428388:=Z
def tw5763888063933982457:=Z
def tw171647410434447136:=Z
def tw5161777068168200066:=Z
def tw13593175228921296450:=Z
def tw2638356688979440413:=Z
def tw16819249759405516991:=Z
def tw17073251376590620636:=Z
def tw9356904440467021531:=Z
def tw10156586119244704761:=Z
def tw7269239833796926686:=Z
def tw16076156555478540394:=Z
def tw4803836309794092927:=Z
def tw9538829773280412537:=Z
def tw11035071559952446442:=Z
def tw1060561026973584561:=Z
def tw9030220186605985244:=Z
def tw6786566467695761884:=Z
def tw5823714050490641194:=Z
def tw13042959020775461903:=Z
def tw2379454541671300657:=Z
def tw7272962630832363125:=Z
def tw15176736897113181093:=Z
def tw14307211677618057640:=Z
def tw3747559599108303227:=Z
def tw10084325681480606533:=Z
def tw10074237687382522059:=Z
def tw10914343270626116044:=Z
def tw877140569198200510:=Z
def tw8149531023435534212:=Z
def tw15992604656063542779:=Z
def tw15454286296035308952:=Z
def tw8663843658822614015:=Z
def tw2914353580994310827:=Z
def tw3895771504046267301:=Z
def tw8144996803364556849:=Z
def tw17917264420036869276:=Z
def tw9229258974164773130:=Z
def tw11210123506097170079:=Z
def tw13829506178505809116:=Z
def tw14036485289723843260:=Z
def tw16821649745526034472:=Z
def tw9678349378044496688:=Z
def tw4430410214195113613:=Z
def tw16166846243783051235:=Z
def tw14857911316956939631:=Z
def tw3258117804703106006:=Z
def tw5376975727155316413:=Z
def tw16229981679038324712:=Z
def tw11335408264510445027:=Z
def tw8429513186211574830:=Z
def tw15372958248940149568:=Z
def tw16030637231155478282:=Z
def tw7386795870331458448:=Z
def tw12093951594051446204:=Z
def tw12430336184745142827:=Z
def tw17230648742922440621:=Z
def tw360936428987276056:=Z
def tw9518306432567082360:=Z
def tw12884240399567884175:=Z
def tw4389936889249810166:=Z
def tw12490909691450719021:=Z
def tw15651864634867103350:=Z
def tw7755440862519504091:=Z
def tw12944430215031189257:=Z
def tw7854868901916202185:=Z
def tw13970492619424783418:=Z
def tw2142895009789509395:=Z
def tw15700812720925745552:=Z
def tw1546442061602854662:=Z
def tw9572899123452211110:=Z
def tw1624386533200847176:=Z
def tw12565992052807654639:=Z
def tw16890389694456540634:=Z
def tw5779896280950101778:=Z
def tw17441935075375524901:=Z
def tw4893719988633522370:=Z
def tw17199625903628037859:=Z
def tw17511997761781514112:=Z
def tw10201618200351868101:=Z
def tw10891450995991144896:=Z
def tw13458151082479827365:=Z
def tw13528872806011850736:=Z
def tw13722374332310287694:=Z
def tw17005651408063415940:=Z
def tw9386852633006624223:=Z
def tw10525973894973069110:=Z
def tw12224429164360732062:=Z
def tw11738217193718048859:=Z
def tw9266604076836202280:=Z
def tw17458363827941069139:=Z
def tw13963799272466032743:=Z
def tw9004538430454185880:=Z
def tw15092315960317838839:=Z
def tw7940348703495854983:=Z
def tw9845740525948491247:=Z
def tw7444941828327181181:=Z
def tw11490843715520738799:=Z
def tw14215400966604551425:=Z
def tw17454612083446148476:=Z
def tw14721595670881001211:=Z
def tw10431617762133981664:=Z
def tw15257023902327653604:=Z
def tw14712677177199079897:=Z
def tw11764833765476574718:=Z
def tw4133197346827349340:=Z
def tw4290171989739866199:=Z
def tw8776059896758300815:=Z
def tw7334531822476619121:=Z
def tw2023486591442536818:=Z
def tw9073147816086842603:=Z
def tw10219346447031519157:=Z
def tw117652719544058419:=Z
def tw11610942115470464092:=Z
def tw5975792670437982593:=Z
def tw4480927653769428138:=Z
def tw2538919485019677934:=Z
def tw6335342386726131056:=Z
def tw2220677857277391033:=Z
def tw9704267840847747311:=Z
def tw2218725383748731442:=Z
def tw15367124161102348505:=Z
def tw12587140134087817200:=Z
def tw17537940704649027811:=Z
def tw4399947888114528864:=Z
def tw16350505330877889882:=Z
def tw6361627868735452289:=Z
def tw16792592281809634792:=Z
def tw12628116806695129942:=Z
def tw16954638918995579152:=Z
def tw16905046279341302948:=Z
def tw9921497876462940095:=Z
def tw4633950306328104935:=Z
def tw16385250804497865967:=Z
def tw10841702981712137622:=Z
def tw12230964605009454262:=Z
def tw17965611412572005816:=Z
def tw14414048518099372100:=Z
def tw3058165273366292573:=Z
def tw1875236634631795231:=Z
def tw15472175193320720786:=Z
def tw13209897981932936945:=Z
def tw2523930938800150325:=Z
def tw5413902988877556679:=Z
def tw18067392428269067954:=Z
def tw4468292471473644276:=Z
def tw8640459229060243611:=Z
def tw10593771615454147030:=Z
def tw4503038024149779284:=Z
def tw10040318993525388773:=Z
def tw9025635353581390258:=Z
def tw10892888571370709887:=Z
def tw15724698132931584411:=Z
def tw9119262501752098998:=Z
def tw3277050579709306988:=Z
def tw1050321331400851161:=Z
def tw9409395547671062302:=Z
def tw9277411640339082913:=Z
def tw12770229488718566111:=Z
def tw7122826700251240473:=Z
def tw4679623751795191636:=Z
def tw9579213137902820063:=Z
def tw10463747273380989460:=Z
def tw16180046264985540029:=Z
def tw18258042053336238035:=Z
def tw9240506045349829535:=Z
def tw14906490514518410190:=Z
def tw11318996070732991219:=Z
def tw8296710110675254649:=Z
def tw16841229599139574736:=Z
def tw18225949987671936941:=Z
def tw8511750262285327658:=Z
def tw13916980396179635256:=Z
def tw7298829535889275131:=Z
def tw5170940444944403508:=Z
def tw6895489254372102535:=Z
def tw8274463205407268760:=Z
def tw13615443697282152974:=Z
def tw6737485340401341112:=Z
def tw17140253190586221080:=Z
def tw4304879698331220653:=Z
def tw7705965975417151948:=Z
def tw17270710639942357719:=Z
def tw9255971509764580532:=Z
def tw6238624949898068884:=Z
def tw166820497383408411:=Z
def tw7787909830725039602:=Z
def tw2830650336855281337:=Z
def tw9409084391696676952:=Z
def tw14782497659227266353:=Z
def tw8035489789392984275:=Z
def tw11358134626356842164:=Z
def tw10931389371718991075:=Z
def tw17143337533121010863:=Z
def tw6430832485901601051:=Z
def tw6314536817578213903:=Z
def tw14191183228496727933:=Z
def tw8789559421382188886:=Z
def tw7940959289429963021:=Z
def tw11070306066856861110:=Z
def tw8165704597862347339:=Z
def tw13360553183653528694:=Z
def tw12778748780847253486:=Z
def tw13472748982369836677:=Z
def tw10570024654801104070:=Z
def tw1083190181163250435:=Z
def tw13273077538512342927:=Z
def tw5527821283896208196:=Z
def tw15284929826305414157:=Z
def tw14679660979864446261:=Z
def tw6503352138261197044:=Z
def tw10801791656815610730:=Z
def tw11557809237258034530:=Z
def tw10641258098380075639:=Z
def tw17390026168977413306:=Z
def tw16140226769207199331:=Z
def tw2114719633998889792:=Z
def tw810289045232002640:=Z
def tw42950738681052701:=Z
def tw16115222444784193382:=Z
def tw7958637746594937446:=Z
def tw17062068464153662843:=Z
def tw3887349002024254627:=Z
def tw293037457287456181:=Z
def tw13817735230415536785:=Z
def tw838211395698485865:=Z
def tw8906352922482159090:=Z
def tw10174010173849485947:=Z
def tw13708828160774898161:=Z
def tw5477095708180117977:=Z
def tw12795147707865894813:=Z
def tw3679818410218478746:=Z
def tw2875211883744009281:=Z
def tw2112787781018972265:=Z
def tw11156770752885115218:=Z
def tw16689347229922061258:=Z
def tw9005912177602868454:=Z
def tw3038874042050365514:=Z
def tw5695933696610657326:=Z
def tw16711857645963441858:=Z
def tw6085530639056612594:=Z
def tw3780633174823935433:=Z
def tw2824538429913520579:=Z
def tw2248204930418026618:=Z
def tw11252763797676509566:=Z
def tw12619027621859042418:=Z
def tw5148719352941599275:=Z
def tw6720367200208907881:=Z
def tw263171060065202745:=Z
def tw15473258944218533465:=Z
def tw13783896679470181573:=Z
def tw2320597442915033806:=Z
def tw6520246140192981179:=Z
def tw13464359691045246429:=Z
def tw8640214459638465623:=Z
def tw2178358579573203188:=Z
def tw13512610375931092266:=Z
def tw14275629799891302027:=Z
def tw6913279334832359489:=Z
def tw11107048051363031133:=Z
def tw12908378190261065702:=Z
def tw10642797425329549305:=Z
def tw3056037710384194330:=Z
def tw5024734856335846157:=Z
def tw11786448378903897955:=Z
def tw1183134492541356206:=Z
def tw4544162746995088341:=Z
def tw12980565034871182307:=Z
def tw691517922486630450:=Z
def tw6091434090948111898:=Z
def tw7660026945748872738:=Z
def tw17415478464387975775:=Z
def tw458631574059746124:=Z
def tw13512126606400192511:=Z
def tw9945763447625990847:=Z
def tw8120736823653847971:=Z
def tw9620439331709655371:=Z
def tw4779729997406141908:=Z
def tw18425783801399906334:=Z
def tw13426832811700509382:=Z
def tw3321677455674294060:=Z
def tw7074718168419154731:=Z
def tw5811549868466693475:=Z
def tw77214649581936377:=Z
def tw3574016776920057497:=Z
def tw2094750193216022808:=Z
def tw5545763152940643267:=Z
def tw16554629672631649895:=Z
def tw17813182291734467012:=Z
def tw152100227568963683:=Z
def tw16957800529582570311:=Z
def tw17587042933219530233:=Z
def tw5524051097606317774:=Z
def tw15175741886356304337:=Z
def tw5220176750299093917:=Z
def tw6290041855018240418:=Z
def tw4476794427003939080:=Z
def tw9607871337446657926:=Z
def tw4453139150161675841:=Z
def tw2459102554971674909:=Z
def tw16180208602794941470:=Z
def tw13196110919255083848:=Z
def tw12652665111833133239:=Z
def tw17122150972343221605:=Z
def tw15473182650659844799:=Z
def tw8884950401152403402:=Z
def tw14561672642594133830:=Z
def tw4959999407899105062:=Z
def tw2486523976297360421:=Z
def tw10884650732881326214:=Z
def tw5085896246814370835:=Z
def tw13131442801163180594:=Z
def tw14647323909230391362:=Z
def tw3467345942541034592:=Z
def tw15145459863894735159:=Z
def tw2371732301129914143:=Z
def tw14848943041309700986:=Z
def tw8284677788111979545:=Z
def tw743076789213351634:=Z
def tw9812199133858190522:=Z
def tw11142694235053987548:=Z
def tw3287598461702337438:=Z
def tw14039892424497196166:=Z
def tw9546802979135598580:=Z
def tw8657420292861720944:=Z
def tw2679953245875581192:=Z
def tw6853776004277601769:=Z
def tw6151236348378420911:=Z
def tw16253068060256775946:=Z
def tw5344712490449742023:=Z
def tw10993881398594769308:=Z
def tw13048371854629661947:=Z
def tw12863056001148355552:=Z
def tw10916668787446877055:=Z
def tw8059928785794204829:=Z
def tw16792134400645909060:=Z
def tw3092381781735272042:=Z
def tw11581120116444379867:=Z
def tw14249910140418673360:=Z
def tw1076659488126781229:=Z
def tw1603876956490684567:=Z
def tw17418771954790934875:=Z
def tw12487325376697497554:=Z
def tw3428691629019304152:=Z
def tw10820811171614813475:=Z
def tw3548939142515144944:=Z
def tw17762717165829501641:=Z
def tw743788409071711779:=Z
def tw7918927506350210143:=Z
def tw17015353919314242370:=Z
def tw16368762601286854178:=Z
def tw13832242717014434511:=Z
def tw5233188055175767399:=Z
def tw1368376112145691056:=Z
def tw10509334777650048426:=Z
def tw7642386471674463200:=Z
def tw2170991737015809439:=Z
def tw7104416143412305373:=Z
def tw8660190859564454740:=Z
def tw3867280139519702787:=Z
def tw9082106629085649939:=Z
def tw10281696634163245140:=Z
def tw7768860263525703989:=Z
def tw4885646801433973382:=Z
def tw7802962016608396651:=Z
def tw2593520828723059924:=Z
def tw17835921529304064358:=Z
def tw15108554934366369479:=Z
def tw15237455210575523945:=Z
def tw3428769079364238186:=Z
def tw17570728623415611441:=Z
def tw8112169920077718770:=Z
def tw123275533521231220:=Z
def tw13064218117241457534:=Z
def tw14696095156717282703:=Z
def tw5358396787143358668:=Z
def tw2562191514902433502:=Z
def tw3168981225227462606:=Z
def tw17117998475923102520:=Z
def tw7958705263890824806:=Z
def tw15107863821414682512:=Z
def tw6702588057230653497:=Z
def tw9884446616123998824:=Z
def tw10764153917119937001:=Z
def tw2308528114257254135:=Z
def tw17862074949115998781:=Z
def tw11543025988523819093:=Z
def tw9127284083558067124:=Z
def tw18324823737455889513:=Z
def tw10243364959335940366:=Z
def tw13560392804007592581:=Z
def tw18320832691072372322:=Z
def tw3919882263745084024:=Z
def tw1493914931899684759:=Z
def tw3033168568863377010:=Z
def tw17124083339115844679:=Z
def tw3772785887640990439:=Z
def tw11405852737130639929:=Z
def tw13477225170451459800:=Z
def tw8256734712823144203:=Z
def tw9443878803890290796:=Z
def tw15725177922698229603:=Z
def tw14630079108201922154:=Z
def tw16549010086990206107:=Z
def tw1770075098818571913:=Z
def tw7984439159825137309:=Z
def tw4408823491116143914:=Z
def tw6664168599989738678:=Z
def tw444890797151034389:=Z
def tw14531453797788843738:=Z
def tw2512270911212356396:=Z
def tw13785967017899950269:=Z
def tw2326180644723197273:=Z
def tw225040878749908445:=Z
def tw4559854772209188747:=Z
def tw11952928787737548215:=Z
def tw4137559606759509242:=Z
def tw16176618540281360825:=Z
def tw12900099403163526230:=Z
def tw6365484645691066920:=Z
def tw2818921763606583289:=Z
def tw1491001819967818775:=Z
def tw6858342019594369992:=Z
def tw17406000770671748064:=Z
def tw10170436702944431270:=Z
def tw10579736686459509533:=Z
def tw1706379258224099567:=Z
def tw3571950115907819360:=Z
def tw9515070139533745703:=Z
def tw1153877715498440008:=Z
def tw16440642468896986180:=Z
def tw6400310873107809891:=Z
def tw17611928890432466201:=Z
def tw14340921578137806174:=Z
def tw13059397123591187642:=Z
def tw9419663193271472453:=Z
def tw5862720188191620512:=Z
def tw17277093928599548464:=Z
def tw8371353127371915741:=Z
def tw2868141405302440036:=Z
def tw11322369450062654724:=Z
def tw4157708808932142772:=Z
def tw12111982130614604879:=Z
def tw7829621484508029900:=Z
def tw10901479217120380297:=Z
def tw1424945438236645737:=Z
def tw7999193381266956163:=Z
def tw8596524258426650427:=Z
def tw14805237106061412150:=Z
def tw13148429643808918478:=Z
def tw3967451772265353297:=Z
def tw1390492898078804820:=Z
def tw1662092747195138954:=Z
def tw10335703020712401533:=Z
def tw14770833576508807997:=Z
def tw2877267200608083015:=Z
def tw14977538959498864203:=Z
def tw16865225314800621668:=Z
def tw14058484131790346560:=Z
def tw8542139194289338457:=Z
def tw16276553243557632582:=Z
def tw7991737284951115808:=Z
def tw1223244788619406103:=Z
def tw1291126891612797031:=Z
def tw4259268136696069078:=Z
def tw576143564043341171:=Z
def tw10956596644284584328:=Z
def tw4174120062426804380:=Z
def tw17401210530999315553:=Z
def tw1210569244395936340:=Z
def tw7598515774568772278:=Z
def tw6316249571543478597:=Z
def tw1110699392958341286:=Z
def tw7063423832608785671:=Z
def tw2902738250199285121:=Z
def tw10798202800017489329:=Z
def tw6558696443159502301:=Z
def tw6491039827103786015:=Z
def tw4345039725851057239:=Z
def tw17843449815652214177:=Z
def tw14179791506738183378:=Z
def tw188862784900997636:=Z
def tw13725778267106895535:=Z
def tw16461851133624856131:=Z
def tw2380307435513288895:=Z
def tw13231254054566674437:=Z
end PySem.W.Fast
open PySem PySem.W PyProof.Rows
set_option maxRecDepth 100000 in
set_option maxHeartbeats 0 in
theorem PySem.Challenge.cw_lazycols_k31_stretches_and_totals_holds : PySem.Challenge.rw_lazycols_k31_stretches_and_totals.Holds := by
 w_on;o_law;k_head;(case hw=>w_witness2)
 k_fill
 refine My.walk (l:=PySem.Challenge.rw_lazycols_k31_stretches_and_totals) rfl rfl rfl (fun w h Y => PySem.W.km_in_of Y) ?R ?F
 case R=>first|exact rfl|decide+kernel
 case F=>
  intro w mg h Y KX G
  refine'⟨⟨PySem.W.mg_none_of KX G ?_,PySem.W.mg_none_of KX G ?_,PySem.W.mg_none_of KX G ?_,PySem.W.mg_none_of KX G ?_,PySem.W.mg_none_of KX G ?_,PySem.W.mg_none_of KX G ?_,PySem.W.mg_none_of KX G ?_,PySem.W.mg_none_of KX G ?_,PySem.W.mg_none_of KX G ?_,PySem.W.mg_none_of KX G ?_,PySem.W.mg_none_of KX G ?_,PySem.W.mg_none_of KX G ?_,PySem.W.mg_none_of KX G ?_,⟨_,PySem.W.mg_of KX G ?_⟩,⟨_,PySem.W.mg_of KX G ?_⟩,L2.a2P KX G ?_ ?_,⟨_,PySem.W.mg_of KX G ?_⟩,⟨_,PySem.W.mg_of KX G ?_⟩,⟨_,PySem.W.mg_of KX G ?_⟩,L2.a2P KX G ?_ ?_,⟨_,PySem.W.mg_of KX G ?_⟩,L2.eM KX G ?_ ?_ ?_ ?_,L2.eM KX G ?_ ?_ ?_ ?_,L2.eM KX G ?_ ?_ ?_ ?_,L2.eM KX G ?_ ?_ ?_ ?_,L2.eM KX G ?_ ?_ ?_ ?_,L2.eM KX G ?_ ?_ ?_ ?_,L2.eM KX G ?_ ?_ ?_ ?_,L2.eM KX G ?_ ?_ ?_ ?_,L2.eM KX G ?_ ?_ ?_ ?_,L2.eM KX G ?_ ?_ ?_ ?_,L2.eM KX G ?_ ?_ ?_ ?_,L2.eM KX G ?_ ?_ ?_ ?_,L2.eM KX G ?_ ?_ ?_ ?_,L2.eM KX G ?_ ?_ ?_ ?_,L2.eM KX G ?_ ?_ ?_ ?_,L2.eM KX G ?_ ?_ ?_ ?_,L2.eM KX G ?_ ?_ ?_ ?_,L2.eM KX G ?_ ?_ ?_ ?_,L2.eM KX G ?_ ?_ ?_ ?_,L2.eM KX G ?_ ?_ ?_ ?_,L2.eM KX G ?_ ?_ ?_ ?_,L2.eM KX G ?_ ?_ ?_ ?_,L2.eM KX G ?_ ?_ ?_ ?_,L2.eM KX G ?_ ?_ ?_ ?_,?_,⟨_,⟨PySem.W.mg_of KX G ?_,⟨?_,?_,?_,?_⟩,?_,?_,?_,(L2.na ?_),(L2.na ?_),(L2.na ?_),L2.bN ?_ ?_ ?_ ?_ ?_,L2.bN ?_ ?_ ?_ ?_ ?_,L2.bN ?_ ?_ ?_ ?_ ?_,L2.bN ?_ ?_ ?_ ?_ ?_,L2.bN ?_ ?_ ?_ ?_ ?_,L2.bN ?_ ?_ ?_ ?_ ?_,L2.bN ?_ ?_ ?_ ?_ ?_,L2.bN ?_ ?_ ?_ ?_ ?_,L2.bN ?_ ?_ ?_ ?_ ?_,L2.bN ?_ ?_ ?_ ?_ ?_⟩⟩,⟨_,⟨PySem.W.mg_of KX G ?_,⟨?_,?_,?_,?_⟩,?_,?_,?_,(L2.na ?_),(L2.na ?_),(L2.na ?_),(L2.na ?_),L2.bN ?_ ?_ ?_ ?_ ?_,L2.bN ?_ ?_ ?_ ?_ ?_,L2.bN ?_ ?_ ?_ ?_ ?_,L2.bN ?_ ?_ ?_ ?_ ?_,L2.bN ?_ ?_ ?_ ?_ ?_,L2.bN ?_ ?_ ?_ ?_ ?_⟩⟩,⟨_,⟨PySem.W.mg_of KX G ?_,⟨?_,?_,?_,?_⟩,?_,?_,?_,(L2.na ?_),(L2.na ?_),(L2.na ?_),L2.bN ?_ ?_ ?_ ?_ ?_,L2.bN ?_ ?_ ?_ ?_ ?_⟩⟩,⟨_,⟨PySem.W.mg_of KX G ?_,⟨?_,?_,?_,?_⟩,?_,?_,?_,(L2.na ?_),(L2.na ?_),(L2.na ?_),(L2.na ?_),L2.bN ?_ ?_ ?_ ?_ ?_,L2.bN ?_ ?_ ?_ ?_ ?_⟩⟩,⟨_,⟨PySem.W.mg_of KX G ?_,⟨?_,?_,?_,?_⟩,?_,?_,?_,(L2.na ?_),(L2.na ?_),(L2.na ?_),(L2.na ?_),(L2.na ?_),L2.bN ?_ ?_ ?_ ?_ ?_,L2.bN ?_ ?_ ?_ ?_ ?_⟩⟩,⟨_,⟨PySem.W.mg_of KX G ?_,⟨?_,?_,?_,?_⟩,?_,?_,?_,(L2.na ?_),(L2.na ?_),(L2.na ?_),L2.bN ?_ ?_ ?_ ?_ ?_,L2.bN ?_ ?_ ?_ ?_ ?_⟩⟩,⟨_,⟨PySem.W.mg_of KX G ?_,⟨?_,?_,?_,?_⟩,?_,?_,?_,(L2.na ?_),(L2.na ?_),(L2.na ?_),L2.bN ?_ ?_ ?_ ?_ ?_,L2.bN ?_ ?_ ?_ ?_ ?_,L2.bN ?_ ?_ ?_ ?_ ?_,L2.bN ?_ ?_ ?_ ?_ ?_,L2.bN ?_ ?_ ?_ ?_ ?_,L2.bN ?_ ?_ ?_ ?_ ?_⟩⟩,⟨_,⟨PySem.W.mg_of KX G ?_,⟨?_,?_,?_,?_⟩,?_,?_,?_,(L2.na ?_),(L2.na ?_),(L2.na ?_),L2.bN ?_ ?_ ?_ ?_ ?_,L2.bN ?_ ?_ ?_ ?_ ?_,L2.bN ?_ ?_ ?_ ?_ ?_,L2.bN ?_ ?_ ?_ ?_ ?_,L2.bN ?_ ?_ ?_ ?_ ?_,L2.bN ?_ ?_ ?_ ?_ ?_,L2.bN ?_ ?_ ?_ ?_ ?_,L2.bN ?_ ?_ ?_ ?_ ?_,L2.bN ?_ ?_ ?_ ?_ ?_,L2.bN ?_ ?_ ?_ ?_ ?_,L2.bN ?_ ?_ ?_ ?_ ?_,L2.bN ?_ ?_ ?_ ?_ ?_,L2.bN ?_ ?_ ?_ ?_ ?_,L2.bN ?_ ?_ ?_ ?_ ?_,L2.bN ?_ ?_ ?_ ?_ ?_,L2.bN ?_ ?_ ?_ ?_ ?_,L2.bN ?_ ?_ ?_ ?_ ?_,L2.bN ?_ ?_ ?_ ?_ ?_⟩⟩,⟨_,⟨PySem.W.mg_of KX G ?_,⟨?_,?_,?_,?_⟩,?_,?_,?_,(L2.na ?_),L2.bN ?_ ?_ ?_ ?_ ?_,⟨?_,_,_,?_,?_,?_⟩,L2.bN ?_ ?_ ?_ ?_ ?_⟩⟩,⟨_,⟨PySem.W.mg_of KX G ?_,⟨?_,?_,?_,?_⟩,?_,?_,?_,(L2.na ?_),(L2.na ?_),L2.bN ?_ ?_ ?_ ?_ ?_,L2.bN ?_ ?_ ?_ ?_ ?_,L2.bN ?_ ?_ ?_ ?_ ?_,L2.bN ?_ ?_ ?_ ?_ ?_,?_,⟨?_,?_,?_⟩⟩⟩⟩,trivial,⟨⟨_,_,L2.a7W KX G ?_ ?_ ?_ ?_ ?_ ?_,L2.a4H KX G ?_ ?_ ?_ ?_ ?_ ?_ ?_ ?_ ?_,?_,?_⟩⟩⟩
  all_goals try k_is
  all_goals try (first|exact PySem.W.km_tabs_of Y _ (by decide)|kit_is|k_exc|kts_exm|exact rfl|kernel_rfl|decide)
  all_goals exact Value.type "type"