import PyProof.Rows.All
import Wide.All
import OpenK.AllK
import Wide.FinOn
import PyProof.EqAt
import PyProof.EqKinds
import PyProof.TupleCall
import Lean
import PySem.Challenge.RW_lazycols_k24_given_columns
set_option Elab.async false
set_option linter.all false
set_option maxRecDepth 100000
set_option maxHeartbeats 4000000
set_option genSizeOfSpec false
set_option compiler.extract_closed false
namespace L2
theorem aa{α:Type _}{a:α}{l:List α}:a∈a::l:=List.mem_cons_self ..
theorem ad{α:Sort _}{a b c:α}(h:a=b\/ a=c:=by first|exact Or.inl rfl|exact Or.inr rfl):a=b\/ a=c:=h
theorem nk{α:Sort _}{p:α->Prop}(h:∀y,p y:=by intro _ y;cases y):∀y,p y:=h
abbrev Fg:=PySem.W.Frag
end L2
open PySem L2
variable{us its:List Value}{n i j:Nat}{F:FuncData}{ps N zs:List Str}{a b it D l p C dx f fd CB CT bd fi lk CS CF CC:Addr}{u doc pm ag ct oc:Value}{P prog:Program}{w:World}{h h':Heap}{ob:Obj}{x m qual z:Str}{e tg iter:Expr}{A:Around}{E Q:Value->Shared->Prop}{s':Shared}{ac:List (Addr×Obj)}{pos pos' apos tpos:Pos}{K:Fg}{st:Stmt}{es:List Expr}{body:List Stmt}{fp:List Addr}{mg:Str->Option Value}{ah:Scope}{an od:Option Addr}{d:PyData}{cp:List (Nat×Str)}
namespace L2
open PySem PySem.Spec PyProof.Rows
theorem fE(h:us.length=n+ 1):∃a r,us=a::r/\r.length=n:=by
 cases us with
 |nil=>cases h
 |cons a r=>exact⟨a,r,rfl,Nat.succ.inj h⟩
theorem eJ(h:∀a0,bindArgs F ⟨[a0],[]⟩=pure (ps.zip [a0])):∀us:List Value,us.length=1->bindArgs F ⟨us,[]⟩=pure (ps.zip us):=by
 intro us h0;obtain⟨a0,us0,rfl,h1⟩:=fE h0;obtain rfl:=List.length_eq_zero_iff.mp h1;exact h a0
theorem cT(h:∀a0 a1,bindArgs F ⟨[a0,a1],[]⟩=pure (ps.zip [a0,a1])):∀us:List Value,us.length=2->bindArgs F ⟨us,[]⟩=pure (ps.zip us):=by
 intro us h0;obtain⟨a0,us0,rfl,h1⟩:=fE h0;obtain⟨a1,us1,rfl,h2⟩:=fE h1;obtain rfl:=List.length_eq_zero_iff.mp h2;exact h a0 a1
theorem gA(h:∀a0 a1 a2,bindArgs F ⟨[a0,a1,a2],[]⟩=pure (ps.zip [a0,a1,a2])):∀us:List Value,us.length=3->bindArgs F ⟨us,[]⟩=pure (ps.zip us):=by
 intro us h0;obtain⟨a0,us0,rfl,h1⟩:=fE h0;obtain⟨a1,us1,rfl,h2⟩:=fE h1;obtain⟨a2,us2,rfl,h3⟩:=fE h2;obtain rfl:=List.length_eq_zero_iff.mp h3;exact h a0 a1 a2
theorem iD(h:∀a0 a1 a2 a3,bindArgs F ⟨[a0,a1,a2,a3],[]⟩=pure (ps.zip [a0,a1,a2,a3])):∀us:List Value,us.length=4->bindArgs F ⟨us,[]⟩=pure (ps.zip us):=by
 intro us h0;obtain⟨a0,us0,rfl,h1⟩:=fE h0;obtain⟨a1,us1,rfl,h2⟩:=fE h1;obtain⟨a2,us2,rfl,h3⟩:=fE h2;obtain⟨a3,us3,rfl,h4⟩:=fE h3;obtain rfl:=List.length_eq_zero_iff.mp h4;exact h a0 a1 a2 a3
theorem lA(h:∀a0 a1 a2 a3 a4,bindArgs F ⟨[a0,a1,a2,a3,a4],[]⟩=pure (ps.zip [a0,a1,a2,a3,a4])):∀us:List Value,us.length=5->bindArgs F ⟨us,[]⟩=pure (ps.zip us):=by
 intro us h0;obtain⟨a0,us0,rfl,h1⟩:=fE h0;obtain⟨a1,us1,rfl,h2⟩:=fE h1;obtain⟨a2,us2,rfl,h3⟩:=fE h2;obtain⟨a3,us3,rfl,h4⟩:=fE h3;obtain⟨a4,us4,rfl,h5⟩:=fE h4;obtain rfl:=List.length_eq_zero_iff.mp h5;exact h a0 a1 a2 a3 a4
abbrev aB:=Sum Int Str
def kO:aB->Value->Bool
 | .inl k,v=>Value.isInt k v
 | .inr x,v=>Value.isStrOf x v
def keyH(w:World):aB->Int
 | .inl k=>hashInt k
 | .inr x=>hashStr w x
theorem hE:∀{k:aB} {v:Value},kO k v=true->(∃i t,k=Sum.inl i/\v=Value.int i t)\/ (∃x t,k=Sum.inr x/\v=Value.str x t)
 | .inl i,v,h=>by
  obtain⟨t,e⟩:=Value.isInt_shape (k:=i) (v:=v) h;exact .inl ⟨i,t,rfl,e⟩
 | .inr x,v,h=>by
  obtain⟨t,e⟩:=Value.isStrOf_shape (x:=x) (v:=v) h;exact .inr ⟨x,t,rfl,e⟩
theorem a1O(i:Int)(t:Tok):kO (.inl i) (.int i t)=true:=by simp[kO,Value.isInt]
theorem a46(x:Str)(t:Tok):kO (.inr x) (.str x t)=true:=by simp[kO,Value.isStrOf]
theorem a2J(a b:Int):decide ((Sum.inl a:aB)=Sum.inl b)=(a==b):=by
 by_cases e:a=b
 ·subst e;simp
 ·have h:¬(Sum.inl a:aB)=Sum.inl b:=fun q=>e (Sum.inl.inj q)
  rw[decide_eq_false h];exact(beq_eq_false_iff_ne.mpr e).symm
theorem a4G(a b:Str):decide ((Sum.inr a:aB)=Sum.inr b)=decide (a=b):=by
 by_cases e:a=b
 ·subst e;simp
 ·have h:¬(Sum.inr a:aB)=Sum.inr b:=fun q=>e (Sum.inr.inj q)
  rw[decide_eq_false h,decide_eq_false e]
theorem a2d(a:Int)(b:Str):decide ((Sum.inl a:aB)=Sum.inr b)=false:=decide_eq_false (fun q=>nomatch q)
theorem a45(a:Str)(b:Int):decide ((Sum.inr a:aB)=Sum.inl b)=false:=decide_eq_false (fun q=>nomatch q)
def cP(prog:Program)(w:World):PySem.KeyKind prog w aB where
 is:=kO
 hash:=keyH w
 inj:=fun v a b ha hb=>by
  rcases hE ha with⟨i,t,rfl,rfl⟩|⟨x,t,rfl,rfl⟩
  ·rcases hE hb with⟨j,u,rfl,e⟩|⟨y,u,rfl,e⟩
   ·injection e with e1 _;rw[e1]
   ·exact nomatch e
  ·rcases hE hb with⟨j,u,rfl,e⟩|⟨y,u,rfl,e⟩
   ·exact nomatch e
   ·injection e with e1 _;rw[e1]
 byValue:=fun k v h=>by
  rcases hE h with⟨i,t,rfl,rfl⟩|⟨x,t,rfl,rfl⟩<;>rfl
 pyHash:=fun hv h=>by
  rcases hE hv with⟨i,t,rfl,rfl⟩|⟨x,t,rfl,rfl⟩
  ·exact wpAny_pyHash_int h
  ·exact wpAny_pyHash_str h
 eqBool:=fun hu hv h=>by
  rcases hE hu with⟨i,t,rfl,rfl⟩|⟨x,t,rfl,rfl⟩
  ·rcases hE hv with⟨j,u,rfl,rfl⟩|⟨y,u,rfl,rfl⟩
   ·rw[a2J]at h;exact wpAny_eqBool_int h
   ·rw[a2d]at h;exact SeqAt.EqAt.int_str i t y u _ _ _ _ h
  ·rcases hE hv with⟨j,u,rfl,rfl⟩|⟨y,u,rfl,rfl⟩
   ·rw[a45]at h;exact SeqAt.EqAt.str_int x t j u _ _ _ _ h
   ·rw[a4G]at h;exact wpAny_eqBool_str h
 «strs» :=fun k x t v h=>by
  rcases hE h with⟨i,u,rfl,e⟩|⟨y,u,rfl,e⟩
  ·exact nomatch e
  ·injection e with e1 _
   subst e1;cases v<;>rfl
theorem a5c(prog:Program)(w:World)(i:Int)(t:Tok):(cP prog w).is (.inl i) (.int i t)=true:=a1O i t
theorem a2U(prog:Program)(w:World)(x:Str)(t:Tok):(cP prog w).is (.inr x) (.str x t)=true:=a46 x t
inductive V where
 |non|bl(b:Bool)|int(i:Int)|str(x:Str)|byt(b:Array UInt8)|flt(b:UInt64)|ref(a:Addr)|ty(n:String)
 deriving DecidableEq
variable{xs ys cs:List V}{v y:V}{kvs:List (aB×V)}
def aU:V->Value->Prop
 | .non,u=>u=Value.none
 | .bl b,u=>u=Value.bool b
 | .int i,u=>∃t,u=Value.int i t
 | .str x,u=>∃t,u=Value.str x t
 | .byt b,u=>∃t,u=Value.bytes b t
 | .flt b,u=>∃t,u=Value.float b t
 | .ref a,u=>u=Value.ref a
 | .ty n,u=>u=Value.type n
abbrev aS:List V->List Value->Prop:=Paired aU
theorem aS.length(r:aS xs us):xs.length=us.length:=Paired.length r
theorem aS.get:∀{xs:List V} {us:List Value} {i:Nat} {x:V},aS xs us->xs[i]?=some x->∃u,us[i]?=some u/\aU x u
 |_,_,_,_,.nil,e=>by simp at e
 |_,_,0,_,.cons r _,e=>by simp at e;subst e;exact⟨_,rfl,r⟩
 |_,_,i+ 1,x,.cons _ t,e=>by
  obtain⟨u,h1,h2⟩:=aS.get (i:=i) (x:=x) t (by simpa using e);exact⟨u,by simpa using h1,h2⟩
theorem aS.set{x:V}{u:Value}(r:aU x u):∀{xs:List V} {us:List Value} (i:Nat),aS xs us->aS (xs.set i x) (us.set i u)
 |_,_,_,.nil=> .nil
 |_,_,0,.cons _ t=> .cons r t
 |_,_,i+ 1,.cons q t=> .cons q (aS.set r i t)
theorem aS.append:∀{xs ys:List V} {us ws:List Value},aS xs us->aS ys ws->aS (xs++ ys) (us++ ws)
 |_,_,_,_,.nil,s=>s
 |_,_,_,_,.cons r t,s=> .cons r (aS.append t s)
theorem aS.take:∀{xs:List V} {us:List Value} (n:Nat),aS xs us->aS (xs.take n) (us.take n)
 |_,_,0,_=> .nil
 |_,_,_+ 1,.nil=> .nil
 |_,_,n+ 1,.cons r t=> .cons r (aS.take n t)
theorem aS.drop:∀{xs:List V} {us:List Value} (n:Nat),aS xs us->aS (xs.drop n) (us.drop n)
 |_,_,0,r=>r
 |_,_,_+ 1,.nil=> .nil
 |_,_,n+ 1,.cons _ t=>aS.drop n t
def eC:Option V->Option Value->Prop
 |some v,some u=>aU v u
 |none,none=>True
 |_,_=>False
def KV{κ:Type}:List (κ×V)->List (κ×Value)->Prop:=Paired fun(p:κ×V) (q:κ×Value)=>p.1=q.1/\aU p.2 q.2
def kV:aB->V
 | .inl i=> .int i
 | .inr x=> .str x
inductive HO where
 |lst(xs:List V)
 |tup(xs:List V)
 |dK(kvs:List (aB×V))|dT(kvs:List (List aB×V))
 |set(S:Int->Bool)(n:Nat)
 |ins(C dx:Addr)(fs:List (Str×V))
 |own(x:Addr)
 |xd(fs:List (Str×V))
 |met(f x:Addr)
 |rng(lo hi:Int)
 |frz(o:Obj)(u:HO)
 |tbl(ps:Array Value)
 |ext(φ:Heap->Prop)
abbrev Hp:=Addr->Option HO
noncomputable def upd (H:Hp) (a:Addr) (o:HO):Hp:=fun b=>if b=a then some o else H b
variable{H H' H1 H2 Hz:Hp}{o:HO}
theorem aK:upd H a o a=some o:=by unfold upd;rw[if_pos rfl]
theorem aF(h:b≠a):upd H a o b=H b:=by unfold upd;rw[if_neg h]
theorem eR{u:HO}(h:H a=some o)(h':H b=some u)(d:o≠u):a≠b:=by
 intro e;subst e;rw[h]at h';exact d (Option.some.inj h')
theorem bK(h:H a=some o)(h':H b=none):a≠b:=by
 intro e;subst e;rw[h]at h';cases h'
section
variable(P:Program)(w:World)
def cI(H:Hp)(h:Heap)(a:Addr):HO->Prop
 | .lst xs=>xs.length<=sizeLine/\∃(its:List Value) (n:Nat),aS xs its/\h.get? a=some {cls:=.type "list",data:=.seq its.toArray n}
 | .tup xs=>xs.length<=sizeLine/\∃its:List Value,aS xs its/\IsTup h a its.toArray
 | .dK kvs=>kvs.length<=sizeLine/\(a==sysModules)=false/\∃vs,KV kvs vs/\h.DictOf (cP P w) a vs
 | .dT kvs=>kvs.length<=sizeLine/\(a==sysModules)=false/\∃xs:List (List aB×Addr×Value),
  Paired (fun(p:List aB×V) (q:List aB×Addr×Value)=>p.1=q.1/\H q.2.1=some (.tup (p.1.map kV))/\aU p.2 q.2.2) kvs xs/\
  ∃o es ep,h.get? a=some o/\o.ExactDict/\o.data= .dict es ep/\es.toList=xs.map (entryOfKey (tupleKind (cP P w)))/\(xs.map (·.1)).Nodup
 | .set S n=>h.SetOf (intKind P w) a S n
 | .ins C dx fs=>H dx=some (.own a)/\fs.length<=1000/\dx≠a/\h.get? a=some (W.instObj C dx)/\
  ∃mA,h.Ns1 dx mA/\(∀f,eC (fs.lookup f) (mA f))/\PySem.Within mA (fs.map (·.1))
 | .own _=>∃o,h.get? a=some o
 | .xd fs=>∃mA,h.Ns1 a mA/\∀f,eC (fs.lookup f) (mA f)
 | .rng lo hi=>∃t u v,h.get? a=some {cls:=.type "range",data:=.fields #[.int lo t,.int hi u,.int 1 v]}
 | .frz o u=>h.get? a=some o/\cI H h a u
 | .tbl ps=>h.get? a=some {cls:=.none,data:=.fields ps}
 | .met f x=>h.get? a=some (W.methodObj (.ref f) (.ref x))
 | .ext φ=>φ h/\(∃o,h.get? a=some o)/\∀h1 h2:Heap,φ h1->(∀o,h1.get? a=some o->h2.get? a=some o)->φ h2
def cO(H:Hp)(h:Heap):Prop:=∀a o,H a=some o->cI P w H h a o
end
section
theorem cI.lt(x:cI P w H h a o):a<h.objs.size:=by
 cases o with
 |lst xs=>obtain⟨_,_,_,_,e⟩:=x;exact Heap.lt_size e
 |tup xs=>obtain⟨_,_,_,p⟩:=x;exact p.lt
 |dK kvs=>obtain⟨_,_,_,_,o,_,_,e,_⟩:=x;exact Heap.lt_size e
 |dT kvs=>obtain⟨_,_,_,_,o,_,_,e,_⟩:=x;exact Heap.lt_size e
 |set S n=>obtain⟨o,_,_,_,e,_⟩:=x;exact Heap.lt_size e
 |ins C dx fs=>obtain⟨_,_,_,e,_⟩:=x;exact Heap.lt_size e
 |own y=>obtain⟨_,e⟩:=x;exact Heap.lt_size e
 |xd fs=>obtain⟨_,⟨_,_,_,e,_⟩,_⟩:=x;exact Heap.lt_size e
 |rng lo hi=>obtain⟨_,_,_,e⟩:=x;exact Heap.lt_size e
 |frz ob u=>obtain⟨e,_⟩:=x;exact Heap.lt_size e
 |tbl ps=>exact Heap.lt_size (show h.get? a=some _ from x)
 |met f y=>exact Heap.lt_size (show h.get? a=some _ from x)
 |ext φ=>obtain⟨_,⟨_,e⟩,_⟩:=x;exact Heap.lt_size e
theorem Paired.mapP{α β:Type}{F G:α->β->Prop}:∀{l₁:List α} {l₂:List β},Paired F l₁ l₂->(∀a b,F a b->G a b)->Paired G l₁ l₂
 |_,_,.nil,_=> .nil
 |_,_,.cons r t,f=> .cons (f _ _ r) (Paired.mapP t f)
theorem cI.stay(x:cI P w H h a o)(k:∀b u,(b=a\/ H b=some (.own a))->h.get? b=some u->h'.get? b=some u)
 (ho:∀b,H b=some (.own a)->H' b=some (.own a))(ht:∀b xs,H b=some (.tup xs)->H' b=some (.tup xs)):cI P w H' h' a o:=by
 induction o with
 |lst xs=>obtain⟨z,its,n,r,e⟩:=x;exact⟨z,its,n,r,k _ _ (.inl rfl) e⟩
 |tup xs=>obtain⟨z,its,r,ob,e,c⟩:=x;exact⟨z,its,r,ob,k _ _ (.inl rfl) e,c⟩
 |dK kvs=>obtain⟨z,y,vs,r,ob,es,ep,e,c⟩:=x;exact⟨z,y,vs,r,ob,es,ep,k _ _ (.inl rfl) e,c⟩
 |dT kvs=>
  obtain⟨z,y,xs,r,ob,es,ep,e,c⟩:=x;exact⟨z,y,xs,Paired.mapP r fun p q z=>⟨z.1,ht _ _ z.2.1,z.2.2⟩,ob,es,ep,k _ _ (.inl rfl) e,c⟩
 |set S n=>obtain⟨ob,es,ep,t,e,c⟩:=x;exact⟨ob,es,ep,t,k _ _ (.inl rfl) e,c⟩
 |ins C dx fs=>
  obtain⟨d,z,ne,e,mA,⟨od,es,ep,e2,c⟩,r⟩:=x;exact⟨ho _ d,z,ne,k _ _ (.inl rfl) e,mA,⟨od,es,ep,k _ _ (.inr d) e2,c⟩,r⟩
 |own y=>obtain⟨ob,e⟩:=x;exact⟨ob,k _ _ (.inl rfl) e⟩
 |xd fs=>obtain⟨mA,⟨od,es,ep,e,c⟩,r⟩:=x;exact⟨mA,⟨od,es,ep,k _ _ (.inl rfl) e,c⟩,r⟩
 |rng lo hi=>obtain⟨t,u,v,e⟩:=x;exact⟨t,u,v,k _ _ (.inl rfl) e⟩
 |frz ob u ih=>obtain⟨e,q⟩:=x;exact⟨k _ _ (.inl rfl) e,ih q⟩
 |tbl ps=>
  have e:h.get? a=some {cls:=.none,data:=.fields ps}:=x;show h'.get? a=some {cls:=.none,data:=.fields ps};exact k a _ (.inl rfl) e
 |met f y=>
  have e:h.get? a=some (W.methodObj (.ref f) (.ref y)):=x;show h'.get? a=some (W.methodObj (.ref f) (.ref y));exact k a _ (.inl rfl) e
 |ext φ=>obtain⟨p,⟨o,e⟩,st⟩:=x;exact⟨st _ _ p fun o q=>k _ _ (.inl rfl) q,⟨o,k _ _ (.inl rfl) e⟩,st⟩
theorem cO.lt(x:cO P w H h)(e:H a=some o):a<h.objs.size:=(x a o e).lt
theorem cO.fresh(x:cO P w H h)(e:h.objs.size<=a):H a=none:=by
 cases q:H a with
 |none=>rfl
 |some u=>exact absurd (Nat.lt_of_lt_of_le (x.lt q) e) (Nat.lt_irrefl _)
theorem cO.kept(x:cO P w H h)(k:∀b u,h.get? b=some u->h'.get? b=some u):cO P w H h':=fun a o e=>
 (x a o e).stay (fun b u _ q=>k b u q) (fun _ q=>q) fun _ _ q=>q
theorem cO.laid(x:cO P w H h)(k:∀b u,h.get? b=some u->h'.get? b=some u)(hp:h.objs.size<=a)(new:cI P w (upd H a o) h' a o):cO P w (upd H a o) h':=fun b u e=>by
 have hn:=x.fresh hp;by_cases hb:b=a
 ·subst hb;rw[aK]at e;cases e;exact new
 ·rw[aF hb]at e
  exact(x b u e).stay (fun c v _ q=>k c v q) (fun c q=>by rw[aF (bK q hn)];exact q) fun c xs q=>by rw[aF (bK q hn)];exact q
end
def Rd(H:Hp)(a:Addr)(u:HO):Prop:=H a=some u\/ ∃o,H a=some (.frz o u)
theorem Rd.ok{u:HO}(r:Rd H a u)(x:cO P w H h):cI P w H h a u:=by
 rcases r with r|⟨o,r⟩
 ·exact x a u r
 ·obtain⟨_,q⟩:=x a _ r
  exact q
def mI:Option HO->Prop
 |some (.lst _)=>True
 |some (.dK _)=>True
 |some (.dT _)=>True
 |some (.set _ _)=>True
 |some (.ins _ _ _)=>True
 |some (.ext _)=>True
 |_=>False
section
variable{x e:Addr}{o':HO}
theorem cO.write(ok:cO P w H h)(mu:mI (H x))(he:e=x\/ H e=some (.own x))(k:∀b u,b≠e->h.get? b=some u->h'.get? b=some u)(heo:∃u,h'.get? e=some u)
 (new:cI P w (upd H x o') h' x o'):cO P w (upd H x o') h':=fun b u q=>by
 have nown:∀c y,H c=some (.own y)->c≠x:=fun c y r z=>by subst z;rw[r]at mu;exact mu
 have ntup:∀c xs,H c=some (.tup xs)->c≠x:=fun c xs r z=>by subst z;rw[r]at mu;exact mu
 by_cases hb:b=x
 ·subst hb;rw[aK]at q;cases q;exact new
 ·rw[aF hb]at q
  by_cases hbe:b=e
  ·have q':H b=some (.own x):=by
    rcases he with z|z
    ·exact absurd (hbe.trans z) hb
    ·rw[hbe];exact z
   rw[q]at q';cases q';obtain⟨v,hv⟩:=heo;exact⟨v,by rw[hbe];exact hv⟩
  ·refine(ok b u q).stay (fun c v hc r=>k c v ?_ r) (fun c r=>by rw[aF (nown c b r)];exact r) fun c xs r=>by rw[aF (ntup c xs r)];exact r
   rcases hc with rfl|hc
   ·exact hbe
   ·rintro rfl
    rcases he with z|z
    ·exact nown c b hc z
    ·rw[hc]at z;cases z;exact hb rfl
end
structure Un(fs ex:List Addr)(H H':Hp)(h h':Heap):Prop where
 keep:∀b o,h.get? b=some o->H b=none->b∉fs->b∉ex->h'.get? b=some o
 slot:∀b o,h.get? b=some o->H b=none->b∈fs->b∉ex->∃sl,h'.get? b=some {o with slots:=sl}
 free:∀b o,h.get? b=some o->H b=none->b∉ex->H' b=none
 there:∀b o,h.get? b=some o->b∉ex->∃o',h'.get? b=some o'
 tups:∀b xs,H b=some (.tup xs)->H' b=some (.tup xs)
 frzs:∀b o u,H b=some (.frz o u)->H' b=some (.frz o u)
 tbls:∀b ps,H b=some (.tbl ps)->∃more,H' b=some (.tbl (ps++ more))
section
variable{fs fs' ex ex':List Addr}{h1 h2:Heap}{x e:Addr}
theorem Un.any(u:Un fs ex H H1 h h1)(q:h.get? b=some ob)(n:H b=none)(hx:b∉ex):∃sl,h1.get? b=some {ob with slots:=sl}:=by
 by_cases hb:b∈fs
 ·exact u.slot b ob q n hb hx
 ·exact⟨ob.slots,u.keep b ob q n hb hx⟩
theorem Un.kept(k:∀b u,h.get? b=some u->h'.get? b=some u):Un fs ex H H h h':=
 ⟨fun b ob q _ _ _=>k b ob q,fun b ob q _ _ _=>⟨ob.slots,k b ob q⟩,fun _ _ _ n _=>n,fun b ob q _=>⟨ob,k b ob q⟩,fun _ _ q=>q,fun _ _ _ q=>q,fun _ ps q=>⟨#[],by rw[q];simp⟩⟩
theorem Un.refl:Un fs ex H H h h:=Un.kept fun _ _ q=>q
theorem Un.laid(k:∀b u,h.get? b=some u->h'.get? b=some u)(hp:h.objs.size<=a)(hn:H a=none):Un fs ex H (upd H a o) h h' where
 keep:=fun b u q _ _ _=>k b u q
 slot:=fun b u q _ _ _=>⟨u.slots,k b u q⟩
 free:=fun b u q n _=>by rw[aF (Nat.ne_of_lt (Nat.lt_of_lt_of_le (Heap.lt_size q) hp))];exact n
 there:=fun b u q _=>⟨u,k b u q⟩
 tups:=fun b xs q=>by rw[aF (bK q hn)];exact q
 frzs:=fun b u xs q=>by rw[aF (bK q hn)];exact q
 tbls:=fun b ps q=>⟨#[],by rw[aF (bK q hn),q];simp⟩
theorem Un.write(mu:mI (H x))(he:e=x\/ H e=some (.own x))(k:∀b u,b≠e->h.get? b=some u->h'.get? b=some u)(heo:∃u,h'.get? e=some u):Un fs ex H (upd H x o) h h':=by
 have hx:∀b,H b=none->b≠x:=fun b n z=>by subst z;rw[n]at mu;exact mu
 have hb:∀b,H b=none->b≠e:=fun b n z=>by
  subst z
  rcases he with r|r
  ·exact hx b n r
  ·rw[n]at r;cases r
 have hm:∀b u,H b=some u->¬mI (some u)->b≠x:=fun b u q nm z=>by subst z;rw[q]at mu;exact nm mu
 refine⟨fun b u q n _ _=>k b u (hb b n) q,fun b u q n _ _=>⟨u.slots,k b u (hb b n) q⟩,fun b u q n _=>by rw[aF (hx b n)];exact n,fun b u q _=> ?_,
  fun b xs q=>by rw[aF (hm b _ q fun z=>z)];exact q,fun b u xs q=>by rw[aF (hm b _ q fun z=>z)];exact q,fun b ps q=>⟨#[],by rw[aF (hm b _ q fun z=>z),q];simp⟩⟩
 by_cases hbe:b=e
 ·subst hbe;exact heo
 ·exact⟨u,k b u hbe q⟩
end
noncomputable def pU (h:Heap) (H:Hp):List Addr:=(List.range h.objs.size).filter fun a=>(H a).isSome
noncomputable def iK (h:Heap) (H:Hp):Heap:=W.hideAll h (pU h H)
theorem a16(h:Heap)(H:Hp):(iK h H).objs.size=h.objs.size:=W.hideAll_size _ _
theorem a47{o:Obj}(e:h.get? b=some o)(n:H b=none):(iK h H).get? b=some o:=
 W.hideAll_get _ e fun hm=>by
  have q:(H b).isSome=true:=(List.mem_filter.mp hm).2;rw[n]at q;simp at q
theorem a4M{o:Obj}(e:(iK h H).get? b=some o):h.get? b=some o/\H b=none:=by
 have e':h.get? b=some o:=W.of_hideAll (pU h H) e;refine⟨e',?_⟩
 cases q:H b with
 |none=>rfl
 |some x=>
  have hm:b∈pU h H:=List.mem_filter.mpr ⟨List.mem_range.mpr (Heap.lt_size e'),by simp[q]⟩;have z:(iK h H).get? b=none:=W.hideAll_none (pU h H) hm;rw[z]at e;cases e
noncomputable def a2P (g h:Heap) (L:Addr):List (Addr×Obj):=(List.range h.objs.size).filterMap fun a=>if a=L\/ (g.get? a).isSome=true then none else(h.get? a).map fun o=>(a,o)
noncomputable def dU (g h:Heap) (L d:Addr):List (Addr×Obj):=(a2P g h L).filter fun p=>decide (p.1≠d)
structure Mod(K:Fg)(mg:Str->Option Value)(ae:Heap):Prop where
 kin:K.In ae
 glob:ae.Ns mainGlobals mg
 blt:∃mb,ae.Ns builtinsNs mb/\∀x:Str,x≠ "__name__" ->mb x=bootBuiltins x
 nolimit:ae.NoLimit
structure Cx where
 prog:Program
 w:World
 K:Fg
 mg:Str->Option Value
 base:Heap
 A:Around
 N:List Str
 s₀:Shared
 H₀:Hp
 env:Env
 outer:List Env
 stack:List Env
 ex:List Addr
 fn:Str->Bool
 calm:Bool
 pn:List (Addr×Obj)
 xe:Value->Shared->Prop
variable{X:Cx}
def fC(l:List Env):List Addr:=l.filterMap (·.frame)
abbrev Cx.fs(X:Cx):List Addr:=fC X.outer
def uH(sc:Scope)(x:Str):Prop:=sc.names.lookup x=some .local\/ sc.names.lookup x=some .cell\/ sc.names.lookup x=some .free
def oE(sc:Scope)(x:Str):Prop:=sc.names.lookup x=some .local\/ sc.names.lookup x=some .cell
def Look(env:Env)(h:Heap)(m:Str->Option Value)(x:Str)(u:Value):Prop:=
 (env.kindOf x=some .local/\m x=some u)\/ ((env.kindOf x=some .cell\/ env.kindOf x=some .free)/\∃c,env.cells.lookup x=some c/\h.IsCell c (some u))
structure Cx.Ok(X:Cx):Prop where
 mod:Mod X.K X.mg X.base
 kind:X.env.scope.kind= .function
 glob:X.env.globals=mainGlobals
 blt:X.env.builtins=builtinsNs
 above:X.s₀.heap.objs.size<=X.env.locals
 inj:∀x y c,X.env.cells.lookup x=some c->X.env.cells.lookup y=some c->x=y
 has:∀x,(X.env.kindOf x=some .cell\/ X.env.kindOf x=some .free)->∃c,X.env.cells.lookup x=some c
 cab:∀x c,X.fn x=true->X.env.cells.lookup x=some c->X.s₀.heap.objs.size<=c
 hd:X.calm=true->X.A.handled=none
 frames:X.A.frames=some X.stack
 stk:X.stack=X.outer\/ (X.stack=X.env::X.outer/\X.env.frame=some X.env.locals)
 exf:∀b∈X.ex,b≠X.env.locals/\∀x c,X.env.cells.lookup x=some c->c≠b
 bs:∀b o,X.base.get? b=some o->X.s₀.heap.get? b=some o/\X.H₀ b=none
 bsz:X.base.objs.size<=X.s₀.heap.objs.size
 noex:∀b o,X.base.get? b=some o->b∉X.ex
 exfs:∀b∈X.ex,b∉X.fs
 funs:X.s₀.heap.FunFrames X.base X.outer
 frf:∀b∈X.fs,X.H₀ b=none
structure aC(X:Cx)(ac:List (Addr×Obj))(σ:List (Option V))(H:Hp)(s:Shared):Prop where
 ok:X.Ok
 os:s.os=X.s₀.os
 bare:AllBare s.gens
 base:Un X.fs X.ex X.H₀ H X.s₀.heap s.heap
 loc:∃m,s.heap.Ns X.env.locals m/\∀(i:Nat) (x:Str) (v:V),X.N[i]?=some x->σ[i]?=some (some v)->uH X.env.scope x->∃u,aU v u/\Look X.env s.heap m x u
 cell:∀x c,X.env.cells.lookup x=some c->∃v,s.heap.IsCell c v
 free:H X.env.locals=none
 freeC:∀x c,X.env.cells.lookup x=some c->H c=none
 pin:∀p∈X.pn++ ac,s.heap.get? p.1=some p.2/\H p.1=none/\p.1≠X.env.locals/\p.1∉X.fs/\∀v,p.2.data≠ .cell v
 hok:cO X.prog X.w H s.heap
 len:σ.length=X.N.length
section
variable{σ:List (Option V)}{s:Shared}
theorem Cx.Ok.nofr(ok:X.Ok){o:Obj}(e:X.base.get? b=some o):b∉X.fs:=fun hb=>by
 have:=(ok.funs.mem hb).1;rw[e]at this;cases this
theorem aC.bs(I:aC X ac σ H s):∀b o,X.base.get? b=some o->s.heap.get? b=some o/\H b=none:=fun b o e=>
 ⟨I.base.keep b o (I.ok.bs b o e).1 (I.ok.bs b o e).2 (I.ok.nofr e) (I.ok.noex b o e),I.base.free b o (I.ok.bs b o e).1 (I.ok.bs b o e).2 (I.ok.noex b o e)⟩
theorem aC.bk(I:aC X ac σ H s):∀b o,X.base.get? b=some o->s.heap.get? b=some o:=fun b o e=>(I.bs b o e).1
theorem aC.mod(I:aC X ac σ H s):Mod X.K X.mg X.base:=I.ok.mod
theorem aC.kIn(I:aC X ac σ H s):X.K.In s.heap:=I.ok.mod.kin.keeps I.bk
theorem aC.lt(I:aC X ac σ H s):X.env.locals<s.heap.objs.size:=let ⟨_,hn,_⟩:=I.loc;hn.lt
theorem aC.sz(I:aC X ac σ H s):X.s₀.heap.objs.size<=s.heap.objs.size:=Nat.le_trans I.ok.above (Nat.le_of_lt I.lt)
theorem aC.nofs(I:aC X ac σ H s)(h:s.heap.objs.size<=a):a∉X.fs:=fun hb=>by
 obtain⟨_,o,ho,_⟩:=I.ok.funs.mem hb;exact absurd (Nat.lt_of_lt_of_le (Heap.lt_size ho) (Nat.le_trans I.sz h)) (Nat.lt_irrefl _)
theorem aC.cne(I:aC X ac σ H s):∀x c,X.env.cells.lookup x=some c->c≠X.env.locals:=fun x c e z=>by
 obtain⟨v,o,ho,hd⟩:=I.cell x c e;obtain⟨m,⟨o',es,ep,ho',hd',_⟩,_⟩:=I.loc;rw[z,ho']at ho;cases ho;rw[hd']at hd;cases hd
theorem aC.funs(I:aC X ac σ H s):s.heap.FunFrames X.base X.outer:=by
 have all:∀(l:List Env),(∀b∈fC l,b∈X.fs)->X.s₀.heap.FunFrames X.base l->s.heap.FunFrames X.base l:=by
  intro l
  induction l with
  |nil=>intro _ _;trivial
  |cons env r ih=>
   intro hs hl;obtain⟨hk,⟨L,o,hf,hn,ho,hd⟩,hr⟩:=hl;have hL:L∈X.fs:=hs L (by unfold fC;rw[List.filterMap_cons,hf];exact List.mem_cons_self);obtain⟨sl,e⟩:=I.base.slot L o ho (I.ok.frf L hL) hL fun z=>I.ok.exfs L z hL
   exact⟨hk,⟨L,_,hf,hn,e,hd⟩,ih (fun b hb=>hs b (by unfold fC;rw[List.filterMap_cons,hf];exact List.mem_cons_of_mem _ hb)) hr⟩
 exact all X.outer (fun _ hb=>hb) I.ok.funs
theorem aC.stack(I:aC X ac σ H s):s.heap.FunFrames X.base X.stack:=by
 rcases I.ok.stk with e|⟨e,hf⟩
 ·rw[e];exact I.funs
 ·rw[e]
  obtain⟨m,hn,_⟩:=I.loc;refine .cons (by rw[I.ok.kind];decide) hf hn ?_ I.funs;exact Heap.get?_none_of_le (Nat.le_trans I.ok.bsz I.ok.above)
theorem aC.stkSub(I:aC X ac σ H s):∀b∈fC X.stack,b∈X.env.locals::X.fs:=fun b hb=>by
 rcases I.ok.stk with e|⟨e,hf⟩
 ·rw[e]at hb;exact List.mem_cons_of_mem _ hb
 ·rw[e]at hb
  unfold fC at hb;rw[List.filterMap_cons,hf]at hb;exact hb
theorem aC.stkFree(I:aC X ac σ H s):∀b∈fC X.stack,H b=none:=fun b hb=>by
 rcases List.mem_cons.mp (I.stkSub b hb)with e|hb
 ·rw[e];exact I.free
 ·obtain⟨_,o,ho,_⟩:=I.ok.funs.mem hb
  exact I.base.free b o ho (I.ok.frf b hb) fun z=>I.ok.exfs b z hb
theorem aC.step{g':Array GenState}{t':Nat}{d':Drawn}{ch:List Addr}(I:aC X ac σ H s)
 (hch:∀b∈ch,(b∈X.ex\/ X.s₀.heap.objs.size<=b)/\b≠X.env.locals/\(∀x c,X.env.cells.lookup x=some c->c≠b)/\∀p∈X.pn++ ac,p.1≠b)
 (keep:∀b o,b≠X.env.locals->b∉X.fs->b∉ch->s.heap.get? b=some o->H b=none->h'.get? b=some o)
 (slot:∀b o,b≠X.env.locals->b∈X.fs->b∉ch->s.heap.get? b=some o->H b=none->∃sl,h'.get? b=some {o with slots:=sl})(free:∀b o,b∉ch->s.heap.get? b=some o->H b=none->H' b=none)
 (there:∀b o,b∉ch->s.heap.get? b=some o->∃o',h'.get? b=some o')
 (tups:∀b xs,H b=some (.tup xs)->H' b=some (.tup xs))(frzs:∀b o u,H b=some (.frz o u)->H' b=some (.frz o u))(tbls:∀b ps,H b=some (.tbl ps)->∃more,H' b=some (.tbl (ps++ more)))
 (ns:∀m,s.heap.Ns X.env.locals m->h'.Ns X.env.locals m)(hok:cO X.prog X.w H' h')(hg:AllBare g'):
 aC X ac σ H' {s with heap:=h',gens:=g',drawn:=d',toks:=t'}:=by
 have neL:∀b o,X.s₀.heap.get? b=some o->b≠X.env.locals:=fun b o e=>Nat.ne_of_lt (Nat.lt_of_lt_of_le (Heap.lt_size e) I.ok.above)
 have neC:∀b o,X.s₀.heap.get? b=some o->b∉X.ex->b∉ch:=fun b o e hx hb=>by
  rcases(hch b hb).1 with z|z
  ·exact hx z
  ·exact absurd (Nat.lt_of_lt_of_le (Heap.lt_size e) z) (Nat.lt_irrefl _)
 have bQ:∀x c,X.env.cells.lookup x=some c->∀v,s.heap.IsCell c v->h'.IsCell c v:=fun x c e v ⟨o,ho,hd⟩=>by
  have nch:c∉ch:=fun z=>(hch c z).2.2.1 x c e rfl
  by_cases hc:c∈X.fs
  ·obtain⟨sl,q⟩:=slot c o (I.cne x c e) hc nch ho (I.freeC x c e)
   exact⟨_,q,hd⟩
  ·exact⟨o,keep c o (I.cne x c e) hc nch ho (I.freeC x c e),hd⟩
 refine⟨I.ok,I.os,hg,⟨fun b o e n hb hx=> ?_,fun b o e n hb hx=> ?_,fun b o e n hx=> ?_,fun b o e hx=> ?_,fun b xs e=>tups b xs (I.base.tups b xs e),fun b o xs e=>frzs b o xs (I.base.frzs b o xs e),fun b ps e=> ?_⟩,?_,fun x c e=> ?_,?_,fun x c e=> ?_,fun p hp=> ?_,hok,I.len⟩
 ·exact keep b o (neL b o e) hb (neC b o e hx) (I.base.keep b o e n hb hx) (I.base.free b o e n hx)
 ·obtain⟨sl,e1⟩:=I.base.slot b o e n hb hx
  obtain⟨sl',e2⟩:=slot b _ (neL b o e) hb (neC b o e hx) e1 (I.base.free b o e n hx);exact⟨sl',e2⟩
 ·obtain⟨o',e1⟩:=I.base.there b o e hx
  exact free b o' (neC b o e hx) e1 (I.base.free b o e n hx)
 ·obtain⟨o',e1⟩:=I.base.there b o e hx
  exact there b o' (neC b o e hx) e1
 ·obtain⟨m1,e1⟩:=I.base.tbls b ps e
  obtain⟨m2,e2⟩:=tbls b _ e1;exact⟨m1++ m2,by rw[e2,Array.append_assoc]⟩
 ·obtain⟨m,hn,hl⟩:=I.loc
  refine⟨m,ns m hn,fun i x v e1 e2 e3=> ?_⟩;obtain⟨u,r,l⟩:=hl i x v e1 e2 e3;refine⟨u,r,?_⟩
  rcases l with l|⟨k,c,e,z⟩
  ·exact .inl l
  ·exact .inr ⟨k,c,e,bQ x c e _ z⟩
 ·obtain⟨v,z⟩:=I.cell x c e
  exact⟨v,bQ x c e v z⟩
 ·obtain⟨m,⟨o,_,_,ho,_⟩,_⟩:=I.loc
  exact free _ o (fun z=>(hch _ z).2.1 rfl) ho I.free
 ·obtain⟨v,o,ho,hd⟩:=I.cell x c e
  exact free c o (fun z=>(hch c z).2.2.1 x c e rfl) ho (I.freeC x c e)
 ·obtain⟨e,n,ne,nf,d⟩:=I.pin p hp
  have nch:p.1∉ch:=fun z=>(hch p.1 z).2.2.2 p hp rfl
  exact⟨keep p.1 p.2 ne nf nch e n,free p.1 p.2 nch e n,ne,nf,d⟩
theorem aC.un{t':Nat}(I:aC X ac σ H s)(u:Un X.fs [] H H' s.heap h')(hok:cO X.prog X.w H' h'):aC X ac σ H' {s with heap:=h',toks:=t'}:=by
 obtain⟨m,⟨o,es,ep,ho,r⟩,_⟩:=id I.loc;obtain⟨sl,hL⟩:=u.any ho I.free (by simp)
 exact I.step (g':=s.gens) (d':=s.drawn) (ch:=[]) (fun _ z=>nomatch z) (fun b o _ hb _ e n=>u.keep b o e n hb (by simp)) (fun b o _ hb _ e n=>u.slot b o e n hb (by simp)) (fun b o _ e n=>u.free b o e n (by simp)) (fun b o _ e=>u.there b o e (by simp)) u.tups u.frzs u.tbls (fun m' hm=>by
  obtain⟨o',es',ep',ho',r'⟩:=hm;rw[ho]at ho';cases ho'
  exact⟨_,es',ep',hL,r'⟩) hok I.bare
theorem aC.call{g':Array GenState}{t':Nat}{d':Drawn}{ch:List Addr}(I:aC X ac σ H s)(u:Un (fC X.stack) ch H H' s.heap h')(hok:cO X.prog X.w H' h')(hg:AllBare g')
 (hch:∀b∈ch,(b∈X.ex\/ X.s₀.heap.objs.size<=b)/\b≠X.env.locals/\(∀x c,X.env.cells.lookup x=some c->c≠b)/\∀p∈X.pn++ ac,p.1≠b):
 aC X ac σ H' {s with heap:=h',gens:=g',drawn:=d',toks:=t'}:=by
 obtain⟨m,⟨o,es,ep,ho,r⟩,_⟩:=id I.loc;obtain⟨sl,hL⟩:=u.any ho I.free fun z=>(hch _ z).2.1 rfl
 exact I.step (ch:=ch) hch (fun b o hL hb hc e n=>u.keep b o e n (fun z=>(List.mem_cons.mp (I.stkSub b z)).elim hL hb) hc) (fun b o _ _ hc e n=>u.any e n hc) (fun b o hc e n=>u.free b o e n hc) (fun b o hc e=>u.there b o e hc) u.tups u.frzs u.tbls (fun m' hm=>by
  obtain⟨o',es',ep',ho',r'⟩:=hm;rw[ho]at ho';cases ho'
  exact⟨_,es',ep',hL,r'⟩) hok hg
theorem aC.turned{t':Nat}(I:aC X ac σ H s)(k:∀b o,b≠it->s.heap.get? b=some o->h'.get? b=some o)(hn:H it=none)(hL:it≠X.env.locals)
 (h1:it∈X.ex\/ X.s₀.heap.objs.size<=it)(h2:∀x c,X.env.cells.lookup x=some c->c≠it)(h3:∀p∈X.pn++ ac,p.1≠it):aC X ac σ H {s with heap:=h',toks:=t'}:=by
 have nit:∀b u,H b=some u->b≠it:=fun b u e z=>by rw[z,hn]at e;cases e
 refine I.step (g':=s.gens) (d':=s.drawn) (ch:=[it]) (fun b hb=> ?_) (fun b o _ _ hc e _=>k b o (fun z=>hc (by simp[z])) e) (fun b o _ _ hc e _=>⟨o.slots,k b o (fun z=>hc (by simp[z])) e⟩) (fun _ _ _ _ n=>n)
  (fun b o hc e=>⟨o,k b o (fun z=>hc (by simp[z])) e⟩) (fun _ _ e=>e) (fun _ _ _ e=>e) (fun b ps e=>⟨#[],by rw[e];simp⟩) (fun m hm=> ?_) (fun b u e=> ?_) I.bare
 ·have e:b=it:=by simpa using hb
  subst e;exact⟨h1,hL,h2,h3⟩
 ·obtain⟨o,es,ep,ho,r⟩:=hm
  exact⟨o,es,ep,k _ o (Ne.symm hL) ho,r⟩
 ·refine(I.hok b u e).stay (fun c v hc q=>k c v ?_ q) (fun _ q=>q) fun _ _ q=>q
  rcases hc with z|z
  ·rw[z];exact nit b u e
  ·exact nit c _ z
theorem aC.tok(I:aC X ac σ H s)(t:Nat):aC X ac σ H {s with toks:=t}:=I.un (h':=s.heap) (t':=t) Un.refl I.hok
theorem aC.kept{t':Nat}(I:aC X ac σ H s)(k:∀b u,s.heap.get? b=some u->h'.get? b=some u):aC X ac σ H {s with heap:=h',toks:=t'}:=I.un (Un.kept k) (I.hok.kept k)
theorem aC.laid{t':Nat}(I:aC X ac σ H s)(k:∀b u,s.heap.get? b=some u->h'.get? b=some u)(hp:s.heap.objs.size<=a)(new:cI X.prog X.w (upd H a o) h' a o):
 aC X ac σ (upd H a o) {s with heap:=h',toks:=t'}:=I.un (Un.laid k hp (I.hok.fresh hp)) (I.hok.laid k hp new)
theorem aC.write{x e:Addr}{t':Nat}(I:aC X ac σ H s)(mu:mI (H x))(he:e=x\/ H e=some (.own x))(k:∀b u,b≠e->s.heap.get? b=some u->h'.get? b=some u)(heo:∃u,h'.get? e=some u)
 (new:cI X.prog X.w (upd H x o) h' x o):aC X ac σ (upd H x o) {s with heap:=h',toks:=t'}:=I.un (Un.write mu he k heo) (I.hok.write mu he k heo new)
theorem aC.pins_of{pins':List (Addr×Obj)}(I:aC X ac σ H s)(h:∀p∈pins',s.heap.get? p.1=some p.2/\H p.1=none/\p.1≠X.env.locals/\p.1∉X.fs/\∀v,p.2.data≠ .cell v):aC X pins' σ H s:=
 ⟨I.ok,I.os,I.bare,I.base,I.loc,I.cell,I.free,I.freeC,fun p hp=>(List.mem_append.mp hp).elim (fun z=>I.pin p (List.mem_append_left _ z)) (h p),I.hok,I.len⟩
theorem a0b(hN:N.Nodup)(a:N[i]?=some x)(b:N[j]?=some x):i=j:=by
 obtain⟨h1,e1⟩:=List.getElem?_eq_some_iff.mp a;obtain⟨h2,e2⟩:=List.getElem?_eq_some_iff.mp b;exact(List.getElem_inj hN).mp (e1.trans e2.symm)
theorem xU{M:Model}{Q:Unit->Shared->Prop}(I:aC X ac σ H s)(hN:X.N.Nodup)(hi:X.N[i]?=some x)(hx:oE X.env.scope x)(r:aU v u)
 (h:∀s',aC X ac (σ.set i (some v)) H s'->(∃a,Heap.SameBut a s.heap s'.heap/\(a=X.env.locals\/ X.env.cells.lookup x=some a))->Q () s')(hf:X.fn x=true\/ X.env.scope.names.lookup x=some .local:=by first|exact .inl rfl|exact .inr rfl|assumption):wpAny M A (storeName X.env x u) Q E s:=by
 obtain⟨m,hn,hl⟩:=id I.loc
 have hcls:(X.env.scope.kind== .class||(X.env.scope.kind== .module&&X.env.locals !=X.env.globals))=false:=by rw[I.ok.kind];rfl
 have hiσ:i<σ.length:=by rw[I.len];exact(List.getElem?_eq_some_iff.mp hi).1
 have cne:=I.cne;have tracked:∀{a:Addr} {h':Heap},(∃o,s.heap.get? a=some o/\H a=none)->Heap.SameBut a s.heap h'->cO X.prog X.w H h':=fun{a h'} ha hs b ob e=>by
  obtain⟨_,_,hfree⟩:=ha;refine(I.hok b ob e).stay (fun c w' hc q=>(hs.2 c ?_).trans q) (fun _ q=>q) fun _ _ q=>q
  rintro rfl
  rcases hc with rfl|hc
  ·rw[hfree]at e;cases e
  ·rw[hfree]at hc;cases hc
 rcases hx with hk|hk
 ·refine wpAny_storeName_local hk hn (fun h' hn' hs=> ?_) hcls
  obtain⟨oL,_,_,hoL,_⟩:=id hn;refine h _ ⟨I.ok,I.os,I.bare,⟨fun b o e n hb hx=> ?_,fun b o e n hb hx=> ?_,I.base.free,fun b o e hx=> ?_,I.base.tups,I.base.frzs,I.base.tbls⟩,⟨_,hn',fun j y v' e1 e2 e3=> ?_⟩,fun y c e=> ?_,I.free,I.freeC,fun p hp=> ?_,tracked ⟨oL,hoL,I.free⟩ hs,by simpa using I.len⟩ ⟨_,hs,.inl rfl⟩
  ·exact(hs.2 b (Nat.ne_of_lt (Nat.lt_of_lt_of_le (Heap.lt_size e) I.ok.above))).trans (I.base.keep b o e n hb hx)
  ·obtain⟨sl,e1⟩:=I.base.slot b o e n hb hx
   exact⟨sl,(hs.2 b (Nat.ne_of_lt (Nat.lt_of_lt_of_le (Heap.lt_size e) I.ok.above))).trans e1⟩
  ·obtain⟨o',e1⟩:=I.base.there b o e hx
   exact⟨o',(hs.2 b (Nat.ne_of_lt (Nat.lt_of_lt_of_le (Heap.lt_size e) I.ok.above))).trans e1⟩
  ·by_cases hj:j=i
   ·subst hj
    rw[hi]at e1;cases e1;rw[List.getElem?_set_self hiσ]at e2;cases e2;exact⟨u,r,.inl ⟨hk,by simp⟩⟩
   ·rw[List.getElem?_set_ne (Ne.symm hj)]at e2
    obtain⟨u',r',q⟩:=hl j y v' e1 e2 e3;refine⟨u',r',?_⟩
    rcases q with⟨k,e⟩|⟨k,c,e,z⟩
    ·refine .inl ⟨k,?_⟩
     have:y≠x:=fun e=>hj (a0b hN e1 (e▸hi))
     simp[this,e]
    ·exact .inr ⟨k,c,e,z.sameBut hs (cne y c e)⟩
  ·obtain⟨w',z⟩:=I.cell y c e
   exact⟨w',z.sameBut hs (cne y c e)⟩
  ·obtain⟨e,n,ne,nf,d⟩:=I.pin p hp
   exact⟨(hs.2 p.1 ne).trans e,n,ne,nf,d⟩
 ·have hfn:X.fn x=true:=by
   rcases hf with z|z
   ·exact z
   ·rw[z]at hk;cases hk
  obtain⟨c,hc⟩:=I.ok.has x (.inl hk);obtain⟨w',z⟩:=I.cell x c hc;refine wpAny_storeName_cell I.ok.kind hk hc z (fun h' hc' hs=> ?_);obtain⟨oc,hoc,hocd⟩:=id z;refine h {s with heap:=h'} ⟨I.ok,I.os,I.bare,⟨fun b o e n hb hx=> ?_,fun b o e n hb hx=> ?_,I.base.free,fun b o e hx=> ?_,I.base.tups,I.base.frzs,I.base.tbls⟩,⟨m,hn.sameBut hs (Ne.symm (cne x c hc)),fun j y v' e1 e2 e3=> ?_⟩,fun y c' e=> ?_,I.free,I.freeC,fun p hp=> ?_,tracked ⟨oc,hoc,I.freeC x c hc⟩ hs,by simpa using I.len⟩ ⟨c,hs,.inr hc⟩
  ·exact(hs.2 b (Nat.ne_of_lt (Nat.lt_of_lt_of_le (Heap.lt_size e) (I.ok.cab x c hfn hc)))).trans (I.base.keep b o e n hb hx)
  ·obtain⟨sl,e1⟩:=I.base.slot b o e n hb hx
   exact⟨sl,(hs.2 b (Nat.ne_of_lt (Nat.lt_of_lt_of_le (Heap.lt_size e) (I.ok.cab x c hfn hc)))).trans e1⟩
  ·obtain⟨o',e1⟩:=I.base.there b o e hx
   exact⟨o',(hs.2 b (Nat.ne_of_lt (Nat.lt_of_lt_of_le (Heap.lt_size e) (I.ok.cab x c hfn hc)))).trans e1⟩
  ·by_cases hj:j=i
   ·subst hj
    rw[hi]at e1;cases e1;rw[List.getElem?_set_self hiσ]at e2;cases e2;exact⟨u,r,.inr ⟨.inl hk,c,hc,hc'⟩⟩
   ·rw[List.getElem?_set_ne (Ne.symm hj)]at e2
    obtain⟨u',r',q⟩:=hl j y v' e1 e2 e3;refine⟨u',r',?_⟩
    rcases q with q|⟨k,c',e,z'⟩
    ·exact .inl q
    ·refine .inr ⟨k,c',e,z'.sameBut hs ?_⟩
     rintro rfl;exact hj (a0b hN e1 (I.ok.inj _ _ _ e hc▸hi))
  ·by_cases hcc:c'=c
   ·subst hcc;exact⟨_,hc'⟩
   ·obtain⟨w2,z2⟩:=I.cell y c' e
    exact⟨w2,z2.sameBut hs hcc⟩
  ·obtain⟨e,n,ne,nf,d⟩:=I.pin p hp
   refine⟨(hs.2 p.1 ?_).trans e,n,ne,nf,d⟩;intro q;rw[q,hoc]at e;have q':oc=p.2:=Option.some.inj e;exact d w' (by rw[<- q'];exact hocd)
theorem xJ{M:Model}{Q:Unit->Shared->Prop}(I:aC X ac σ H s)(hN:X.N.Nodup)(hi:X.N[i]?=some x)(hx:oE X.env.scope x)(r:aU v u)
 (h:∀s',aC X ac (σ.set i (some v)) H s'->Q () s')(hf:X.fn x=true\/ X.env.scope.names.lookup x=some .local:=by first|exact .inl rfl|exact .inr rfl|assumption):wpAny M A (storeName X.env x u) Q E s:=
 xU I hN hi hx r (fun s' I' _=>h s' I') hf
theorem aC.call'{ch:List Addr}(I:aC X ac σ H s)(ho:s'.os=s.os)(u:Un (fC X.stack) ch H H' s.heap s'.heap)(hok:cO X.prog X.w H' s'.heap)(hg:AllBare s'.gens)
 (hch:∀b∈ch,(b∈X.ex\/ X.s₀.heap.objs.size<=b)/\b≠X.env.locals/\(∀x c,X.env.cells.lookup x=some c->c≠b)/\∀p∈X.pn++ ac,p.1≠b):aC X ac σ H' s':=by
 obtain⟨h',g',d',t',o'⟩:=s';have e:o'=s.os:=ho;subst e;exact I.call (g':=g') (t':=t') (d':=d') u hok hg hch
end
abbrev XK:=Value->Option Addr->Hp->Prop
abbrev St:=List (Option V)
abbrev VK:=V->Hp->Prop
abbrev TE:=St->Hp->VK->Prop
abbrev TT:=St->Hp->(Bool->Hp->Prop)->Prop
abbrev TA:=St->Hp->(List V->Hp->Prop)->Prop
structure gM where
 nx:St->Hp->Prop
 rt:VK
 bk:St->Hp->Prop:=fun _ _=>False
 ct:St->Hp->Prop:=fun _ _=>False
abbrev TS:=gM->St->Hp->Prop
variable{ta tc te tl:TE}{tb:TS}{σ:St}
def EP(X:Cx)(ac:List (Addr×Obj))(σ:St)(Q:VK)(u:Value)(s':Shared):Prop:=∃v H',aC X ac σ H' s'/\aU v u/\Q v H'
def TP(X:Cx)(ac:List (Addr×Obj))(σ:St)(Q:Bool->Hp->Prop)(b:Bool)(s':Shared):Prop:=∃H',aC X ac σ H' s'/\Q b H'
def AP(X:Cx)(ac:List (Addr×Obj))(σ:St)(Q:List V->Hp->Prop)(us:List Value)(s':Shared):Prop:=∃vs H',aC X ac σ H' s'/\aS vs us/\Q vs H'
def SP(X:Cx)(ac:List (Addr×Obj))(D:gM)(f:Flow)(s':Shared):Prop:=
 match f with
 | .next=>∃σ' H',aC X ac σ' H' s'/\D.nx σ' H'
 | .brk=>∃σ' H',aC X ac σ' H' s'/\D.bk σ' H'
 | .cont=>∃σ' H',aC X ac σ' H' s'/\D.ct σ' H'
 | .ret u=>∃v σ' H',aC X ac σ' H' s'/\aU v u/\D.rt v H'
def PE(X:Cx)(e:Expr)(t:TE):Prop:=
 ∀(ac:List (Addr×Obj)) (s:Shared) (σ:St) (H:Hp) (Q:VK),aC X ac σ H s->t σ H Q->wpAny (model X.prog X.w) X.A (eval e X.env) (EP X ac σ Q) X.xe s
def PT(X:Cx)(e:Expr)(t:TT):Prop:=
 ∀(ac:List (Addr×Obj)) (s:Shared) (σ:St) (H:Hp) (Q:Bool->Hp->Prop),aC X ac σ H s->t σ H Q->wpAny (model X.prog X.w) X.A (isTrue e X.env (eval e X.env)) (TP X ac σ Q) X.xe s
def PW(X:Cx)(e:Expr)(t:TT):Prop:=
 ∀(whole:Sem Value) (ac:List (Addr×Obj)) (s:Shared) (σ:St) (H:Hp) (Q:Bool->Hp->Prop),aC X ac σ H s->t σ H Q->wpAny (model X.prog X.w) X.A (isTrue e X.env whole) (TP X ac σ Q) X.xe s
theorem PW.pt{t:TT}(h:PW X e t):PT X e t:=h _
def PA(X:Cx)(es:List Expr)(t:TA):Prop:=
 ∀(pos:Pos) (ac:List (Addr×Obj)) (s:Shared) (σ:St) (H:Hp) (Q:List V->Hp->Prop),aC X ac σ H s->t σ H Q->wpAny (model X.prog X.w) X.A (spliced (backTo pos (starEach es X.env))) (AP X ac σ Q) X.xe s
def PS(X:Cx)(st:Stmt)(t:TS):Prop:=
 ∀(ac:List (Addr×Obj)) (s:Shared) (σ:St) (H:Hp) (D:gM),aC X ac σ H s->t D σ H->wpAny (model X.prog X.w) X.A (exec st X.env) (SP X ac D) X.xe s
def dP(X:Cx)(st:List Stmt)(t:TS):Prop:=
 ∀(ac:List (Addr×Obj)) (s:Shared) (σ:St) (H:Hp) (D:gM),aC X ac σ H s->t D σ H->wpAny (model X.prog X.w) X.A (execs st X.env) (SP X ac D) X.xe s
theorem aP{α:Type}{t:Sem α}{Q Q':α->Shared->Prop}{M:Model}{s:Shared}(h:wpAny M A t Q E s)(hQ:∀a s,Q a s->Q' a s):wpAny M A t Q' E s:=wpAny_mono h hQ fun _ _ x=>x
section
theorem bin{a b:Expr}{tb:TE}(ha:PE X a ta)(hb:PE X b tb){s:Shared}{R:V->V->Hp->Prop}(I:aC X ac σ H s)(h:ta σ H fun x H1=>tb σ H1 fun y H2=>R x y H2)
 {α:Type}{Q:α->Shared->Prop}{f:Value->Value->Sem α}
 (hf:∀v u s2 x y H2,aC X ac σ H2 s2->aU x v->aU y u->R x y H2->wpAny (model X.prog X.w) X.A (f v u) Q X.xe s2):
 wpAny (model X.prog X.w) X.A (eval a X.env) (fun v s₁=>wpAny (model X.prog X.w) X.A (eval b X.env) (fun u s₂=>wpAny (model X.prog X.w) X.A (f v u) Q X.xe s₂) X.xe s₁) X.xe s:=by
 refine aP (ha ac s σ H _ I h) ?_;rintro v s1 ⟨x,H1,I1,r1,q1⟩;refine ?_;refine aP (hb ac s1 σ H1 _ I1 q1) ?_;rintro u s2 ⟨y,H2,I2,r2,q2⟩;refine ?_;exact hf v u s2 x y H2 I2 r1 r2 q2
def eV(i:Nat):TE:=fun σ H Q=>∃v,σ[i]?=some (some v)/\Q v H
def tC(v:V):TE:=fun _ H Q=>Q v H
theorem a34(hN:X.N[i]?=some x)(hv:uH X.env.scope x)(hd:(x==("__debug__":Str))=false:=by decide)(hcd:(x==("__classdict__":Str))=false:=by decide):PE X (.Name x pos) (eV i):=by
 intro ac s σ H Q I h;obtain⟨v,e,h⟩:=h;obtain⟨m,hn,hl⟩:=I.loc;obtain⟨u,r,l⟩:=hl i x v hN e hv;have fin:EP X ac σ Q u s:=⟨v,H,I,r,h⟩
 rcases l with⟨hk,hm⟩|⟨hk,c,hc,hcell⟩
 ·exact wpAny_Name (wpAny_loadName_local I.ok.kind hk hn hm fin) hd
 ·rcases hk with hk|hk
  ·exact wpAny_Name (wpAny_loadName_cell I.ok.kind hk hc hcell fin) hd
  ·exact wpAny_Name (wpAny_loadName_free I.ok.kind hk hc hcell fin hcd) hd
theorem aT{i j pos}:PE X (.Constant (.int i) j pos) (tC (.int i)):=fun _ _ _ H _ I h=>wpAny_Constant_int ⟨.int i,H,I.tok _,⟨_,rfl⟩,h⟩
theorem fA{b j pos}:PE X (.Constant (.bool b) j pos) (tC (.bl b)):=fun _ _ _ H _ I h=>Constant_bool ⟨.bl b,H,I,rfl,h⟩
theorem fM{j pos}:PE X (.Constant .none j pos) (tC .non):=fun _ _ _ H _ I h=>Constant_none ⟨.non,H,I,rfl,h⟩
theorem eL{x j pos}:PE X (.Constant (.str x) j pos) (tC (.str x)):=fun _ _ _ H _ I h=>Calls.Constant_str ⟨.str x,H,I.tok _,⟨_,rfl⟩,h⟩
def Gl(X:Cx)(x:Str):Prop:=X.env.kindOf x=some .globalImplicit
theorem nR{s:Shared}(I:aC X ac σ H s)(hg:Gl X x)(hm:X.mg x=some u)(h:Q u s)
 (hd:(x==("__debug__":Str))=false:=by decide):wpAny (model X.prog X.w) X.A (eval (.Name x pos) X.env) Q E s:=
 Calls.Name_function_global I.ok.kind hg (Calls.loadGlobal_global (by rw[I.ok.glob];exact I.mod.glob.keeps I.bk) hm h) hd
theorem lZ{s:Shared}(I:aC X ac σ H s)(hg:Gl X x)(hm:X.mg x=none)(hv:bootBuiltins x=some u)(h:Q u s)
 (hn:x≠ "__name__":=by decide)(hd:(x==("__debug__":Str))=false:=by decide):wpAny (model X.prog X.w) X.A (eval (.Name x pos) X.env) Q E s:=by
 obtain⟨mb,h1,h2⟩:=I.mod.blt;exact Calls.Name_function_global I.ok.kind hg (Calls.loadGlobal_builtin (by rw[I.ok.glob];exact I.mod.glob.keeps I.bk) hm (by rw[I.ok.blt];exact h1.keeps I.bk) ((h2 x hn).trans hv) h) hd
theorem a0J(hg:Gl X x)(hm:X.mg x=some u)(r:aU v u)(hd:(x==("__debug__":Str))=false:=by decide):PE X (.Name x pos) (tC v):=
 fun _ _ _ H _ I h=>nR I hg hm ⟨v,H,I,r,h⟩ hd
theorem a22(hg:Gl X x)(hm:X.mg x=none)(hv:bootBuiltins x=some u)(r:aU v u)(hn:x≠ "__name__":=by decide)(hd:(x==("__debug__":Str))=false:=by decide):PE X (.Name x pos) (tC v):=
 fun _ _ _ H _ I h=>lZ I hg hm hv ⟨v,H,I,r,h⟩ hn hd
variable{a b:Expr}{tb:TE}
def PC(X:Cx)(op:CmpOp)(a b:Expr)(t:TE):Prop:=
 ∀(ac:List (Addr×Obj)) (s:Shared) (σ:St) (H:Hp) (Q:VK),aC X ac σ H s->t σ H Q->
  wpAny (model X.prog X.w) X.A (eval a X.env) (fun v s₁=>wpAny (model X.prog X.w) X.A (eval b X.env) (fun u s₂=>wpAny (model X.prog X.w) X.A (compareOp op v u) (EP X ac σ Q) X.xe s₂) X.xe s₁) X.xe s
theorem yI(b:Expr){op:CmpOp}(h:op≠ .In)(h2:op≠ .NotIn):behindInMarks op b=false:=by
 have e1:(op==CmpOp.In)=false:=by cases op<;>first|rfl|exact absurd rfl h
 have e2:(op==CmpOp.NotIn)=false:=by cases op<;>first|rfl|exact absurd rfl h2
 cases b<;>simp[behindInMarks,e1,e2]
def tB(t:TE):TT:=fun σ H Q=>t σ H fun x H1=>∃c,x= .bl c/\Q c H1
theorem a0C{op:CmpOp}{t:TE}(h:PC X op a b t)(h1:behindInMarks op b=false:=by first|exact yI _ (by decide) (by decide)|rfl):PE X (.Compare a [op] [b] pos) t:=fun ac s σ H Q I hw=>wpAny_Compare1 (h ac s σ H Q I hw) h1
theorem gW{op:CmpOp}{t:TE}(h:PC X op a b t)(h1:behindInMarks op b=false:=by first|exact yI _ (by decide) (by decide)|rfl):PT X (.Compare a [op] [b] pos) (tB t):=by
 intro ac s σ H Q I hw;refine wpAny_isTrue_Compare1 (aP (h ac s σ H _ I hw) fun v s1 h1=>aP h1 fun u s2 h2=>aP h2 ?_) h1;rintro c s3 ⟨x,H1,I1,r1,q1⟩;refine ?_;obtain⟨d,rfl,q⟩:=q1;cases r1;exact wpAny_truthy_bool ⟨H1,I1,q⟩
theorem cU{t:TE}(h:PE X e t)(he:∀whole,isTrue e X.env whole=(do let v<- whole;standAt e.pos;holding [v] (truthy v)):=by intro _;rfl):PT X e (tB t):=by
 intro ac s σ H Q I hw;refine isTrue_plain (aP (h ac s σ H _ I hw) ?_) (he _);rintro v s1 ⟨x,H1,I1,r1,q1⟩;refine ?_;obtain⟨d,rfl,q⟩:=q1;cases r1;exact wpAny_truthy_bool ⟨H1,I1,q⟩
variable{tA tB':TT}{dU:List Expr}
def tAnd(t u:TT):TT:=fun σ H Q=>t σ H fun c H1=>if c=true then u σ H1 Q else Q false H1
def tOr(t u:TT):TT:=fun σ H Q=>t σ H fun c H1=>if c=true then Q true H1 else u σ H1 Q
def tNot(t:TT):TT:=fun σ H Q=>t σ H fun c H1=>Q (!c) H1
theorem lV(ha:PT X a tA):PW X (.BoolOp .And [a] pos) tA:=by
 intro wh ac s σ H Q I h;refine isTrue_and (aP (ha ac s σ H Q I h) fun c s1 e=> ?_)
 cases c with
 |true=>exact isTrue_and_nil e
 |false=>exact e
theorem eM(ha:PT X a tA):PW X (.BoolOp .Or [a] pos) tA:=by
 intro wh ac s σ H Q I h;refine isTrue_or (aP (ha ac s σ H Q I h) fun c s1 e=> ?_)
 cases c with
 |false=>exact isTrue_or_nil e
 |true=>exact e
theorem mS(ha:PT X a tA)(hb:PW X (.BoolOp .And (b::dU) pos) tB'):PW X (.BoolOp .And (a::b::dU) pos) (tAnd tA tB'):=by
 intro wh ac s σ H Q I h;refine isTrue_and (aP (ha ac s σ H _ I h) ?_);rintro c s1 ⟨H1,I1,q1⟩;refine ?_
 cases c with
 |true=>exact hb wh ac s1 σ H1 Q I1 q1
 |false=>exact⟨H1,I1,q1⟩
theorem dO(ha:PT X a tA)(hb:PW X (.BoolOp .Or (b::dU) pos) tB'):PW X (.BoolOp .Or (a::b::dU) pos) (tOr tA tB'):=by
 intro wh ac s σ H Q I h;refine isTrue_or (aP (ha ac s σ H _ I h) ?_);rintro c s1 ⟨H1,I1,q1⟩;refine ?_
 cases c with
 |true=>exact⟨H1,I1,q1⟩
 |false=>exact hb wh ac s1 σ H1 Q I1 q1
theorem cV(ha:PT X a tA):PT X (.UnaryOp .Not a pos) (tNot tA):=by
 intro ac s σ H Q I h;exact isTrue_not (ha ac s σ H (fun c H1=>Q (!c) H1) I h)
def a1V(ta tb:TE):TE:=fun σ H Q=>ta σ H fun x H1=>∃c,x= .bl c/\if c=true then tb σ H1 Q else Q (.bl false) H1
def tOrV(ta tb:TE):TE:=fun σ H Q=>ta σ H fun x H1=>∃c,x= .bl c/\if c=true then Q (.bl true) H1 else tb σ H1 Q
def a1h(ta:TE):TE:=fun σ H Q=>ta σ H fun x H1=>∃c,x= .bl c/\Q (.bl (!c)) H1
theorem kB{op}{t:TE}(h:PE X a t):PE X (.BoolOp op [a] pos) t:=fun ac s σ H Q I hw=>BoolOp_one (h ac s σ H Q I hw)
theorem iX(ha:PE X a ta)(hb:PE X (.BoolOp .And (b::dU) pos) tb):PE X (.BoolOp .And (a::b::dU) pos) (a1V ta tb):=by
 intro ac s σ H Q I h;refine BoolOp_and (aP (ha ac s σ H _ I h) ?_);rintro v s1 ⟨x,H1,I1,r1,q1⟩;refine ?_;obtain⟨c,rfl,q1⟩:=q1;cases r1;refine wpAny_truthy_bool ?_
 cases c with
 |true=>exact hb ac s1 σ H1 Q I1 q1
 |false=>exact⟨.bl false,H1,I1,rfl,q1⟩
theorem a1r(ha:PE X a ta)(hb:PE X (.BoolOp .Or (b::dU) pos) tb):PE X (.BoolOp .Or (a::b::dU) pos) (tOrV ta tb):=by
 intro ac s σ H Q I h;refine BoolOp_or (aP (ha ac s σ H _ I h) ?_);rintro v s1 ⟨x,H1,I1,r1,q1⟩;refine ?_;obtain⟨c,rfl,q1⟩:=q1;cases r1;refine wpAny_truthy_bool ?_
 cases c with
 |false=>exact hb ac s1 σ H1 Q I1 q1
 |true=>exact⟨.bl true,H1,I1,rfl,q1⟩
theorem wL(ha:PE X a ta):PE X (.UnaryOp .Not a pos) (a1h ta):=by
 intro ac s σ H Q I h;refine UnaryOp_ (aP (ha ac s σ H _ I h) ?_);rintro v s1 ⟨x,H1,I1,r1,q1⟩;refine ?_;obtain⟨c,rfl,q1⟩:=q1;cases r1;exact not_of (wpAny_truthy_bool ⟨.bl (!c),H1,I1,rfl,q1⟩)
end
def aN(K:Fg)(H:Hp)(a:Addr)(xs:List V):Prop:=
 Rd H a (.lst xs)\/
  ∃(o:Obj) (its:Array Value) (n:Nat),K.lookup a=some o/\o.cls= .type "list" /\o.dict=none/\o.data= .seq its n/\its.size<=sizeLine/\aS xs its.toList
def dG(K:Fg)(H:Hp)(a:Addr)(xs:List V):Prop:=
 Rd H a (.tup xs)\/
  ∃(o:Obj) (its:Array Value) (n:Nat),K.lookup a=some o/\o.cls= .type "tuple" /\o.data= .seq its n/\its.size<=sizeLine/\aS xs its.toList
noncomputable def absV:Value->Option V
 | .none=>some .non
 | .bool b=>some (.bl b)
 | .int i _=>some (.int i)
 | .str x _=>some (.str x)
 | .bytes b _=>some (.byt b)
 | .float b _=>some (.flt b)
 | .ref a=>some (.ref a)
 | .type n=>some (.ty n)
 |_=>none
theorem aU.abs{x:V}(r:aU x u):absV u=some x:=by
 cases x with
 |non=>cases r;rfl
 |bl _=>cases r;rfl
 |int _=>obtain⟨t,rfl⟩:=r;rfl
 |str _=>obtain⟨t,rfl⟩:=r;rfl
 |byt _=>obtain⟨t,rfl⟩:=r;rfl
 |flt _=>obtain⟨t,rfl⟩:=r;rfl
 |ref _=>cases r;rfl
 |ty _=>cases r;rfl
theorem aU.inj{x:V}(r:aU x u)(q:aU y u):x=y:=Option.some.inj (r.abs.symm.trans q.abs)
theorem aS.inj:∀{xs ys:List V} {us:List Value},aS xs us->aS ys us->xs=ys
 |_,_,_,.nil,.nil=>rfl
 |_,_,_,.cons r t,.cons r' t'=>by rw[r.inj r',aS.inj t t']
section
variable{s:Shared}
theorem aN.of(h:H a=some (.lst xs)):aN K H a xs:=.inl (.inl h)
theorem dG.of(h:H a=some (.tup xs)):dG K H a xs:=.inl (.inl h)
theorem aC.list(I:aC X ac σ H s)(h:aN X.K H a xs):∃its:List Value,aS xs its/\PlainL s.heap a its.toArray/\xs.length<=sizeLine:=by
 rcases h with h|⟨o,its,n,hk,hc,hd,hs,hz,r⟩
 ·obtain⟨z,its,n,r,e⟩:=h.ok I.hok
  exact⟨its,r,⟨_,n,e,rfl,rfl,rfl⟩,z⟩
 ·refine⟨its.toList,r,⟨o,n,I.kIn a o hk,hc,hd,by simpa using hs⟩,?_⟩
  have e:=r.length;simp only[Array.length_toList]at e;omega
theorem aC.tuple(I:aC X ac σ H s)(h:dG X.K H a xs):∃its:List Value,aS xs its/\IsTup s.heap a its.toArray/\xs.length<=sizeLine:=by
 rcases h with h|⟨o,its,n,hk,hc,hs,hz,r⟩
 ·obtain⟨z,its,r,p⟩:=h.ok I.hok
  exact⟨its,r,p,z⟩
 ·refine⟨its.toList,r,⟨o,I.kIn a o hk,hc,n,by simpa using hs⟩,?_⟩
  have e:=r.length;simp only[Array.length_toList]at e;omega
theorem aC.list_inj(I:aC X ac σ H s)(h:aN X.K H a xs)(h':aN X.K H a ys):xs=ys:=by
 obtain⟨its,r,⟨o,n,e,_,_,d⟩,_⟩:=I.list h;obtain⟨its',r',⟨o',n',e',_,_,d'⟩,_⟩:=I.list h';rw[e]at e';cases e';rw[d]at d'
 injection d' with d1 _
 have:its=its':=by simpa using congrArg Array.toList d1
 subst this;exact r.inj r'
end
abbrev Cx.wish(X:Cx)(E:Value->Shared->Prop):Cx:={X with xe:=E}
abbrev Cx.nox(X:Cx):Cx:=X.wish fun _ _=>False
theorem Cx.Ok.wish(ok:X.Ok)(E:Value->Shared->Prop):(X.wish E).Ok:=
 ⟨ok.mod,ok.kind,ok.glob,ok.blt,ok.above,ok.inj,ok.has,ok.cab,ok.hd,ok.frames,ok.stk,ok.exf,ok.bs,ok.bsz,ok.noex,ok.exfs,ok.funs,ok.frf⟩
theorem Cx.Ok.unwish(ok:(X.wish E).Ok):X.Ok:=
 ⟨ok.mod,ok.kind,ok.glob,ok.blt,ok.above,ok.inj,ok.has,ok.cab,ok.hd,ok.frames,ok.stk,ok.exf,ok.bs,ok.bsz,ok.noex,ok.exfs,ok.funs,ok.frf⟩
section
variable{s:Shared}
theorem aC.wish(I:aC X ac σ H s)(E:Value->Shared->Prop):aC (X.wish E) ac σ H s:=⟨I.ok.wish E,I.os,I.bare,I.base,I.loc,I.cell,I.free,I.freeC,I.pin,I.hok,I.len⟩
theorem aC.unwish(I:aC (X.wish E) ac σ H s):aC X ac σ H s:=⟨I.ok.unwish,I.os,I.bare,I.base,I.loc,I.cell,I.free,I.freeC,I.pin,I.hok,I.len⟩
theorem SP.unwish{D:gM}{f:Flow}(h:SP (X.wish E) ac D f s'):SP X ac D f s':=by
 cases f with
 |next=>obtain⟨σ',H',I,q⟩:=h;exact⟨σ',H',I.unwish,q⟩
 |brk=>obtain⟨σ',H',I,q⟩:=h;exact⟨σ',H',I.unwish,q⟩
 |cont=>obtain⟨σ',H',I,q⟩:=h;exact⟨σ',H',I.unwish,q⟩
 |ret u=>obtain⟨v,σ',H',I,r,q⟩:=h;exact⟨v,σ',H',I.unwish,r,q⟩
theorem dP.nox{st:List Stmt}{t:TS}(h:dP X.nox st t):dP X st t:=fun ac s σ H D I hw=>
 wpAny_mono (h ac s σ H D (I.wish _) hw) (fun _ _ q=>q.unwish) fun _ _ z=>False.elim z
end
section
variable{dU:List Stmt}{t u:TS}
def a2N:TS:=fun D σ H=>D.nx σ H
def tSeq(t u:TS):TS:=fun D σ H=>t {D with nx:=u D} σ H
theorem bN:dP X [] a2N:=fun _ _ σ H _ I h=>wpAny_execs_nil ⟨σ,H,I,h⟩
theorem aG(h1:PS X st t)(h2:dP X dU u):dP X (st::dU) (tSeq t u):=by
 intro ac s σ H D I h;refine wpAny_execs_cons (aP (h1 ac s σ H {D with nx:=u D} I h) fun f s1 q=> ?_)
 cases f with
 |next=>
  obtain⟨σ',H',I',q⟩:=q;exact h2 ac s1 σ' H' D I' q
 |ret v=>exact q
 |brk=>exact q
 |cont=>exact q
theorem aH(h1:PS X st t):dP X [st] t:=by
 intro ac s σ H D I h;refine wpAny_execs_cons (aP (h1 ac s σ H D I h) fun f s1 q=> ?_)
 cases f with
 |next=>exact wpAny_execs_nil q
 |ret v=>exact q
 |brk=>exact q
 |cont=>exact q
theorem aC.quiet{s:Shared}(I:aC X ac σ H s):interactive X.env=false:=by simp[interactive,I.ok.kind]
def a3d(te:TE):TS:=fun D σ H=>te σ H fun _ H1=>D.nx σ H1
theorem bL(he:PE X e te)(hs:swapsWith e none pos.line X.env=pure false:=by rfl):PS X (.Expr e pos) (a3d te):=by
 intro ac s σ H D I h;refine wpAny_Expr_any (aP (he ac s σ H _ I h) ?_) I.quiet hs;rintro v s1 ⟨x,H1,I1,r1,q1⟩;exact⟨σ,H1,I1,q1⟩
def tRet(te:TE):TS:=fun D σ H=>te σ H D.rt
theorem bM(he:PE X e te):PS X (.Return (some e) pos) (tRet te):=by
 intro ac s σ H D I h;refine wpAny_Return_some (aP (he ac s σ H _ I h) ?_);rintro v s1 ⟨x,H1,I1,r1,q1⟩;exact⟨x,σ,H1,I1,r1,q1⟩
def tIfS(c:TT)(t u:TS):TS:=fun D σ H=>c σ H fun b H1=>if b=true then t D σ H1 else u D σ H1
theorem bF{c:Expr}{a b:List Stmt}{tc:TT}(hc:PT X c tc)(ha:dP X a t)(hb:dP X b u):PS X (.If c a b pos) (tIfS tc t u):=by
 intro ac s σ H D I h;refine wpAny_If (aP (hc ac s σ H _ I h) ?_);rintro d s1 ⟨H1,I1,q1⟩;refine ?_
 cases d with
 |true=>exact ha ac s1 σ H1 D I1 q1
 |false=>exact hb ac s1 σ H1 D I1 q1
end
abbrev TG:=V->St->Hp->(St->Hp->Prop)->Prop
abbrev iH:=List V->St->Hp->(St->Hp->Prop)->Prop
variable{g:TG}
def PG(X:Cx)(target:Expr)(t:TG):Prop:=
 ∀(ac:List (Addr×Obj)) (s:Shared) (σ:St) (H:Hp) (v:V) (u:Value) (Q:St->Hp->Prop),aC X ac σ H s->aU v u->t v σ H Q->
  wpAny (model X.prog X.w) X.A (assign target X.env u) (fun _ s'=>∃σ' H',aC X ac σ' H' s'/\Q σ' H') X.xe s
def nC(X:Cx)(ts:List Expr)(t:iH):Prop:=
 ∀(ac:List (Addr×Obj)) (s:Shared) (σ:St) (H:Hp) (vs:List V) (us:List Value) (Q:St->Hp->Prop),aC X ac σ H s->aS vs us->t vs σ H Q->
  wpAny (model X.prog X.w) X.A (assignInOrder ((assignEach ts X.env).map (·.2)) us) (fun _ s'=>∃σ' H',aC X ac σ' H' s'/\Q σ' H') X.xe s
abbrev tR:=V->V->V->Hp->(Hp->Prop)->Prop
def vQ(X:Cx)(t:tR):Prop:=
 ∀(ac:List (Addr×Obj)) (s:Shared) (σ:St) (H:Hp) (o i v:V) (ov iv u:Value) (Q:Hp->Prop),aC X ac σ H s->aU o ov->aU i iv->aU v u->t o i v H Q->
  wpAny (model X.prog X.w) X.A (setItem ov iv u) (fun _ s'=>∃H',aC X ac σ H' s'/\Q H') X.xe s
section
noncomputable def mP(i:Nat):TG:=fun v σ H Q=>Q (σ.set i (some v)) H
theorem dF(hN:X.N.Nodup)(hi:X.N[i]?=some x)(hx:oE X.env.scope x)(hf:X.fn x=true\/ X.env.scope.names.lookup x=some .local:=by first|exact .inl rfl|exact .inr rfl|assumption):PG X (.Name x pos) (mP i):=by
 intro ac s σ H v u Q I r h;exact wpAny_assign_Name (xJ I hN hi hx r (fun s' I'=>⟨_,H,I',h⟩) hf)
noncomputable def gNil:iH:=fun vs σ H Q=>vs= [] /\Q σ H
noncomputable def a2t (t:TG) (u:iH):iH:=fun vs σ H Q=>∃v r,vs=v::r/\t v σ H fun σ' H'=>u r σ' H' Q
theorem lS:nC X [] gNil:=by
 intro ac s σ H vs us Q I r h;obtain⟨e,h⟩:=h;subst e;cases r;exact assignInOrder_nil ⟨σ,H,I,h⟩
theorem fP{t:TG}{u:iH}(h1:PG X e t)(h2:nC X es u)
 (hs:(assignEach (e::es) X.env).map (·.2)=assign e X.env::(assignEach es X.env).map (·.2):=by rfl):nC X (e::es) (a2t t u):=by
 intro ac s σ H vs us Q I r h;obtain⟨v,vr,e1,h⟩:=h;subst e1
 cases r with
 |cons r rr=>
  rw[hs];refine assignInOrder_cons (aP (h1 ac s σ H _ _ _ I r h) ?_);rintro _ s1 ⟨σ1,H1,I1,q1⟩;refine ?_;exact h2 ac s1 σ1 H1 _ _ Q I1 rr q1
noncomputable def gTup (K:Fg) (n:Nat) (t:iH):TG:=fun v σ H Q=>∃a xs,v= .ref a/\dG K H a xs/\xs.length=n/\t xs σ H Q
theorem a0S{k:Nat}{t:iH}(hc:X.calm=true)(h:nC X es t)
 (hn:(assignEach es X.env).length=n:=by rfl)(hst:(assignEach es X.env).findIdx? (·.1)=none:=by rfl):PG X (.Tuple es k pos) (gTup X.K n t):=by
 intro ac s σ H v u Q I r hw;obtain⟨a,xs,e1,hq,hl,hw⟩:=hw;subst e1;cases r;obtain⟨its,rv,ht,hz⟩:=I.tuple hq;refine assign_Tuple_tuple (I.ok.hd hc) ht (by simp[hn,<- hl,rv.length]) hst fun h' hx=> ?_
 have I1:aC X ac σ H {s with heap:=h'}:=I.kept (t':=s.toks) fun b o e=>hx b o (Nat.ne_of_lt (Heap.lt_size e)) e
 exact h ac _ σ H xs _ Q I1 (by simpa using rv) hw
noncomputable def gSub (to ti:TE) (t:tR):TG:=fun v σ H Q=>to σ H fun o H1=>ti σ H1 fun i H2=>t o i v H2 fun H3=>Q σ H3
theorem oA{o i:Expr}{to ti:TE}{t:tR}(ho:PE X o to)(hi:PE X i ti)(hs:vQ X t)
 (ha:∀v,assign (.Subscript o i pos) X.env v=(do
  let ov<- holding [v] (eval o X.env)
  let iv<- holding [v,ov] (eval i X.env)
  standAt pos
  holding [v,ov,iv] (setItem ov iv v)
  release [v,ov,iv] []):=by intro _;rfl):PG X (.Subscript o i pos) (gSub to ti t):=by
 intro ac s σ H v u Q I r h;rw[ha];refine wpAny_bind (wpAny_holding (aP (ho ac s σ H _ I h) ?_));rintro ov s1 ⟨x,H1,I1,r1,q1⟩;refine ?_;refine wpAny_bind (wpAny_holding (aP (hi ac s1 σ H1 _ I1 q1) ?_));rintro iv s2 ⟨y,H2,I2,r2,q2⟩;refine ?_;refine wpAny_bind (wpAny_standAt (wpAny_bind (wpAny_holding (aP (hs ac s2 σ H2 x y v ov iv u _ I2 r1 r2 r q2) ?_))));rintro _ s3 ⟨H3,I3,q3⟩;refine ?_;exact wpAny_release ⟨σ,H3,I3,q3⟩
def sP(te:TE)(g:TG):TS:=fun D σ H=>te σ H fun x H1=>g x σ H1 D.nx
theorem jB(he:PE X e te)(hg:PG X tg g)(hs:swapsWithSole [tg] e pos.line X.env=pure false:=by rfl)(hw:swappedStores [tg] e X.env=pure none:=by rfl)
 (h1:(assignEach [tg] X.env).map (·.2)= [assign tg X.env]:=by rfl):PS X (.Assign [tg] e pos) (sP te g):=by
 intro ac s σ H D I h;refine wpAny_Assign_stores (aP (he ac s σ H _ I h) ?_) hs hw;rintro v s1 ⟨x,H1,I1,r1,q1⟩;refine ?_;rw[h1];exact aP (hg ac s1 σ H1 x v _ I1 r1 q1) fun _ s2 q=>q
theorem cN(hN:X.N.Nodup)(hi:X.N[i]?=some x)(hx:oE X.env.scope x)(he:PE X e te)(hs:swapsWith e (some (.Name x pos')) pos.line X.env=pure false:=by rfl)(hf:X.fn x=true\/ X.env.scope.names.lookup x=some .local:=by first|exact .inl rfl|exact .inr rfl|assumption):
 PS X (.Assign [.Name x pos'] e pos) (sP te (mP i)):=by
 intro ac s σ H D I h;refine wpAny_Assign_Name (aP (he ac s σ H _ I h) ?_) hs;rintro v s1 ⟨y,H1,I1,r1,q1⟩;refine ?_;exact xJ I1 hN hi hx r1 (fun s2 I2=>⟨_,H1,I2,q1⟩) hf
def a5A(c:TT)(tb:TS):TS:=fun D σ H=>∃W:Nat->St->Hp->Prop,(∃m,W m σ H)/\∀m σ H,W m σ H->
 c σ H fun b H1=>if b=true then∃N:St->Hp->Prop,(∀σ' H',N σ' H'->∃m',m'<m/\W m' σ' H')/\tb {D with nx:=N,ct:=N,bk:=D.nx} σ H1 else D.nx σ H1
theorem a44{c:Expr}{tc:TT}(hp:PassesOwn (model X.prog X.w) X.A X.env X.xe)(hc:PT X c tc)(hb:dP X body tb):PS X (.While c body [] pos) (a5A tc tb):=by
 intro ac s σ H D I h;obtain⟨W,⟨m0,w0⟩,turn⟩:=h;refine wpAny_While (codeAny_whileLoop (fun n s'=>∃σ' H',aC X ac σ' H' s'/\W n σ' H') ?_ m0 ⟨σ,H,I,w0⟩);rintro n s1 ⟨σ1,H1,I1,w1⟩;refine wpAny_passesOwn hp (aP (hc ac s1 σ1 H1 _ I1 (turn n σ1 H1 w1)) ?_);rintro b s2 ⟨H2,I2,q2⟩;refine ?_
 cases b with
 |true=>
  obtain⟨N,hN,q2⟩:=q2;rw[if_pos rfl];refine wpAny_passesOwn hp (aP (hb ac s2 σ1 H2 _ I2 q2) fun f s3 q3=> ?_)
  cases f with
  |next=>
   obtain⟨σ3,H3,I3,n3⟩:=q3;obtain⟨m',hm,w3⟩:=hN σ3 H3 n3;exact⟨m',hm,σ3,H3,I3,w3⟩
  |cont=>
   obtain⟨σ3,H3,I3,n3⟩:=q3;obtain⟨m',hm,w3⟩:=hN σ3 H3 n3;exact⟨m',hm,σ3,H3,I3,w3⟩
  |brk=>exact q3
  |ret v=>exact q3
 |false=>
  rw[if_neg Bool.false_ne_true];exact wpAny_execs_nil ⟨σ1,H2,I2,q2⟩
end
structure It where
 go:Nat->Hp->Prop
 yld:Nat->Hp->V->Hp->Prop
 stop:Nat->Hp->Prop
def gS(X:Cx)(ac:List (Addr×Obj))(H:Hp)(b:Addr):Prop:=
 H b=none/\b≠X.env.locals/\b∉X.fs/\(b∈X.ex\/ X.s₀.heap.objs.size<=b)/\(∀x c,X.env.cells.lookup x=some c->c≠b)/\∀p∈X.pn++ ac,p.1≠b
theorem aC.fpOk{s:Shared}(I:aC X ac σ H s)(hb:s.heap.objs.size<=b)(hn:H' b=none):gS X ac H' b:=by
 refine⟨hn,Nat.ne_of_gt (Nat.lt_of_lt_of_le I.lt hb),I.nofs hb,.inr (Nat.le_trans I.sz hb),fun x c e z=> ?_,fun p hp z=> ?_⟩
 ·obtain⟨v,q⟩:=I.cell x c e
  exact absurd (Nat.lt_of_lt_of_le q.lt (by rw[z];exact hb)) (Nat.lt_irrefl _)
 ·exact absurd (Nat.lt_of_lt_of_le (Heap.lt_size (I.pin p hp).1) (by rw[z];exact hb)) (Nat.lt_irrefl _)
structure jZ(P:Program)(w:World)(K:Fg)(tg:Expr)(J:It)(fp:List Addr)(it:Addr)(tn:Nat->Heap->Prop):Prop where
 mem:it∈fp
 obj:∀i h,tn i h->∀b∈fp,∃o,h.get? b=some o/\∀v,o.data≠ .cell v
 keep:∀i h h',tn i h->(∀b∈fp,∀o,h.get? b=some o->h'.get? b=some o)->tn i h'
 item:∀(X:Cx),X.prog=P->X.w=w->X.K=K->X.calm=true->∀(i:Nat) (ac:List (Addr×Obj)) (s:Shared) (σ:St) (H:Hp) (E:Value->Shared->Prop),aC X ac σ H s->(∀b∈fp,gS X ac H b)->tn i s.heap->J.go i H->
  wpAny (model P w) X.A (pyNext (.ref it)) (fun r s1=>∃u,r=some u/\
   wpAny (model P w) X.A (letOwnedTupleGo tg (.ref it) u) (fun _ s2=>∃x H',aC X ac σ H' s2/\aU x u/\J.yld i H x H'/\tn (i+ 1) s2.heap/\∀b∈fp,H' b=none) E s1) E s
 done:∀(X:Cx),X.prog=P->X.w=w->X.K=K->X.calm=true->∀(i:Nat) (ac:List (Addr×Obj)) (s:Shared) (σ:St) (H:Hp) (E:Value->Shared->Prop),aC X ac σ H s->(∀b∈fp,gS X ac H b)->tn i s.heap->J.stop i H->
  wpAny (model P w) X.A (pyNext (.ref it)) (fun r s1=>r=none/\aC X ac σ H s1) E s
 self:∀(A:Around) (i:Nat) (s:Shared) (Q:Value->Shared->Prop) (E:Value->Shared->Prop),tn i s.heap->Q (.ref it) s->wpAny (model P w) A (pyIter (.ref it)) Q E s
abbrev TI:=St->Hp->(It->Hp->Prop)->Prop
def rX(X:Cx)(ac:List (Addr×Obj))(σ:St)(tg:Expr)(R:It->Hp->Prop)(itv:Value)(s2:Shared):Prop:=
 ∃(it:Addr) (fp:List Addr) (tn:Nat->Heap->Prop) (J:It) (H':Hp),itv= .ref it/\aC X ac σ H' s2/\jZ X.prog X.w X.K tg J fp it tn/\tn 0 s2.heap/\(∀b∈fp,gS X ac H' b)/\R J H'
def PI(X:Cx)(tg iter:Expr)(wi:TI):Prop:=
 ∀(ac:List (Addr×Obj)) (s:Shared) (σ:St) (H:Hp) (R:It->Hp->Prop),aC X ac σ H s->wi σ H R->
  wpAny (model X.prog X.w) X.A (eval iter X.env) (fun v s1=>wpAny (model X.prog X.w) X.A (pyIter v) (rX X ac σ tg R) X.xe s1) X.xe s
theorem pN{M:Model}{s:Shared}{o:Obj}{n:String}{vs:Array Value}{Q:Unit->Shared->Prop}(ho:s.heap.get? it=some o)(hc:o.cls= .type n)(hd:o.data= .fields vs)
 (hn:["enumerate","zip","dict_itemiterator","dict_reverseitemiterator","odict_iterator","itertools.zip_longest","itertools.pairwise"].contains n=false)(hQ:Q () s):wpAny M A (letOwnedTupleGo tg (.ref it) u) Q E s:=by
 unfold letOwnedTupleGo;cases tg<;>first
  |exact wpAny_pure hQ
  |(cases u<;>first
   |exact wpAny_pure hQ
   | (refine wpAny_bind (wpAny_load ho ?_)
      rw[hc,hd];show wpAny M A (if(["enumerate","zip","dict_itemiterator","dict_reverseitemiterator","odict_iterator","itertools.zip_longest","itertools.pairwise"].contains n&&vs[0]?==some (rawInt _))=true then _ else _) Q E s;rw[if_neg (by intro h;rw[hn,Bool.false_and]at h;cases h)]
      exact wpAny_pure hQ))
noncomputable def lB (K:Fg) (a:Addr):It:=
 ⟨fun i H=>∃xs x,aN K H a xs/\xs[i]?=some x,fun i H x H'=>H'=H/\∀xs,aN K H a xs->xs[i]?=some x,fun i H=>∃xs,aN K H a xs/\xs.length<=i⟩
noncomputable def jL (lo:Int) (n:Nat):It:=⟨fun i _=>i<n,fun i H x H'=>H'=H/\x= .int (lo+ i),fun i _=>n<=i⟩
theorem a26(a it:Addr):jZ P w K tg (lB K a) [it] it (fun i h=>h.IsListIter it a i) where
 mem:=by simp
 obj:=fun i h st b hb=>by
  have e:b=it:=by simpa using hb
  subst e;obtain⟨o,e,c,d⟩:=st;exact⟨o,e,fun v z=>by rw[d]at z;cases z⟩
 keep:=fun i h h' st k=>st.at fun o e=>k it (by simp) o e
 item:=by
  intro X hP hw hK hc i ac s σ H E I hf st hg;subst hP hw hK;obtain⟨xs,x,hq,hx⟩:=hg;obtain⟨its,rv,p,hz⟩:=I.list hq;obtain⟨u,hu,ru⟩:=rv.get hx;obtain⟨f0,f1,f2,f3,f4,f5⟩:=hf it (by simp);refine wpAny_pyNext_list_item st p.isList (x:=u) (by simpa using hu) fun h' st' sb=> ?_
  have I1:aC X ac σ H {s with heap:=h'}:=I.turned (t':=s.toks) (fun b o hb e=>(sb.2 b hb).trans e) f0 f1 f3 f4 f5;obtain⟨o,e,c,d⟩:=id st';exact⟨u,rfl,pN (s:={s with heap:=h'}) e c d (by decide) ⟨x,H,I1,ru,⟨rfl,fun ys hy=>by rw[I.list_inj hy hq];exact hx⟩,st',fun b hb=>(hf b hb).1⟩⟩
 done:=by
  intro X hP hw hK hc i ac s σ H E I hf st hg;subst hP hw hK;obtain⟨xs,hq,hx⟩:=hg;obtain⟨its,rv,p,hz⟩:=I.list hq;obtain⟨f0,f1,f2,f3,f4,f5⟩:=hf it (by simp);have hl:=rv.length;exact wpAny_pyNext_list_end (I.ok.hd hc) st p.isList (by simp;omega) fun h' eb=>⟨rfl,I.turned (t':=s.toks) (fun b o hb e=>eb b o hb e) f0 f1 f3 f4 f5⟩
 self:=fun _ _ _ _ _ st h=>wpAny_pyIter_listiter st h
theorem a07(it:Addr)(lo:Int)(n:Nat):jZ P w K tg (jL lo n) [it] it (fun i h=>IsRangeIter h it (lo+ (i:Nat)* 1) ((n:Int)- (i:Nat)) 1) where
 mem:=by simp
 obj:=fun i h st b hb=>by
  have e:b=it:=by simpa using hb
  subst e
  exact⟨_,st,fun v z=>by
   have z':Data.fields _=Data.cell v:=z
   cases z'⟩
 keep:=fun i h h' st k=>k it (by simp) _ st
 item:=by
  intro X hP hw hK hc i ac s σ H E I hf st hg;subst hP hw hK;obtain⟨f0,f1,f2,f3,f4,f5⟩:=hf it (by simp);have W:=Walks.range (prog:=X.prog) (w:=X.w) (I.ok.hd hc) it lo 1 n;refine W.item i s _ _ hg st fun v h' tk hv st' kk=> ?_
  obtain⟨t,rfl⟩:=hv;have I1:aC X ac σ H {s with heap:=h',toks:=tk}:=I.turned (fun b o hb e=>kk b o (by simpa using hb) e) f0 f1 f3 f4 f5;refine⟨_,rfl,pN (s:={s with heap:=h',toks:=tk}) (n:= "range_iterator") st' rfl rfl (by decide) ⟨.int (lo+ i),H,I1,⟨t,?_⟩,⟨rfl,rfl⟩,st',fun b hb=>(hf b hb).1⟩⟩;rw[Int.mul_one]
 done:=by
  intro X hP hw hK hc i ac s σ H E I hf st hg;subst hP hw hK;obtain⟨f0,f1,f2,f3,f4,f5⟩:=hf it (by simp);exact wpAny_pyNext_range_end (I.ok.hd hc) st (by have:n<=i:=hg;omega) fun h' eb=>⟨rfl,I.turned (t':=s.toks) (fun b o hb e=>eb b o hb e) f0 f1 f3 f4 f5⟩
 self:=fun _ _ _ _ _ st h=>wpAny_pyIter_rangeiter st h
section
def a2w(K:Fg)(tl:TE):TI:=fun σ H R=>tl σ H fun x H1=>∃a,x= .ref a/\(∃xs,aN K H1 a xs)/\R (lB K a) H1
theorem mQ{l:Expr}(hl:PE X l tl):PI X tg l (a2w X.K tl):=by
 intro ac s σ H R I h;refine aP (hl ac s σ H _ I h) ?_;rintro v s1 ⟨x,H1,I1,r1,q1⟩;refine ?_;obtain⟨a,e,⟨xs,hq⟩,q⟩:=q1;subst e;cases r1;obtain⟨its,rv,p,hz⟩:=I1.list hq;refine wpAny_pyIter_list p.isList ?_;refine⟨s1.heap.objs.size,[s1.heap.objs.size],_,_,H1,rfl,I1.kept (t':=s1.toks) fun b o e=>Heap.get?_push_of_some _ e,a26 a _,⟨_,Heap.get?_push_size _ rfl,rfl,rfl⟩,fun b hb=> ?_,q⟩
 have e:b=s1.heap.objs.size:=by simpa using hb
 subst e;exact I1.fpOk (Nat.le_refl _) (I1.hok.fresh (Nat.le_refl _))
theorem a0z{s:Shared}{R:It->Hp->Prop}{lo hi:Int}{t u v:Tok}{tk:Nat}(I:aC X ac σ H s)(h1: -(2^ 62)<=lo)(h2:lo<2^ 62)(h3: -(2^ 62)<=hi)(h4:hi<2^ 62)
 (q:R (jL lo (hi- lo).toNat) H):wpAny (model X.prog X.w) X.A (pyIter (.ref s.heap.objs.size)) (rX X ac σ tg R) E {s with heap:=s.heap.push {cls:=.type "range",data:=.fields #[.int lo t,.int hi u,.int 1 v]},toks:=tk}:=by
 refine wpAny_pyIter_range (IsRange.new ..) (small_one h1 h2 h3 h4) ?_;have I1:aC X ac σ H {s with heap:=s.heap.push {cls:=.type "range",data:=.fields #[.int lo t,.int hi u,.int 1 v]},toks:=tk}:=I.kept fun b o e=>Heap.get?_push_of_some _ e
 refine⟨(s.heap.push {cls:=.type "range",data:=.fields #[.int lo t,.int hi u,.int 1 v]}).objs.size,[(s.heap.push {cls:=.type "range",data:=.fields #[.int lo t,.int hi u,.int 1 v]}).objs.size],_,_,H,rfl,
  I1.kept (t':=tk) fun b o e=>Heap.get?_push_of_some _ e,a07 _ lo (hi- lo).toNat,?_,fun b hb=> ?_,q⟩
 ·have e1:lo+ ((0:Nat):Int)* 1=lo:=by simp
  have e2:(((hi- lo).toNat:Nat):Int)- ((0:Nat):Int)=Builtin.Range.rangeSize lo hi 1:=by rw[rangeSize_one];split<;>omega
  show IsRangeIter _ _ (lo+ ((0:Nat):Int)* 1) ((((hi- lo).toNat:Nat):Int)- ((0:Nat):Int)) 1;rw[e1,e2];exact Heap.get?_push_size _ rfl
 ·have e:b=(s.heap.push {cls:=.type "range",data:=.fields #[.int lo t,.int hi u,.int 1 v]}).objs.size:=by simpa using hb
  subst e;exact I1.fpOk (Nat.le_refl _) (I1.hok.fresh (Nat.le_refl _))
def a0N(ta:TA):TI:=fun σ H R=>ta σ H fun vs H1=>∃j:Int,vs= [.int j] /\ -(2^ 62)<=j/\j<2^ 62/\R (jL 0 j.toNat) H1
def a19(ta:TA):TI:=fun σ H R=>ta σ H fun vs H1=>∃i j:Int,vs= [.int i,.int j] /\(-(2^ 62)<=i/\i<2^ 62/\ -(2^ 62)<=j/\j<2^ 62)/\R (jL i (j- i).toNat) H1
theorem lK{a:Expr}{ta:TA}{p:Pos}(hg:Gl X "range")(hm:X.mg "range"=none)(ha:PA X [a] ta)(hs:starEach [a] X.env= [(false,eval a X.env)]:=by rfl):PI X tg (.Call (.Name "range" p) [a] [] pos) (a0N ta):=by
 intro ac s σ H R I h;refine Call_ (lZ I hg hm boot_range (PyProof.Rows.callWith_type1 (aP (ha pos ac s σ H _ I h) ?_) hs rfl));rintro us s1 ⟨vs,H1,I1,r1,q1⟩;refine ?_;obtain⟨j,e,q1,q2,q⟩:=q1;subst e
 cases r1 with
 |cons r rr=>
  cases rr;obtain⟨t,rfl⟩:=r;exact call_range_1 (a0z I1 (by omega) (by omega) q1 q2 (by simpa using q))
theorem a09{a b:Expr}{ta:TA}{p:Pos}(hg:Gl X "range")(hm:X.mg "range"=none)(ha:PA X [a,b] ta)(hs:starEach [a,b] X.env= [(false,eval a X.env),(false,eval b X.env)]:=by rfl)(hs2:starEach [b] X.env= [(false,eval b X.env)]:=by rfl):
 PI X tg (.Call (.Name "range" p) [a,b] [] pos) (a19 ta):=by
 intro ac s σ H R I h;refine Call_ (lZ I hg hm boot_range (PyProof.Rows.callWith_type1 (aP (ha pos ac s σ H _ I h) fun us s1 ⟨vs,H1,I1,r1,q1⟩=> ?_) (by rw[hs,hs2]) (by rw[hs2];rfl)));obtain⟨i,j,e,⟨q1,q2,q3,q4⟩,q⟩:=q1;subst e
 cases r1 with
 |cons r rr=>
  cases rr with
  |cons r' rr=>
   cases rr;obtain⟨t,rfl⟩:=r;obtain⟨t',rfl⟩:=r';exact call_range_2 (a0z I1 q1 q2 q3 q4 q)
def uS(wi:TI)(g:TG)(tb:TS):TS:=fun D σ H=>wi σ H fun J H1=>∃W:Nat->Nat->St->Hp->Prop,(∃m,W 0 m σ H1)/\∀i m σ H,W i m σ H->
 (J.stop i H/\D.nx σ H)\/ (J.go i H/\∃N:St->Hp->Prop,(∀σ' H',N σ' H'->∃m',m'<m/\W (i+ 1) m' σ' H')/\∀x H',J.yld i H x H'->g x σ H' fun σ2 H2=>tb {D with nx:=N,ct:=N,bk:=D.nx} σ2 H2)
noncomputable def mO (fp:List Addr) (h:Heap):List (Addr×Obj):=fp.filterMap fun b=>(h.get? b).map fun o=>(b,o)
theorem pW{o:Obj}(hb:b∈fp)(e:h.get? b=some o):(b,o)∈mO fp h:=List.mem_filterMap.mpr ⟨b,hb,by rw[e];rfl⟩
theorem a1X{p:Addr×Obj}(hp:p∈mO fp h):p.1∈fp/\h.get? p.1=some p.2:=by
 obtain⟨b,hb,e⟩:=List.mem_filterMap.mp hp
 cases q:h.get? b with
 |none=>rw[q]at e;cases e
 |some o=>
  rw[q]at e;have e':(b,o)=p:=Option.some.inj e;subst e';exact⟨hb,q⟩
theorem aC.pinned{s:Shared}(I:aC X ac σ H s)(hf:∀b∈fp,gS X ac H b)(ho:∀b∈fp,∃o,s.heap.get? b=some o/\∀v,o.data≠ .cell v):aC X (ac++ mO fp s.heap) σ H s:=
 I.pins_of fun p hp=>(List.mem_append.mp hp).elim (fun z=>I.pin p (List.mem_append_right _ z)) fun z=>by
  obtain⟨hb,e⟩:=a1X z;obtain⟨f0,f1,f2,_⟩:=hf p.1 hb;obtain⟨o,e',d⟩:=ho p.1 hb;rw[e]at e';cases e';exact⟨e,f0,f1,f2,d⟩
theorem aC.unpinned{pl:List (Addr×Obj)}{s:Shared}(I:aC X (ac++ pl) σ H s):aC X ac σ H s:=I.pins_of fun p hp=>I.pin p (List.mem_append_right _ (List.mem_append_left _ hp))
theorem hW{wi:TI}(hp:PassesOwn (model X.prog X.w) X.A X.env X.xe)(hc:X.calm=true)(hi:PI X tg iter wi)(hg:PG X tg g)(hb:dP X body tb)
 (hs:∀x,foldedSetIterable iter X.env x=pure x:=by intro _;rfl):PS X (.For tg iter body [] pos) (uS wi g tb):=by
 intro ac s σ H D I h;refine wpAny_For (aP (hi ac s σ H _ I h) fun v s1 h1=>aP h1 fun itv s2 h2=> ?_) hs;obtain⟨it,fp,tn,J,H2,e,I2,T,st2,f2,W,⟨m0,w0⟩,turn⟩:=h2;subst e;have stat:∀{H':Hp},(∀b∈fp,H' b=none)->∀b∈fp,gS X ac H' b:=fun hn b hb=>⟨hn b hb,(f2 b hb).2⟩
 refine codeAny_forLoop_any (fun n s'=>∃i σ' H',aC X ac σ' H' s'/\tn i s'.heap/\(∀b∈fp,H' b=none)/\W i n σ' H') ?_ m0 ⟨0,σ,H2,I2,st2,fun b hb=>(f2 b hb).1,w0⟩;rintro n s3 ⟨i,σ3,H3,I3,st3,fr3,w3⟩
 rcases turn i n σ3 H3 w3 with⟨stop,qn⟩|⟨go,N,hN,step⟩
 ·refine wpAny_passesOwn hp (aP (T.done X rfl rfl rfl hc i ac s3 σ3 H3 X.xe I3 (stat fr3) st3 stop) ?_)
  rintro r s4 ⟨hr,I4⟩;refine ?_;subst hr;exact wpAny_execs_nil ⟨σ3,H3,I4,qn⟩
 ·refine wpAny_passesOwn hp (aP (T.item X rfl rfl rfl hc i ac s3 σ3 H3 X.xe I3 (stat fr3) st3 go) ?_)
  rintro r s4 ⟨u,hr,h4⟩;refine ?_;subst hr;refine wpAny_passesOwn hp (aP h4 ?_);rintro _ s5 ⟨x,H5,I5,r5,y5,st5,fr5⟩;refine ?_;have I5':=I5.pinned (stat fr5) (T.obj _ _ st5);refine wpAny_passesOwn hp (aP (hg _ s5 σ3 H5 x u _ I5' r5 (step x H5 y5)) ?_);rintro _ s6 ⟨σ6,H6,I6,q6⟩;refine ?_;refine wpAny_passesOwn hp (aP (hb _ s6 σ6 H6 _ I6 q6) fun f s7 q7=> ?_);have again:∀{σ7:St} {H7:Hp},aC X (ac++ mO fp s5.heap) σ7 H7 s7->N σ7 H7->∃m,m<n/\∃i σ' H',aC X ac σ' H' s7/\tn i s7.heap/\(∀b∈fp,H' b=none)/\W i m σ' H':=fun{σ7 H7} I7 n7=>by
   obtain⟨m',hm,w7⟩:=hN σ7 H7 n7;refine⟨m',hm,i+ 1,σ7,H7,I7.unpinned,T.keep _ _ _ st5 fun b hb o e=>(I7.pin (b,o) (List.mem_append_right _ (List.mem_append_right _ (pW hb e)))).1,fun b hb=> ?_,w7⟩;obtain⟨o,e,d⟩:=T.obj _ _ st5 b hb;exact(I7.pin (b,o) (List.mem_append_right _ (List.mem_append_right _ (pW hb e)))).2.1
  cases f with
  |next=>obtain⟨σ7,H7,I7,n7⟩:=q7;exact again I7 n7
  |cont=>obtain⟨σ7,H7,I7,n7⟩:=q7;exact again I7 n7
  |brk=>obtain⟨σ7,H7,I7,q7⟩:=q7;exact⟨σ7,H7,I7.unpinned,q7⟩
  |ret v=>obtain⟨x7,σ7,H7,I7,r7,q7⟩:=q7;exact⟨x7,σ7,H7,I7.unpinned,r7,q7⟩
end
theorem qC{D:gM}(Pv:Nat->St->Hp->Prop)(h0:Pv 0 σ H)(hl:∀i σ H,i<=xs.length->Pv i σ H->aN K H a xs)
 (hs:∀i x σ H,xs[i]?=some x->Pv i σ H->g x σ H fun σ2 H2=>tb {D with nx:=Pv (i+ 1),ct:=Pv (i+ 1),bk:=D.nx} σ2 H2)(hd:∀σ H,Pv xs.length σ H->D.nx σ H):
 ∃W:Nat->Nat->St->Hp->Prop,(∃m,W 0 m σ H)/\∀i m σ H,W i m σ H->
  ((lB K a).stop i H/\D.nx σ H)\/ ((lB K a).go i H/\∃N:St->Hp->Prop,(∀σ' H',N σ' H'->∃m',m'<m/\W (i+ 1) m' σ' H')/\∀x H',(lB K a).yld i H x H'->g x σ H' fun σ2 H2=>tb {D with nx:=N,ct:=N,bk:=D.nx} σ2 H2):=by
 refine⟨fun i m σ H=>m=xs.length- i/\i<=xs.length/\Pv i σ H,⟨xs.length,by simp,Nat.zero_le _,h0⟩,?_⟩;rintro i m σ H ⟨rfl,hi,p⟩;have q:=hl i σ H hi p;by_cases hlt:i<xs.length
 ·refine .inr ⟨⟨xs,xs[i],q,by simp[hlt]⟩,Pv (i+ 1),fun σ' H' p'=>⟨xs.length- (i+ 1),by omega,rfl,hlt,p'⟩,fun x H' y=> ?_⟩
  obtain⟨e,y⟩:=y;subst e;exact hs i x σ _ (y xs q) p
 ·have e:i=xs.length:=by omega
  subst e;exact .inl ⟨⟨xs,q,Nat.le_refl _⟩,hd σ H p⟩
theorem pO{lo:Int}{D:gM}(Pv:Nat->St->Hp->Prop)(h0:Pv 0 σ H)
 (hs:∀i σ H,i<n->Pv i σ H->g (.int (lo+ i)) σ H fun σ2 H2=>tb {D with nx:=Pv (i+ 1),ct:=Pv (i+ 1),bk:=D.nx} σ2 H2)(hd:∀σ H,Pv n σ H->D.nx σ H):
 ∃W:Nat->Nat->St->Hp->Prop,(∃m,W 0 m σ H)/\∀i m σ H,W i m σ H->
  ((jL lo n).stop i H/\D.nx σ H)\/ ((jL lo n).go i H/\∃N:St->Hp->Prop,(∀σ' H',N σ' H'->∃m',m'<m/\W (i+ 1) m' σ' H')/\∀x H',(jL lo n).yld i H x H'->g x σ H' fun σ2 H2=>tb {D with nx:=N,ct:=N,bk:=D.nx} σ2 H2):=by
 refine⟨fun i m σ H=>m=n- i/\i<=n/\Pv i σ H,⟨n,by simp,Nat.zero_le _,h0⟩,?_⟩;rintro i m σ H ⟨rfl,hi,p⟩;by_cases hlt:i<n
 ·refine .inr ⟨hlt,Pv (i+ 1),fun σ' H' p'=>⟨n- (i+ 1),by omega,rfl,hlt,p'⟩,fun x H' y=> ?_⟩
  obtain⟨e,y⟩:=y;subst e y;exact hs i σ _ hlt p
 ·have e:i=n:=by omega
  subst e;exact .inl ⟨Nat.le_refl _,hd σ H p⟩
abbrev R2:=V->V->Hp->VK->Prop
variable{r:R2}
def cM(X:Cx)(f:Value->Value->Sem Value)(r:R2):Prop:=
 ∀(ac:List (Addr×Obj)) (s:Shared) (σ:St) (H:Hp) (x y:V) (v u:Value) (Q:VK),aC X ac σ H s->aU x v->aU y u->r x y H Q->
  wpAny (model X.prog X.w) X.A (f v u) (EP X ac σ Q) X.xe s
def uA(X:Cx)(f:Value->Sem Value)(r:V->Hp->VK->Prop):Prop:=
 ∀(ac:List (Addr×Obj)) (s:Shared) (σ:St) (H:Hp) (x:V) (v:Value) (Q:VK),aC X ac σ H s->aU x v->r x H Q->
  wpAny (model X.prog X.w) X.A (f v) (EP X ac σ Q) X.xe s
def fJ(X:Cx)(f:Value)(r:List V->Hp->VK->Prop):Prop:=
 ∀(ac:List (Addr×Obj)) (s:Shared) (σ:St) (H:Hp) (xs:List V) (us:List Value) (Q:VK),aC X ac σ H s->aS xs us->r xs H Q->
  wpAny (model X.prog X.w) X.A (call f us) (EP X ac σ Q) X.xe s
def TruR(X:Cx)(r:V->Hp->(Bool->Hp->Prop)->Prop):Prop:=
 ∀(ac:List (Addr×Obj)) (s:Shared) (σ:St) (H:Hp) (x:V) (v:Value) (Q:Bool->Hp->Prop),aC X ac σ H s->aU x v->r x H Q->
  wpAny (model X.prog X.w) X.A (truthy v) (TP X ac σ Q) X.xe s
def kC(r:R2)(ta tb:TE):TE:=fun σ H Q=>ta σ H fun x H1=>tb σ H1 fun y H2=>r x y H2 Q
def tUn(r:V->Hp->VK->Prop)(ta:TE):TE:=fun σ H Q=>ta σ H fun x H1=>r x H1 Q
noncomputable def rI (C:Int->Int->Prop) (g:Int->Int->V):R2:=fun x y H Q=>∃i j,x= .int i/\y= .int j/\C i j/\Q (g i j) H
noncomputable def jO (g:Int->Int->V):R2:=fun x y H Q=>∃i j,x= .int i/\y= .int j/\Q (g i j) H
def rU(g:Int->V):V->Hp->VK->Prop:=fun x H Q=>∃i,x= .int i/\Q (g i) H
section
variable{a b c:Expr}{tb:TE}
theorem sU(ha:PE X a ta)(hb:PE X b tb){s:Shared}{R:V->V->Hp->Prop}(I:aC X ac σ H s)
 (h:ta σ H fun x H1=>tb σ H1 fun y H2=>R x y H2){f:Value->Value->Sem Value}
 (hf:∀v u s2 x y H2,aC X ac σ H2 s2->aU x v->aU y u->R x y H2->wpAny (model X.prog X.w) X.A (f v u) Q X.xe s2):
 wpAny (model X.prog X.w) X.A (eval a X.env) (fun v s₁=>wpAny (model X.prog X.w) X.A (eval b X.env) (fun u s₂=>wpAny (model X.prog X.w) X.A (f v u) Q X.xe s₂) X.xe s₁) X.xe s:=by
 refine aP (ha ac s σ H _ I h) ?_;rintro v s1 ⟨x,H1,I1,r1,q1⟩;refine ?_;refine aP (hb ac s1 σ H1 _ I1 q1) ?_;rintro u s2 ⟨y,H2,I2,r2,q2⟩;refine ?_;exact hf v u s2 x y H2 I2 r1 r2 q2
theorem aY{op:Operator}(ho:cM X (binaryOp op) r)(ha:PE X a ta)(hb:PE X b tb):PE X (.BinOp a op b pos) (kC r ta tb):=by
 intro ac s σ H Q I h;exact wpAny_BinOp (sU ha hb I h fun v u s2 x y H2 I2 rx ry q=>ho ac s2 σ H2 x y v u Q I2 rx ry q)
theorem a35{op:UnaryOp}{r:V->Hp->VK->Prop}(ho:uA X (unaryOp op) r)(ha:PE X a ta):PE X (.UnaryOp op a pos) (tUn r ta):=by
 intro ac s σ H Q I h;refine UnaryOp_ (aP (ha ac s σ H _ I h) ?_);rintro v s1 ⟨x,H1,I1,r1,q1⟩;exact ho ac s1 σ H1 x v Q I1 r1 q1
theorem qA{f:Value->Value->Sem Value}{C:Int->Int->Prop}{g:Int->Int->Int}
 (rule:∀(i j:Int) (t u:Tok) (s:Shared) (Q:Value->Shared->Prop) (E:Value->Shared->Prop),C i j->Q (.int (g i j) s.toks) {s with toks:=s.toks+ 1} ->wpAny (model X.prog X.w) X.A (f (.int i t) (.int j u)) Q E s):
 cM X f (rI C fun i j=> .int (g i j)):=by
 intro ac s σ H x y v u Q I rx ry h;obtain⟨i,j,rfl,rfl,hc,q⟩:=h;obtain⟨t,rfl⟩:=rx;obtain⟨t',rfl⟩:=ry;exact rule i j t t' s _ _ hc ⟨.int (g i j),H,I.tok _,⟨_,rfl⟩,q⟩
theorem xQ{f:Value->Value->Sem Value}{g:Int->Int->Int}
 (rule:∀(i j:Int) (t u:Tok) (s:Shared) (Q:Value->Shared->Prop) (E:Value->Shared->Prop),Q (.int (g i j) s.toks) {s with toks:=s.toks+ 1} ->wpAny (model X.prog X.w) X.A (f (.int i t) (.int j u)) Q E s):
 cM X f (jO fun i j=> .int (g i j)):=by
 intro ac s σ H x y v u Q I rx ry h;obtain⟨i,j,rfl,rfl,q⟩:=h;obtain⟨t,rfl⟩:=rx;obtain⟨t',rfl⟩:=ry;exact rule i j t t' s _ _ ⟨.int (g i j),H,I.tok _,⟨_,rfl⟩,q⟩
theorem pI{f:Value->Value->Sem Value}{g:Int->Int->Bool}
 (rule:∀(i j:Int) (t u:Tok) (s:Shared) (Q:Value->Shared->Prop) (E:Value->Shared->Prop),Q (.bool (g i j)) s->wpAny (model X.prog X.w) X.A (f (.int i t) (.int j u)) Q E s):
 cM X f (jO fun i j=> .bl (g i j)):=by
 intro ac s σ H x y v u Q I rx ry h;obtain⟨i,j,rfl,rfl,q⟩:=h;obtain⟨t,rfl⟩:=rx;obtain⟨t',rfl⟩:=ry;exact rule i j t t' s _ _ ⟨.bl (g i j),H,I,rfl,q⟩
def CDiv(i j:Int):Prop:=0<j/\j<1073741824
def CPow(i j:Int):Prop:=0<=j/\j<=1000000/\i.natAbs<2^ 64
def uK(i j:Int):Prop:=(-(2^ 64)<i/\i<2^ 64)\/ (-(2^ 64)<j/\j<2^ 64)
theorem uK.ok{i j:Int}(h:uK i j):IntMulOk i j:=by
 rcases h with⟨h1,h2⟩|⟨h1,h2⟩
 ·exact .of_left (intBits_le_64 h1 h2)
 ·exact .of_right (intBits_le_64 h1 h2)
theorem cW:cM X (binaryOp .Add) (jO fun i j=> .int (i+ j)):=xQ fun _ _ _ _ _ _ _ q=>add_int q
theorem pZ:cM X (binaryOp .Sub) (jO fun i j=> .int (i- j)):=xQ fun _ _ _ _ _ _ _ q=>sub_int q
theorem jR:cM X (binaryOp .Mult) (rI uK fun i j=> .int (i* j)):=qA fun _ _ _ _ _ _ _ hc q=>mul_int q hc.ok
theorem tL:cM X (binaryOp .FloorDiv) (rI CDiv fun i j=> .int (i/ j)):=qA fun i j _ _ _ _ _ hc q=>by
 have h1:(0:Int)<j:=hc.1;have h2:j<1073741824:=hc.2;exact floordiv_int (by omega) (by rw[Int.fdiv_eq_ediv_of_nonneg i (by omega)];exact q) (.inl (PyProof.noPylong_small (by omega)))
theorem dD:cM X (binaryOp .Mod) (rI (fun _ j=>0<j) fun i j=> .int (i% j)):=qA fun i j _ _ _ _ _ hc q=>by
 have h1:(0:Int)<j:=hc;exact mod_int' (by omega) (by rw[Int.fmod_eq_emod_of_nonneg i (by omega)];exact q)
theorem tV:cM X (binaryOp .Pow) (rI CPow fun i j=> .int (i^ j.toNat)):=qA fun _ _ _ _ _ _ _ hc q=>pow_int_small hc.1 hc.2.1 hc.2.2 q
theorem unI{f:Value->Sem Value}{g:Int->Int}
 (rule:∀(i:Int) (t:Tok) (s:Shared) (Q:Value->Shared->Prop) (E:Value->Shared->Prop),Q (.int (g i) s.toks) {s with toks:=s.toks+ 1} ->wpAny (model X.prog X.w) X.A (f (.int i t)) Q E s):
 uA X f (rU fun i=> .int (g i)):=by
 intro ac s σ H x v Q I rx h;obtain⟨i,rfl,q⟩:=h;obtain⟨t,rfl⟩:=rx;exact rule i t s _ _ ⟨.int (g i),H,I.tok _,⟨_,rfl⟩,q⟩
theorem a5s:uA X (unaryOp .USub) (rU fun i=> .int (-i)):=unI fun _ _ _ _ _ q=>neg_int q
end
noncomputable def vX:V->V->Bool
 | .non,.non=>true| .non,.int _=>true| .int _,.non=>true| .non,.bl _=>true| .bl _,.non=>true| .non,.str _=>true| .str _,.non=>true
 | .int _,.int _=>true| .bl _,.bl _=>true| .str _,.str _=>true| .byt _,.byt _=>true
 | .int _,.str _=>true| .str _,.int _=>true| .bl _,.str _=>true| .str _,.bl _=>true
 |_,_=>false
noncomputable def rEq:R2:=fun x y H Q=>vX x y=true/\Q (.bl (decide (x=y))) H
noncomputable def rNe:R2:=fun x y H Q=>vX x y=true/\Q (.bl (!decide (x=y))) H
theorem uZ{i j:Int}:decide (V.int i=V.int j)=(i==j):=by
 rw[Bool.eq_iff_iff];simp
theorem wM{i j:Bool}:decide (V.bl i=V.bl j)=(i==j):=by
 rw[Bool.eq_iff_iff];simp
theorem a0p{i j:Str}:decide (V.str i=V.str j)=(i==j):=by
 rw[Bool.eq_iff_iff];simp
theorem uW{i j:Array UInt8}:decide (V.byt i=V.byt j)=(i.toList==j.toList):=by
 rw[Bool.eq_iff_iff];cases i;cases j;simp
section
variable{a b c:Expr}{tb:TE}
theorem cJ{s:Shared}{Q:VK}{k k':Bool}(I:aC X ac σ H s)(q:Q (.bl k) H)(e:k=k'):EP X ac σ Q (.bool k') s:=by
 subst e;exact⟨.bl k,H,I,rfl,q⟩
theorem mY:cM X (compareOp .Eq) rEq:=by
 intro ac s σ H x y v u Q I rx ry h;obtain⟨hs,q⟩:=h
 cases x with
 |non=>
  cases rx
  cases y with
  |non=>cases ry;exact PySem.EqNone.eq_none_none (cJ I q (by simp))
  |bl j=>cases ry;exact PySem.EqNone.eq_none_bool (cJ I q (by simp))
  |int j=>obtain⟨t',rfl⟩:=ry;exact PySem.EqNone.eq_none_int (cJ I q (by simp))
  |str j=>obtain⟨t',rfl⟩:=ry;exact PySem.EqNone.eq_none_str (cJ I q (by simp))
  |_=>exact absurd (show false=true from hs) Bool.false_ne_true
 |bl i=>
  cases rx
  cases y with
  |non=>cases ry;exact PySem.EqNone.eq_bool_none (cJ I q (by simp))
  |bl j=>cases ry;exact eq_bool (cJ I q wM)
  |str j=>obtain⟨t',rfl⟩:=ry;exact PySem.EqMixed.eq_bool_str (cJ I q (by simp))
  |_=>exact absurd (show false=true from hs) Bool.false_ne_true
 |int i=>
  obtain⟨t,rfl⟩:=rx
  cases y with
  |non=>cases ry;exact PySem.EqNone.eq_int_none (cJ I q (by simp))
  |int j=>obtain⟨t',rfl⟩:=ry;exact eq_int (cJ I q uZ)
  |str j=>obtain⟨t',rfl⟩:=ry;exact PySem.EqMixed.eq_int_str (cJ I q (by simp))
  |_=>exact absurd (show false=true from hs) Bool.false_ne_true
 |str i=>
  obtain⟨t,rfl⟩:=rx
  cases y with
  |non=>cases ry;exact PySem.EqNone.eq_str_none (cJ I q (by simp))
  |bl j=>cases ry;exact PySem.EqMixed.eq_str_bool (cJ I q (by simp))
  |int j=>obtain⟨t',rfl⟩:=ry;exact PySem.EqMixed.eq_str_int (cJ I q (by simp))
  |str j=>obtain⟨t',rfl⟩:=ry;exact eq_str (cJ I q a0p)
  |_=>exact absurd (show false=true from hs) Bool.false_ne_true
 |byt i=>
  obtain⟨t,rfl⟩:=rx
  cases y with
  |byt j=>obtain⟨t',rfl⟩:=ry;exact W.eq_bytes (cJ I q uW)
  |_=>exact absurd (show false=true from hs) Bool.false_ne_true
 |_=>cases y<;>exact absurd (show false=true from hs) Bool.false_ne_true
theorem lU:cM X (compareOp .NotEq) rNe:=by
 intro ac s σ H x y v u Q I rx ry h;obtain⟨hs,q⟩:=h
 cases x with
 |non=>
  cases rx
  cases y with
  |non=>cases ry;exact PySem.EqNone.ne_none_none (cJ I q (by simp))
  |bl j=>cases ry;exact PySem.EqNone.ne_none_bool (cJ I q (by simp))
  |int j=>obtain⟨t',rfl⟩:=ry;exact PySem.EqNone.ne_none_int (cJ I q (by simp))
  |str j=>obtain⟨t',rfl⟩:=ry;exact PySem.EqNone.ne_none_str (cJ I q (by simp))
  |_=>exact absurd (show false=true from hs) Bool.false_ne_true
 |bl i=>
  cases rx
  cases y with
  |non=>cases ry;exact PySem.EqNone.ne_bool_none (cJ I q (by simp))
  |bl j=>cases ry;exact ne_bool (cJ I q (congrArg not wM))
  |str j=>obtain⟨t',rfl⟩:=ry;exact PySem.EqMixed.ne_bool_str (cJ I q (by simp))
  |_=>exact absurd (show false=true from hs) Bool.false_ne_true
 |int i=>
  obtain⟨t,rfl⟩:=rx
  cases y with
  |non=>cases ry;exact PySem.EqNone.ne_int_none (cJ I q (by simp))
  |int j=>obtain⟨t',rfl⟩:=ry;exact ne_int (cJ I q (congrArg not uZ))
  |str j=>obtain⟨t',rfl⟩:=ry;exact PySem.EqMixed.ne_int_str (cJ I q (by simp))
  |_=>exact absurd (show false=true from hs) Bool.false_ne_true
 |str i=>
  obtain⟨t,rfl⟩:=rx
  cases y with
  |non=>cases ry;exact PySem.EqNone.ne_str_none (cJ I q (by simp))
  |bl j=>cases ry;exact PySem.EqMixed.ne_str_bool (cJ I q (by simp))
  |int j=>obtain⟨t',rfl⟩:=ry;exact PySem.EqMixed.ne_str_int (cJ I q (by simp))
  |str j=>obtain⟨t',rfl⟩:=ry;exact ne_str (cJ I q (congrArg not a0p))
  |_=>exact absurd (show false=true from hs) Bool.false_ne_true
 |byt i=>
  obtain⟨t,rfl⟩:=rx
  cases y with
  |byt j=>obtain⟨t',rfl⟩:=ry;exact W.ne_bytes (cJ I q (congrArg not uW))
  |_=>exact absurd (show false=true from hs) Bool.false_ne_true
 |_=>cases y<;>exact absurd (show false=true from hs) Bool.false_ne_true
theorem mE:cM X (compareOp .Lt) (jO fun i j=> .bl (decide (i<j))):=pI fun _ _ _ _ _ _ _ q=>lt_int q
theorem jS:cM X (compareOp .LtE) (jO fun i j=> .bl (decide (i<=j))):=pI fun _ _ _ _ _ _ _ q=>le_int q
theorem zV:cM X (compareOp .Gt) (jO fun i j=> .bl (decide (j<i))):=pI fun _ _ _ _ _ _ _ q=>gt_int q
theorem nI:cM X (compareOp .GtE) (jO fun i j=> .bl (decide (j<=i))):=pI fun _ _ _ _ _ _ _ q=>ge_int q
theorem a2D:cM X (compareOp .In) (fun x y H Q=>∃i j,x= .str i/\y= .str j/\Q (.bl (!(Builtin.Str.occurrences j i 0 j.length 1).isEmpty)) H):=by
 intro ac s σ H x y v u Q I rx ry h;obtain⟨i,j,rfl,rfl,q⟩:=h;obtain⟨t,rfl⟩:=rx;obtain⟨t',rfl⟩:=ry;exact in_str (cJ I q rfl)
theorem nM:cM X (compareOp .Is) (fun x y H Q=>y= .non/\Q (.bl (decide (x= .non))) H):=by
 intro ac s σ H x y v u Q I rx ry h;obtain⟨rfl,q⟩:=h;cases ry;refine is_none_gen (cJ I q ?_);cases x<;>first
  |(cases rx;rfl)
  |(obtain⟨t,rfl⟩:=rx;rfl)
theorem rT:cM X (compareOp .IsNot) (fun x y H Q=>y= .non/\Q (.bl (!decide (x= .non))) H):=by
 intro ac s σ H x y v u Q I rx ry h;obtain⟨rfl,q⟩:=h;cases ry;refine isnot_none_gen (cJ I q ?_);cases x<;>first
  |(cases rx;rfl)
  |(obtain⟨t,rfl⟩:=rx;rfl)
theorem cC(b:Expr){op:CmpOp}(h:op≠ .In:=by decide)(h2:op≠ .NotIn:=by decide):behindInMarks op b=false:=by
 have e1:(op==CmpOp.In)=false:=by cases op<;>first|rfl|exact absurd rfl h
 have e2:(op==CmpOp.NotIn)=false:=by cases op<;>first|rfl|exact absurd rfl h2
 cases b<;>simp[behindInMarks,e1,e2]
theorem iV{op:CmpOp}(ho:cM X (compareOp op) r)(ha:PE X a ta)(hb:PE X b tb)(hm:behindInMarks op b=false):PE X (.Compare a [op] [b] pos) (kC r ta tb):=by
 intro ac s σ H Q I h;exact wpAny_Compare1 (sU ha hb I h fun v u s2 x y H2 I2 rx ry q=>ho ac s2 σ H2 x y v u Q I2 rx ry q) hm
def uE(t:TE):TT:=fun σ H Q=>t σ H fun x H'=>∃k,x= .bl k/\Q k H'
theorem bW{op:CmpOp}(ho:cM X (compareOp op) r)(ha:PE X a ta)(hb:PE X b tb)(hm:behindInMarks op b=false):PT X (.Compare a [op] [b] pos) (uE (kC r ta tb)):=by
 intro ac s σ H Q I h
 refine wpAny_isTrue_Compare1 (aP (ha ac s σ H _ I h) fun v s1 ⟨x,H1,I1,r1,q1⟩=>aP (hb ac s1 σ H1 _ I1 q1) fun u s2 ⟨y,H2,I2,r2,q2⟩=>
  aP (ho ac s2 σ H2 x y v u _ I2 r1 r2 q2) fun c s3 ⟨z,H3,I3,r3,k,e,q3⟩=> ?_) hm
 subst e;cases r3;exact wpAny_truthy_bool ⟨H3,I3,q3⟩
def a3k(r r':R2)(ta tb tc:TE):TE:=fun σ H Q=>ta σ H fun x H1=>tb σ H1 fun y H2=>r x y H2 fun z H3=>∃k,z= .bl k/\
 (if k=true then tc σ H3 fun w' H4=>r' y w' H4 Q else Q (.bl false) H3)
theorem sZ{op op':CmpOp}{r':R2}(ho:cM X (compareOp op) r)(ho':cM X (compareOp op') r')(ha:PE X a ta)(hb:PE X b tb)(hc:PE X c tc)
 (hm:lastMarks [op,op'] [b,c]=false:=by with_unfolding_all rfl):PT X (.Compare a [op,op'] [b,c] pos) (uE (a3k r r' ta tb tc)):=by
 intro ac s σ H Q I h
 refine isTrue_chain (aP (ha ac s σ H _ I h) fun v s1 ⟨x,H1,I1,r1,q1⟩=>test_link (aP (hb ac s1 σ H1 _ I1 q1) fun u s2 ⟨y,H2,I2,r2,q2⟩=>
  aP (ho ac s2 σ H2 x y v u _ I2 r1 r2 q2) fun d s3 ⟨z,H3,I3,r3,k,e,q3⟩=> ?_)) hm
 subst e;cases r3;refine wpAny_truthy_bool ?_
 cases k with
 |false=>
  obtain⟨k',e',q'⟩:=q3;cases e';exact ite_ff ⟨H3,I3,q'⟩
 |true=>
  refine ite_tt (test_last (aP (hc ac s3 σ H3 _ I3 q3) ?_));rintro w' s4 ⟨z',H4,I4,r4,q4⟩;refine aP (ho' ac s4 σ H4 y z' u w' _ I4 r2 r4 q4) ?_;rintro d' s5 ⟨z2,H5,I5,r5,k2,e2,q5⟩;refine ?_;subst e2;cases r5;exact wpAny_truthy_bool ⟨H5,I5,q5⟩
def wA(K:Fg)(x:V)(H:Hp)(k:Bool):Prop:=
 match x with
 | .non=>k=false
 | .bl b=>k=b
 | .int i=>k=(i !=0)
 | .str y=>y.length<=sizeLine/\k=((y.length:Int) !=0)
 | .byt y=>y.size<=sizeLine/\k=((y.size:Int) !=0)
 | .ref p=>(∃xs,aN K H p xs/\k= !xs.isEmpty)\/ (∃xs,dG K H p xs/\k= !xs.isEmpty)\/ ∃kvs,H p=some (.dK kvs)/\k= !kvs.isEmpty
 |_=>False
theorem a4u{κ:Type}{kvs:List (κ×V)}{vs:List (κ×Value)}(r:KV kvs vs):(!vs.isEmpty)= !kvs.isEmpty:=by
 cases r<;>rfl
theorem wO(r:aS xs its):(!its.toArray.isEmpty)= !xs.isEmpty:=by
 cases r<;>simp
theorem kL:(sizeLine:Nat)<2^ 63:=by rw[sizeLine_eq];decide
theorem a3D:TruR X (fun x H Q=>∃k,wA X.K x H k/\Q k H):=by
 intro ac s σ H x v Q I rx h;obtain⟨k,e,q⟩:=h;have hl:=kL;have hs:sizeLine=16777216:=sizeLine_eq
 cases x with
 |non=>
  cases rx;have e':k=false:=e;subst e';exact truthy_none ⟨H,I,q⟩
 |bl b=>
  cases rx;have e':k=b:=e;subst e';exact wpAny_truthy_bool ⟨H,I,q⟩
 |int i=>
  obtain⟨t,rfl⟩:=rx;have e':k=(i !=0):=e;subst e';exact PySem.P.truthy_int ⟨H,I,q⟩
 |str y=>
  obtain⟨t,rfl⟩:=rx;obtain⟨hy,e'⟩:y.length<=sizeLine/\k=((y.length:Int) !=0):=e;subst e';exact PySem.P.truthy_str (by omega) ⟨H,I.tok _,q⟩
 |byt y=>
  obtain⟨t,rfl⟩:=rx;obtain⟨hy,e'⟩:y.size<=sizeLine/\k=((y.size:Int) !=0):=e;subst e';exact W.truthy_bytes (by omega) ⟨H,I.tok _,q⟩
 |ref p=>
  cases rx;have e':(∃xs,aN X.K H p xs/\k= !xs.isEmpty)\/ (∃xs,dG X.K H p xs/\k= !xs.isEmpty)\/ ∃kvs,H p=some (.dK kvs)/\k= !kvs.isEmpty:=e
  rcases e' with⟨xs,hx,e'⟩|⟨xs,hx,e'⟩|⟨kvs,hx,e'⟩
  ·subst e'
   obtain⟨its,r,pl,hz⟩:=I.list hx;have hlen:=r.length;exact wpAny_truthy_list pl.isList (by simp only[List.size_toArray];omega) ⟨H,I.tok _,by rw[wO r];exact q⟩
  ·subst e'
   obtain⟨its,r,pl,hz⟩:=I.tuple hx;have hlen:=r.length;exact truthy_tuple pl (by simp only[List.size_toArray];omega) ⟨H,I.tok _,by rw[wO r];exact q⟩
  ·subst e'
   obtain⟨hz,hS,vs,r,m⟩:kvs.length<=sizeLine/\(p==sysModules)=false/\∃vs,KV kvs vs/\s.heap.DictOf (cP X.prog X.w) p vs:=I.hok p _ hx;have hlen:kvs.length=vs.length:=Paired.length r;exact wpAny_truthy_dict hS m (by omega) ⟨H,I.tok _,by rw[a4u r];exact q⟩
 |_=>exact(show False from e).elim
theorem a4I(ha:PE X a ta)(he:∀whole,isTrue a X.env whole=(do let v<- whole;standAt a.pos;holding [v] (truthy v))):
 PT X a (fun σ H Q=>ta σ H fun x H'=>∃k,wA X.K x H' k/\Q k H'):=by
 intro ac s σ H Q I h;refine isTrue_plain (aP (ha ac s σ H _ I h) ?_) (he _);rintro v s1 ⟨x,H1,I1,r1,q1⟩;exact a3D ac s1 σ H1 x v Q I1 r1 q1
theorem jQ{x:V}(r:aS [x] us):∃u,us= [u] /\aU x u:=by
 cases r with
 |cons r1 r2=>cases r2;exact⟨_,rfl,r1⟩
theorem a2a:fJ X (.builtin "abs") (fun xs H Q=>∃i,xs= [.int i] /\Q (.int (if i<0 then-i else i)) H):=by
 intro ac s σ H xs us Q I r h;obtain⟨i,rfl,q⟩:=h;obtain⟨u,rfl,t,rfl⟩:=jQ r;exact call_abs_int fun u tk=>⟨.int (if i<0 then-i else i),H,I.tok _,⟨_,rfl⟩,q⟩
def LenV(K:Fg)(x:V)(H:Hp)(n:Nat):Prop:=
 match x with
 | .str y=>y.length<=sizeLine/\n=y.length
 | .byt y=>y.size<=sizeLine/\n=y.size
 | .ref p=>(∃xs,aN K H p xs/\n=xs.length)\/ ∃xs,dG K H p xs/\n=xs.length
 |_=>False
theorem eW:fJ X (.builtin "len") (fun xs H Q=>∃x n,xs= [x] /\LenV X.K x H n/\Q (.int n) H):=by
 intro ac s σ H xs us Q I r h;obtain⟨x,n,rfl,e,q⟩:=h;obtain⟨u,rfl,rx⟩:=jQ r;have hl:=kL;have hs:sizeLine=16777216:=sizeLine_eq
 cases x with
 |str y=>
  obtain⟨t,rfl⟩:=rx;obtain⟨hy,e'⟩:y.length<=sizeLine/\n=y.length:=e;subst e';exact len_str (by omega) ⟨.int _,H,I.tok _,⟨_,rfl⟩,q⟩
 |byt y=>
  obtain⟨t,rfl⟩:=rx;obtain⟨hy,e'⟩:y.size<=sizeLine/\n=y.size:=e;subst e';exact W.len_bytes (by omega) ⟨.int _,H,I.tok _,⟨_,rfl⟩,q⟩
 |ref p=>
  cases rx;have e':(∃xs,aN X.K H p xs/\n=xs.length)\/ ∃xs,dG X.K H p xs/\n=xs.length:=e
  rcases e' with⟨xs,hx,e'⟩|⟨xs,hx,e'⟩
  ·subst e'
   obtain⟨its,r',pl,hz⟩:=I.list hx;have hlen:=r'.length;exact Calls.call_len_list pl.isList (by simp only[List.size_toArray];omega) ⟨.int xs.length,H,I.tok _,⟨_,by simp only[List.size_toArray];rw[hlen]⟩,q⟩
  ·subst e'
   obtain⟨its,r',pl,hz⟩:=I.tuple hx;have hlen:=r'.length;exact len_tuple pl (by simp only[List.size_toArray];omega) ⟨.int xs.length,H,I.tok _,⟨_,by simp only[List.size_toArray];rw[hlen]⟩,q⟩
 |_=>exact(show False from e).elim
end
structure jY(h:Heap)(x dx C:Addr)(mA:Str->Option Value):Prop where
 obj:h.get? x=some (W.instObj C dx)
 ns:h.Ns1 dx mA
 ne:dx≠x
theorem a4f{mA:Str->Option Value}(n:h.Ns1 dx mA):∃od,h.get? dx=some od/\∀name,W.lookIn name od=some (mA name):=by
 obtain⟨o,es,ep,ho,hd,hk,_,hm⟩:=n;refine⟨o,ho,fun name=> ?_⟩;have e:=hm name;unfold nsFind findBy at e;rw[<- Array.find?_toList]at e;unfold W.lookIn;rw[hd];dsimp only;split
 ·rename_i y q
  rw[q]at e;exact congrArg some e
 ·rename_i q
  rw[q]at e
  have a:es.toList.any (·.refKey)=false:=by
   rw[List.any_eq_false];intro y hy;obtain⟨z,t,hkey⟩:=hk y (Array.mem_toList_iff.mp hy);simp[DictEntry.refKey,hkey]
  have a':¬es.toList.any (·.refKey)=true:=by rw[a];exact Bool.false_ne_true
  rw[if_neg a'];exact congrArg some e
theorem jY.look{x:Addr}{mA:Str->Option Value}(I:jY h x dx C mA):∃od,W.InstAt h x (W.instObj C dx) C (some od)/\∀name,W.lookIn name od=some (mA name):=
 let ⟨od,ho,hl⟩:=a4f I.ns
 ⟨od,⟨I.obj,rfl,rfl,ho⟩,hl⟩
section
variable{s:Shared}{x:Addr}{mA:Str->Option Value}{name:Str}{v:Value}
theorem a2Y{expr:Bool}(X:K.In s.heap)(I:jY s.heap x dx C mA)(hg:W.plainGet K C name=true)(hh:W.hasDictIn K C=true)
 (ha:W.findIn K (.ref C) name=some none)(hv:mA name=some v)(hv':W.handedIn v=true)(h:Q v {s with toks:=s.toks+ 1}):
 wpAny (model prog w) A (getAttr (.ref x) name expr) Q E s:=by
 obtain⟨od,J,hl⟩:=I.look;exact W.get_value X J (W.plainGet_of hg).1 (W.findObj_own hh ha rfl (by rw[hl,hv])) hv' h
theorem a3p{pl:Sem Bool}{Q:Value×List Value->Shared->Prop}(X:K.In s.heap)(I:jY s.heap x dx C mA)(hg:W.plainGet K C name=true)
 (hf:W.findIn K (.ref C) name=some (some (.ref f)))(ht:W.isFn K (.ref f)=true)(hv:mA name=none)(h:Q (.ref f,[.ref x]) s):
 wpAny (model prog w) A (getMethod (.ref x) name pl) Q E s:=by
 obtain⟨od,J,hl⟩:=I.look;exact W.method_fn X J (W.plainGet_of hg).1 (W.plainGet_of hg).2 hf (beq_iff_eq.mp ht) (by show(W.lookIn name od).map (·.isSome)=some false;rw[hl,hv];rfl) h
theorem a2O{ns:List Str}{Q:Unit->Shared->Prop}(X:K.In s.heap)(I:jY s.heap x dx C mA)
 (hs:W.findIn K (.ref C) "__setattr__"=some (some (.builtin "object.__setattr__")))(hp:W.plainOver K C=true)(ht:W.takerIn K C name=some none)(hh:W.hasDictIn K C=true)
 (hw:PySem.Within mA ns)(hsz:ns.length<=sizeLine)
 (h:∀h',jY h' x dx C (fun y=>if y=name then some v else mA y)->Heap.SameBut dx s.heap h'->Q () {s with heap:=h',toks:=s.toks+ 2}):
 wpAny (model prog w) A (setAttr (.ref x) name v) Q E s:=by
 obtain⟨od,J,hl⟩:=I.look;refine W.set_plain X J hs (W.osa_open (s:={s with toks:=s.toks+ 1}) (r:=none) X J hp ht fun b=> ?_);obtain⟨cd,hc,hd'⟩:=W.any_some hh;have hx:s.heap.get? x=some ⟨.ref C,some dx,.plain,#[]⟩:=I.obj;refine wpAny_bind (wpAny_pure (wpAny_bind (wpAny_bind (wpAny_loadPart hx (wpAny_bind (W.Looks.here (s:={s with toks:=s.toks+ 1}) (W.looks_clsIn X hc) ?_))))));rw[hd'];refine wpAny_pure (a:=some dx) (wpAny_bind (wpAny_pure (wpAny_bind ?_)));refine wpAny_nsSet1 (s:={s with toks:=s.toks+ 1}) I.ns fun h' hn2 hs2=> ?_
 obtain⟨oD,esD,epD,hoD,hdD,hcD⟩:=hn2.count (PySem.Within.cons name v hw);refine wpAny_bind (wpAny_lookBehind hoD (by rw[hdD];exact pastItsLine_dict (Nat.le_trans hcD (by rw[List.length_cons];omega))) ?_);exact wpAny_pure (h _ ⟨(hs2.2 _ (Ne.symm I.ne)).trans I.obj,hn2,I.ne⟩ hs2)
theorem a27{R:Result->Shared->Prop}{vs:List Value}{kw:List (Str×Value)}(X:K.In s.heap)(hm:W.makesIn K C=true)
 (hi:W.findIn K (.ref C) "__init__"=some (some (.ref f)))(hf:W.typeIn K (.ref f)=some (.type "function"))
 (h:codeAny (model prog w) (A.under (.builtin "type.__call__" ⟨.ref C::vs,kw⟩)) (.call (.ref f) ⟨.ref (s.heap.objs.size+ 1)::vs,kw⟩) (W.InitBack (s.heap.objs.size+ 1) R)
  {s with heap:=(s.heap.push W.emptyDict).push (W.instObj C s.heap.objs.size)}):
 codeAny (model prog w) A (.call (.ref C) ⟨vs,kw⟩) R s:=by
 obtain⟨hh,g,d,t,os⟩:=s;exact W.make_core (W.makes_of X hm) (W.looks_findIn X hi) (fun self=>W.bind_fn X self hf) (.inl rfl) h
end
noncomputable def aM (f:Str) (v:V):List (Str×V)->List (Str×V)
 | []=> [(f,v)]
 |(g,x)::r=>if g=f then(g,v)::r else(g,x)::aM f v r
theorem a0o(f g:Str)(v:V):∀fs:List (Str×V),(aM f v fs).lookup g=if g=f then some v else fs.lookup g
 | []=>by
  show List.lookup g [(f,v)]=_;by_cases h:g=f
  ·have hb:(g==f)=true:=beq_iff_eq.mpr h
   simp only[List.lookup,hb,if_pos h]
  ·have hb:(g==f)=false:=beq_eq_false_iff_ne.mpr h
   simp only[List.lookup,hb,if_neg h]
 |(k,x)::r=>by
  have ih:=a0o f g v r;rw[show aM f v ((k,x)::r)=(if k=f then(k,v)::r else(k,x)::aM f v r) from rfl];by_cases hk:k=f
  ·rw[if_pos hk]
   by_cases h:g=k
   ·have hb:(g==k)=true:=beq_iff_eq.mpr h
    simp only[List.lookup,hb,if_pos (h.trans hk)]
   ·have hb:(g==k)=false:=beq_eq_false_iff_ne.mpr h
    simp only[List.lookup,hb,if_neg (fun e:g=f=>h (e.trans hk.symm))]
  ·rw[if_neg hk]
   by_cases h:g=k
   ·have hb:(g==k)=true:=beq_iff_eq.mpr h
    simp only[List.lookup,hb,if_neg (fun e:g=f=>hk (h.symm.trans e))]
   ·have hb:(g==k)=false:=beq_eq_false_iff_ne.mpr h
    simp only[List.lookup,hb];exact ih
theorem tE(f:Str)(v:V):∀fs:List (Str×V),f∈(aM f v fs).map (·.1)/\∀g,g∈fs.map (·.1)->g∈(aM f v fs).map (·.1)
 | []=>⟨by simp[aM],fun g h=>by simp at h⟩
 |(k,x)::r=>by
  obtain⟨i1,i2⟩:=tE f v r;rw[show aM f v ((k,x)::r)=(if k=f then(k,v)::r else(k,x)::aM f v r) from rfl];by_cases hk:k=f
  ·rw[if_pos hk]
   subst hk;exact⟨by simp,fun g h=>by simpa using h⟩
  ·rw[if_neg hk]
   refine⟨?_,fun g h=> ?_⟩
   ·rw[List.map_cons]
    exact List.mem_cons_of_mem _ i1
   ·rw[List.map_cons]at h|-
    rcases List.mem_cons.mp h with e|e
    ·exact List.mem_cons.mpr (.inl e)
    ·exact List.mem_cons_of_mem _ (i2 g e)
theorem a0m(f:Str)(v:V):∀fs:List (Str×V),(aM f v fs).length<=fs.length+ 1
 | []=>by simp[aM]
 |(k,x)::r=>by
  have ih:=a0m f v r;rw[show aM f v ((k,x)::r)=(if k=f then(k,v)::r else(k,x)::aM f v r) from rfl];by_cases hk:k=f
  ·rw[if_pos hk,List.length_cons,List.length_cons];omega
  ·rw[if_neg hk,List.length_cons,List.length_cons];omega
theorem eC.some_of{o:Option Value}(r:eC (some v) o):∃u,o=some u/\aU v u:=by
 cases o with
 |none=>exact(show False from r).elim
 |some u=>exact⟨u,rfl,r⟩
theorem eC.none_of{o:Option Value}(r:eC none o):o=none:=by
 cases o with
 |none=>rfl
 |some u=>exact(show False from r).elim
theorem a1v(r:aU v u):W.handedIn u=true:=by
 cases v with
 |non=>cases (show u=Value.none from r);rfl
 |bl b=>cases (show u=Value.bool b from r);rfl
 |int i=>obtain⟨t,e⟩:=(show∃t,u=Value.int i t from r);cases e;rfl
 |str x=>obtain⟨t,e⟩:=(show∃t,u=Value.str x t from r);cases e;rfl
 |byt b=>obtain⟨t,e⟩:=(show∃t,u=Value.bytes b t from r);cases e;rfl
 |flt b=>obtain⟨t,e⟩:=(show∃t,u=Value.float b t from r);cases e;rfl
 |ref a=>cases (show u=Value.ref a from r);rfl
 |ty n=>cases (show u=Value.type n from r);rfl
section
variable{fs fs':List (Str×V)}
theorem oM(hok:cO P w H h)(e:H a=some (.ins C dx fs)):∃mA,jY h a dx C mA/\(∀f,eC (fs.lookup f) (mA f))/\PySem.Within mA (fs.map (·.1))/\fs.length<=1000/\H dx=some (.own a):=by
 obtain⟨d,z,ne,ob,mA,n,r,q⟩:=(show cI P w H h a (.ins C dx fs) from hok a _ e);exact⟨mA,⟨ob,n,ne⟩,r,q,z,d⟩
end
structure cX(K:Fg)(C:Addr):Prop where
 pg:W.plainGet K C Str.empty=true
 hd:W.hasDictIn K C=true
 po:W.plainOver K C=true
 sa:W.findIn K (.ref C) "__setattr__"=some (some (.builtin "object.__setattr__"))
theorem cX.get(c:cX K C)(f:Str):W.plainGet K C f=true:=c.pg
def bU(K:Fg)(C:Addr)(f:Str):Prop:=W.findIn K (.ref C) f=some none
theorem bU.taker{f:Str}(n:bU K C f):W.takerIn K C f=some none:=by
 unfold W.takerIn;rw[show W.findIn K (.ref C) f=some none from n];rfl
structure Con(K:Fg)(C:Addr)(f:Str)(v:V)(u:Value):Prop where
 at_:W.findIn K (.ref C) f=some (some u)
 rel:aU v u
 get:W.specialIn K u "__get__"=some none
 cp:W.copiedNames.contains f=false
structure mD(K:Fg)(C:Addr)(m:Str)(f:Addr):Prop where
 at_:W.findIn K (.ref C) m=some (some (.ref f))
 fn:W.isFn K (.ref f)=true
 kp:W.keepIn K (.ref f)=true
section
variable{s:Shared}{fs:List (Str×V)}{f:Str}
theorem a3H{b:Bool}(I:aC X ac σ H s)(e:H a=some (.ins C dx fs))(c:cX X.K C)(n:bU X.K C f)(l:fs.lookup f=some v)
 (h:∀u s',aC X ac σ H s'->aU v u->Q u s'):wpAny (model X.prog X.w) A (getAttr (.ref a) f b) Q E s:=by
 obtain⟨mA,O,r,_,_,_⟩:=oM I.hok e;obtain⟨u,hu,ru⟩:=eC.some_of (v:=v) (o:=mA f) (by rw[<- l];exact r f);exact a2Y I.kIn O (c.get f) c.hd n hu (a1v ru) (h u _ (I.tok _) ru)
theorem oO{g:Addr}{pl:Sem Bool}{Q:Value×List Value->Shared->Prop}(I:aC X ac σ H s)(e:H a=some (.ins C dx fs))(c:cX X.K C)(k:mD X.K C m g)(l:fs.lookup m=none)
 (h:Q (.ref g,[.ref a]) s):wpAny (model X.prog X.w) A (getMethod (.ref a) m pl) Q E s:=by
 obtain⟨mA,O,r,_,_,_⟩:=oM I.hok e;have hn:mA m=none:=eC.none_of (by rw[<- l];exact r m);exact a3p I.kIn O (c.get m) k.at_ k.fn hn h
theorem a3Q{Q:Unit->Shared->Prop}(I:aC X ac σ H s)(e:H a=some (.ins C dx fs))(c:cX X.K C)(n:bU X.K C f)(hl:fs.length<1000)(ry:aU y u)
 (h:∀s',aC X ac σ (upd H a (.ins C dx (aM f y fs))) s'->Q () s'):wpAny (model X.prog X.w) A (setAttr (.ref a) f u) Q E s:=by
 obtain⟨mA,O,r,wi,_,ho⟩:=oM I.hok e
 have hz:(fs.map (·.1)).length<=sizeLine:=by rw[List.length_map,sizeLine_eq];omega
 refine a2O I.kIn O c.sa c.po n.taker c.hd wi hz fun h' O' sb=>h _ ?_
 have hd:∃o,h'.get? dx=some o:=let ⟨o,_,_,e',_⟩:=O'.ns;⟨o,e'⟩;refine I.write (x:=a) (e:=dx) (by rw[e];exact True.intro) (.inr ho) (fun b q hb z=>(sb.2 b hb).trans z) hd ?_;refine⟨by rw[aF O.ne];exact ho,?_,O.ne,O'.obj,_,O'.ns,fun g=> ?_,fun g hg=> ?_⟩
 ·have:=a0m f y fs;omega
 ·show eC ((aM f y fs).lookup g) (if g=f then some u else mA g)
  rw[a0o];by_cases q:g=f
  ·rw[if_pos q,if_pos q];exact ry
  ·rw[if_neg q,if_neg q];exact r g
 ·by_cases q:g=f
  ·rw[q];exact(tE f y fs).1
  ·refine(tE f y fs).2 g (wi g fun z=>hg ?_)
   show(if g=f then some u else mA g)=none;rw[if_neg q];exact z
theorem aC.made(I:aC X ac σ H s):aC X ac σ (upd (upd H s.heap.objs.size (.own (s.heap.objs.size+ 1))) (s.heap.objs.size+ 1) (.ins C s.heap.objs.size []))
 {s with heap:=(s.heap.push W.emptyDict).push (W.instObj C s.heap.objs.size)}:=by
 have e1:(s.heap.push W.emptyDict).get? s.heap.objs.size=some W.emptyDict:=Heap.get?_push_size s.heap rfl
 have e2:((s.heap.push W.emptyDict).push (W.instObj C s.heap.objs.size)).get? (s.heap.objs.size+ 1)=some (W.instObj C s.heap.objs.size):=by
  have:=Heap.get?_push_size (s.heap.push W.emptyDict) (o:=W.instObj C s.heap.objs.size) rfl
  rwa [Heap.size_push]at this
 have e3:(s.heap.push W.emptyDict).Ns s.heap.objs.size (fun _=>none):=⟨W.emptyDict,#[],_,e1,rfl,(fun e he=>absurd he (by simp)),fun _=>rfl⟩;have I1:=I.laid (a:=s.heap.objs.size) (o:=.own (s.heap.objs.size+ 1)) (h':=s.heap.push W.emptyDict) (t':=s.toks) (fun b u q=>Heap.get?_push_of_some _ q) (Nat.le_refl _) ⟨_,e1⟩;refine I1.laid (a:=s.heap.objs.size+ 1) (o:=.ins C s.heap.objs.size []) (t':=s.toks) (fun b u q=>Heap.get?_push_of_some _ q) (Nat.le_of_eq (Heap.size_push _ _)) ?_;have ne:s.heap.objs.size≠s.heap.objs.size+ 1:=Nat.ne_of_lt (Nat.lt_succ_self _);refine⟨by rw[aF ne,aK],Nat.zero_le _,ne,e2,fun _=>none,(Heap.Ns1.of_empty e3).at fun o q=>Heap.get?_push_of_some _ q,fun _=>True.intro,fun y hy=>absurd rfl hy⟩
theorem a5x{env:Env}{f:Str}{s:Shared}(hb:attributeBase e f env (eval e env)=eval e env)
 (h:wpAny (model prog w) A (eval e env) (fun o s₁=>wpAny (model prog w) A (getAttr o f true) Q E s₁) E s):wpAny (model prog w) A (eval (.Attribute e f pos) env) Q E s:=
 Attribute_any_ h (by rw[arm_eval_Attribute,hb])
end
def nZ(K:Fg)(ta:TE)(f:Str):TE:=fun σ H Q=>ta σ H fun x H1=>∃a C dx fs v,x= .ref a/\H1 a=some (.ins C dx fs)/\cX K C/\bU K C f/\fs.lookup f=some v/\Q v H1
def sFld(K:Fg)(ta tv:TE)(f:Str):TS:=fun D σ H=>tv σ H fun y H1=>ta σ H1 fun x H2=>∃a C dx fs,x= .ref a/\H2 a=some (.ins C dx fs)/\cX K C/\bU K C f/\fs.length<1000/\
 D.nx σ (upd H2 a (.ins C dx (aM f y fs)))
section
variable{o value:Expr}{f:Str}{tv:TE}
theorem aQ(he:PE X e ta)(hb:attributeBase e f X.env (eval e X.env)=eval e X.env):PE X (.Attribute e f pos) (nZ X.K ta f):=by
 intro ac s σ H Q I h;refine a5x hb (aP (he ac s σ H _ I h) ?_);rintro u s1 ⟨x,H1,I1,rx,a,C,dx,fs,v,ex,ea,c,n,l,q⟩;refine ?_;subst ex;obtain rfl:u=Value.ref a:=rx;exact a3H I1 ea c n l fun u' s2 I2 ru=>⟨v,H1,I2,ru,q⟩
theorem bY(ha:PE X o ta)(hv:PE X value tv)(hs:swapsWith value (some (.Attribute o f pos')) pos.line X.env=pure false):PS X (.Assign [.Attribute o f pos'] value pos) (sFld X.K ta tv f):=by
 intro ac s σ H D I h;refine plainObj_wpAny_Assign_Attribute (aP (hv ac s σ H _ I h) ?_) hs;rintro u s1 ⟨y,H1,I1,ry,q⟩;refine aP (ha ac s1 σ H1 _ I1 q) ?_;rintro ov s2 ⟨x,H2,I2,rx,a,C,dx,fs,ex,ea,c,n,l,q2⟩;refine ?_;subst ex;obtain rfl:ov=Value.ref a:=rx;exact a3Q I2 ea c n l ry fun s3 I3=>⟨σ,_,I3,q2⟩
theorem methcall_of{pl:Sem Bool}{args:List Expr}{s:Shared}(he:PE X e te)(I:aC X ac σ H s)
 (h:te σ H fun x H1=>∃a C dx fs g,x= .ref a/\H1 a=some (.ins C dx fs)/\cX X.K C/\mD X.K C m g/\fs.lookup m=none/\
  ∀s1,aC X ac σ H1 s1->wpAny (model X.prog X.w) X.A (callWith pos (.ref g) [.ref a] (backTo pos (starEach args X.env)) (backToKw pos (keywordEach [] X.env))) Q X.xe s1)
 (ht:eval (.Call (.Attribute e m apos) args [] pos) X.env=(do
  let ov<- eval e X.env
  standAt apos.atName
  let (f,first)<- holding [ov] (getMethod ov m pl)
  callWith pos f first (backTo pos (starEach args X.env)) (backToKw pos (keywordEach [] X.env)))):
 wpAny (model X.prog X.w) X.A (eval (.Call (.Attribute e m apos) args [] pos) X.env) Q X.xe s:=by
 refine W.methodCall_KW (pl:=pl) (aP (he ac s σ H _ I h) ?_) ht;rintro u s1 ⟨x,H1,I1,rx,a,C,dx,fs,g,ex,ea,c,k,l,q⟩;refine ?_;subst ex;obtain rfl:u=Value.ref a:=rx;exact oO I1 ea c k l (q s1 I1)
end
section
variable{s:Shared}{c:Value}{b:Bool}
inductive fX(K:Fg)(H:Hp):V->Value->Prop where
 |non:fX K H .non (.type "NoneType")
 |bl (x:Bool):fX K H (.bl x) (.type "bool")
 |int (i:Int):fX K H (.int i) (.type "int")
 |str (x:Str):fX K H (.str x) (.type "str")
 |flt (x:UInt64):fX K H (.flt x) (.type "float")
 |lst {a:Addr} {xs:List V} (e:H a=some (.lst xs)):fX K H (.ref a) (.type "list")
 |frz {a:Addr} {o:Obj} {xs:List V} (e:H a=some (.frz o (.lst xs))):fX K H (.ref a) (.type "list")
 |tup {a:Addr} {xs:List V} (e:H a=some (.tup xs)):fX K H (.ref a) (.type "tuple")
 |dK {a:Addr} {kvs:List (aB×V)} (e:H a=some (.dK kvs)):fX K H (.ref a) (.type "dict")
 |dT {a:Addr} {kvs:List (List aB×V)} (e:H a=some (.dT kvs)):fX K H (.ref a) (.type "dict")
 |ins {a C dx:Addr} {fs:List (Str×V)} (e:H a=some (.ins C dx fs)) (cl:cX K C) (ha:W.findIn K (.ref C) "__class__"=some (some (.builtin "object.__class__")))
  (hn:W.specialIn K (.builtin "object.__class__") "__get__"=some (some (.builtin "getset_descriptor.__get__"))) (htk:W.takesIn K (.builtin "object.__class__")=some true)
  (hm:W.mroIn K C (.type "object")=some true):fX K H (.ref a) (.ref C)
theorem a4j{x:V}{t:Value}(I:aC X ac σ H s)(rx:aU x u)(ty:fX X.K H x t)(e:W.kitOne X.K t c=some b)(h:∀tk,Q (.bool b) {s with toks:=tk}):
 wpAny (model X.prog X.w) A (call (.builtin "isinstance") [u,c]) Q E s:=by
 cases ty with
 |non=>cases (show u=Value.none from rx);exact W.kia_one W.kitx_none I.kIn True.intro e (fun z=>nomatch z) h
 |bl y=>cases (show u=Value.bool y from rx);exact W.kia_one W.kitx_bool I.kIn True.intro e (fun z=>nomatch z) h
 |int i=>obtain⟨t,q⟩:=(show∃t,u=Value.int i t from rx);cases q;exact W.kia_one W.kitx_int I.kIn True.intro e (fun z=>nomatch z) h
 |str y=>obtain⟨t,q⟩:=(show∃t,u=Value.str y t from rx);cases q;exact W.kia_one W.kitx_str I.kIn True.intro e (fun z=>nomatch z) h
 |flt y=>obtain⟨t,q⟩:=(show∃t,u=Value.float y t from rx);cases q;exact W.kia_one W.kitx_float I.kIn True.intro e (fun z=>nomatch z) h
 | @lst a xs ea=>
  cases (show u=Value.ref a from rx);obtain⟨_,_,n,_,h1⟩:=(show cI X.prog X.w H s.heap a (.lst xs) from I.hok a _ ea);exact W.kia_one W.kitx_list I.kIn ⟨_,h1,rfl⟩ e (fun z=>nomatch z) h
 | @frz a ob xs ea=>
  cases (show u=Value.ref a from rx);obtain⟨_,_,_,n,_,h1⟩:=(show cI X.prog X.w H s.heap a (.frz ob (.lst xs)) from I.hok a _ ea);exact W.kia_one W.kitx_list I.kIn ⟨_,h1,rfl⟩ e (fun z=>nomatch z) h
 | @tup a xs ea=>
  cases (show u=Value.ref a from rx);obtain⟨_,_,_,p⟩:=(show cI X.prog X.w H s.heap a (.tup xs) from I.hok a _ ea);obtain⟨o,h1,h2,_⟩:=p;exact W.kia_one W.kitx_tuple I.kIn ⟨o,h1,h2⟩ e (fun z=>nomatch z) h
 | @dK a kvs ea=>
  cases (show u=Value.ref a from rx);obtain⟨_,_,vs,_,p⟩:=(show cI X.prog X.w H s.heap a (.dK kvs) from I.hok a _ ea);obtain⟨o,es,ep,h1,h2,_⟩:=p;exact W.kia_one W.kitx_dict I.kIn ⟨o,h1,h2.1⟩ e (fun z=>nomatch z) h
 | @dT a kvs ea=>
  cases (show u=Value.ref a from rx);obtain⟨_,_,xs,_,o,es,ep,h1,h2,_⟩:=(show cI X.prog X.w H s.heap a (.dT kvs) from I.hok a _ ea);exact W.kia_one W.kitx_dict I.kIn ⟨o,h1,h2.1⟩ e (fun z=>nomatch z) h
 | @ins a C dx fs ea cl ha hn htk hm=>
  cases (show u=Value.ref a from rx);obtain⟨mA,O,_⟩:=oM I.hok ea;obtain⟨od,J,_⟩:=O.look;exact W.kia_one (W.kitx_own (cl.get _) cl.hd ha hn htk hm) I.kIn J e (fun z=>nomatch z) h
end
structure cD(k:Nat)(A:Around):Prop where
 hd:A.handled=none
 dp:A.depth+ 3* k+ 5<recursionLimit
 un:A.units+ 16* k+ 200<cLine
theorem cD.mono{k:Nat}(r:cD k A)(h:j<=k):cD j A:=⟨r.hd,by have:=r.dp;omega,by have:=r.un;omega⟩
theorem cD.mn{k:Nat}(r:cD k A)(h:j<=k:=by decide):cD j A:=r.mono h
theorem cD.deeper{k:Nat}(r:cD (k+ 1) A)(env:Env):cD k (A.deeper env):=
 ⟨r.hd,by have:=r.dp;show A.depth+ 1+ 3* k+ 5<_;omega,by have:=r.un;show A.units+ 3+ 16* k+ 200<_;omega⟩
theorem a2l{kw:List (Str×Value)}:(A.under (.builtin "type.__call__" ⟨.ref C::us,kw⟩)).depth=A.depth+ 1:=by
 first|rfl|simp[Around.under,Code.weight,Code.isCreation,Code.isGuard,Code.isCaller,Code.frames,Code.isFrame,guardIds]
theorem a3J{kw:List (Str×Value)}:(A.under (.builtin "type.__call__" ⟨.ref C::us,kw⟩)).units=A.units+ 1:=by
 first|rfl|simp[Around.under,Code.cUnits,Code.frames,Code.isFrame]
theorem cD.make{k:Nat}(r:cD (k+ 1) A)(C:Addr)(us:List Value)(kw:List (Str×Value)):cD k (A.under (.builtin "type.__call__" ⟨.ref C::us,kw⟩)):=
 ⟨r.hd,by have:=r.dp;rw[a2l];omega,by have:=r.un;rw[a3J];omega⟩
theorem cD.depth{k:Nat}(r:cD k A):A.depth<recursionLimit:=by have:=r.dp;omega
theorem cD.units{k:Nat}(r:cD k A):A.units+ 64<cLine:=by have:=r.un;omega
def gC:TA:=fun _ H Q=>Q [] H
def gH(ta:TE)(tr:TA):TA:=fun σ H Q=>ta σ H fun x H1=>tr σ H1 fun xs H2=>Q (x::xs) H2
section
variable{t:TA}
theorem aE:PA X [] gC:=fun _ _ _ _ H Q I h=>Calls.spliced_nil ⟨[],H,I,.nil,h⟩
theorem aA(ha:PE X e te)(hr:PA X es t)(hs:starEach (e::es) X.env=(false,eval e X.env)::starEach es X.env:=by rfl):PA X (e::es) (gH te t):=by
 intro pos ac s σ H Q I h;rw[hs];show wpAny _ _ (spliced ((false,eval e X.env)::backTo pos (starEach es X.env))) _ _ s;refine Calls.spliced_cons (aP (ha ac s σ H _ I h) ?_);rintro u s1 ⟨x,H1,I1,r1,q1⟩;refine ?_;refine aP (hr pos ac s1 σ H1 _ I1 q1) ?_;rintro us s2 ⟨xs,H2,I2,r2,q2⟩;exact⟨x::xs,H2,I2,.cons r1 r2,q2⟩
def rN(t:TA):TE:=fun σ H Q=>t σ H fun xs H1=>xs.length<=sizeLine/\∀p,H1 p=none->Q (.ref p) (upd H1 p (.tup xs))
def tLst(t:TA):TE:=fun σ H Q=>t σ H fun xs H1=>xs.length<=sizeLine/\∀p,H1 p=none->Q (.ref p) (upd H1 p (.lst xs))
theorem nX{x1}(h:PA X es t):PE X (.Tuple es x1 pos) (rN t):=by
 intro ac s σ H Q I hq;refine wpAny_Tuple_spliced (aP (h pos ac s σ H _ I hq) ?_);rintro us s1 ⟨xs,H1,I1,r,z,q⟩;refine⟨by rw[<- r.length];exact z,?_⟩;have hf:H1 s1.heap.objs.size=none:=I1.hok.fresh (Nat.le_refl _);refine⟨.ref s1.heap.objs.size,upd H1 s1.heap.objs.size (.tup xs),I1.laid (t':=s1.toks) (fun b u e=>Heap.get?_push_of_some _ e) (Nat.le_refl _) ?_,rfl,q _ hf⟩;exact⟨z,us,r,⟨_,Heap.get?_push_size _ rfl,rfl,_,rfl⟩⟩
theorem hG(h:PA X es t):PE X (.List es pos) (tLst t):=by
 intro ac s σ H Q I hq;refine wpAny_List_spliced (aP (h pos ac s σ H _ I hq) ?_);rintro us s1 ⟨xs,H1,I1,r,z,q⟩;refine⟨by rw[<- r.length];exact z,?_⟩;have hf:H1 s1.heap.objs.size=none:=I1.hok.fresh (Nat.le_refl _);refine⟨.ref s1.heap.objs.size,upd H1 s1.heap.objs.size (.lst xs),I1.laid (t':=s1.toks) (fun b u e=>Heap.get?_push_of_some _ e) (Nat.le_refl _) ?_,rfl,q _ hf⟩;exact⟨z,us,0,r,Heap.get?_push_size _ rfl⟩
end
abbrev Sp:=List V->Hp->VK->XK->Prop
abbrev eE:=List Env->Hp->Shared->XK->Value->Shared->Prop
structure iT(P:Program)(w:World)(K:Fg)(mg:Str->Option Value)(ae:Heap)(A:Around)(af:List Env)(s:Shared)(H:Hp):Prop where
 frames:A.frames=some af
 mod:Mod K mg ae
 bs:∀b o,ae.get? b=some o->s.heap.get? b=some o/\H b=none
 bsz:ae.objs.size<=s.heap.objs.size
 funs:s.heap.FunFrames ae af
 frf:∀b∈fC af,H b=none
 hok:cO P w H s.heap
 bare:AllBare s.gens
variable{CX:eE}{sp:Sp}
def CE(af:List Env)(P:Program)(w:World)(H:Hp)(s:Shared)(Q:VK)(u:Value)(s':Shared):Prop:=
 ∃v H',s'.os=s.os/\AllBare s'.gens/\Un (fC af) [] H H' s.heap s'.heap/\cO P w H' s'.heap/\aU v u/\Q v H'
def CR(CX:eE)(af:List Env)(P:Program)(w:World)(H:Hp)(s:Shared)(Q:VK)(E:XK)(r:Result)(s':Shared):Prop:=
 match r with
 | .ok (.ret u)=>CE af P w H s Q u s'
 | .ok _=>False
 | .error e=>CX af H s E e s'
structure eY(P:Program)(w:World)(K:Fg)(mg:Str->Option Value)(ae:Heap)(CX:eE)(k:Nat)(f:Addr)(fd:FuncData)(ps:List Str)(sp:Sp):Prop where
 len:∀vs H Q E,sp vs H Q E->vs.length=ps.length
 run:∀(A:Around) (af:List Env) (s:Shared) (H:Hp) (args:Args) (us:List Value) (vs:List V) (Q:VK) (E:XK),cD k A->iT P w K mg ae A af s H->BindsTo s fd args (ps.zip us)->aS vs us->sp vs H Q E->
  codeAny (model P w) A (.call (.ref f) args) (CR CX af P w H s Q E) s
theorem iT.make{ae:Heap}{af:List Env}{s:Shared}(e:iT P w K mg ae A af s H)(C:Addr)(us:List Value)(kw:List (Str×Value)):
 iT P w K mg ae (A.under (.builtin "type.__call__" ⟨.ref C::us,kw⟩)) af s H:=⟨by first|exact e.frames|(simpa [Around.under,Code.envs,Code.isFrame,pushEnvs] using e.frames),e.mod,e.bs,e.bsz,e.funs,e.frf,e.hok,e.bare⟩
section
variable{s:Shared}
theorem aC.env0(I:aC X ac σ H s):iT X.prog X.w X.K X.mg X.base X.A X.stack s H:=
 ⟨I.ok.frames,I.ok.mod,I.bs,Nat.le_trans I.ok.bsz I.sz,I.stack,I.stkFree,I.hok,I.bare⟩
theorem aC.after{Q:VK}(I:aC X ac σ H s)(h:CE X.stack X.prog X.w H s Q u s'):EP X ac σ Q u s':=by
 obtain⟨v,H',os,bare,un,hok,r,q⟩:=h;obtain⟨hh,g,d,t,os'⟩:=s';obtain rfl:os'=s.os:=os;exact⟨v,H',I.call (h':=hh) (g':=g) (d':=d) (t':=t) (ch:=[]) un hok bare (fun b z=>absurd z (by simp)),r,q⟩
end
def oC(sp:Sp)(dvs:List V)(E:XK)(t:TA):TE:=fun σ H Q=>t σ H fun vs H1=>sp (vs++ dvs) H1 Q E
def kN(C:Addr)(m:Str)(sp:Sp)(dvs:List V)(E:XK)(ta:TE)(t:TA):TE:=fun σ H Q=>ta σ H fun x H1=>∃a dx fs,x= .ref a/\H1 a=some (.ins C dx fs)/\fs.lookup m=none/\
 t σ H1 fun vs H2=>sp (x::(vs++ dvs)) H2 Q E
def pK(C:Addr)(sp:Sp)(dvs:List V)(E:XK)(t:TA):TE:=fun σ H Q=>t σ H fun vs H1=>∀x dx,H1 x=none->H1 dx=none->dx≠x->
 sp (.ref x::(vs++ dvs)) (upd (upd H1 dx (.own x)) x (.ins C dx [])) (fun v H2=>v= .non/\Q (.ref x) H2) E
def fY(K:Fg)(fd:FuncData)(ps:List Str)(ds:List Value):Prop:=
 ∀(s:Shared) (us:List Value),K.In s.heap->(us++ ds).length=ps.length->BindsTo s fd ⟨us,[]⟩ (ps.zip (us++ ds))
theorem fY.all{fd:FuncData}(h:∀us:List Value,us.length=ps.length->bindArgs fd ⟨us,[]⟩=pure (ps.zip us)):fY K fd ps []:=fun s us _ hl=>by
 rw[List.append_nil]at hl|-
 exact .of_eq (h us hl)
def fR(CX:eE)(X:Cx)(E:XK):Prop:=∀(ac:List (Addr×Obj)) (σ:St) (H:Hp) (s:Shared) (e:Value) (s':Shared),aC X ac σ H s->CX X.stack H s E e s'->X.xe e s'
section
variable{k:Nat}{fd:FuncData}{dvs:List V}{ds:List Value}{E:XK}{p:Pos}{o:Expr}{t:TA}
theorem nV{s:Shared}{Q:VK}{vs:List V}(F:eY X.prog X.w X.K X.mg X.base CX k f fd ps sp)(hr:cD k X.A)(hb:fY X.K fd ps ds)(hd:aS dvs ds)(hx:fR CX X E)
 (I:aC X ac σ H s)(r:aS vs us)(h:sp (vs++ dvs) H Q E):wpAny (model X.prog X.w) X.A (call (.ref f) us) (EP X ac σ Q) X.xe s:=by
 have r2:aS (vs++ dvs) (us++ ds):=r.append hd
 have hl:(us++ ds).length=ps.length:=by rw[<- r2.length];exact F.len _ _ _ _ h
 refine wpAny_call (codeAny_mono (F.run X.A X.stack s H ⟨us,[]⟩ (us++ ds) (vs++ dvs) Q E hr I.env0 (hb s us I.kIn hl) r2 h) fun r s' hq=> ?_)
 cases r with
 |error e=>exact hx ac σ H s e s' I hq
 |ok fl=>
  cases fl with
  |ret u=>exact I.after hq
  |next=>exact False.elim hq
  |brk=>exact False.elim hq
  |cont=>exact False.elim hq
theorem a3B(F:eY X.prog X.w X.K X.mg X.base CX k f fd ps sp)(hr:cD k X.A)(hg:Gl X x)(hm:X.mg x=some (.ref f))(hk:W.keepIn X.K (.ref f)=true)(hb:fY X.K fd ps ds)(hd:aS dvs ds)(hx:fR CX X E)
 (ha:PA X (e::es) t)(hdb:(x==("__debug__":Str))=false:=by decide)(he:starEach (e::es) X.env=(false,eval e X.env)::starEach es X.env:=by rfl)(hpl:(backTo pos (starEach es X.env)).any (·.1)=false:=by rfl):
 PE X (.Call (.Name x p) (e::es) [] pos) (oC sp dvs E t):=by
 intro ac s σ H Q I h;refine wpAny_Call_Name_kw (nR I hg hm ?_ hdb);refine W.callWith_K (h₀:=X.base) I.ok.mod.kin hk (aP (ha pos ac s σ H _ I h) ?_) he hpl;rintro us s1 ⟨vs,H1,I1,r,q⟩;refine⟨I1.kIn,?_⟩;exact nV F hr hb hd hx I1 r q
theorem a4a{pl:Sem Bool}(he:PE X o ta)(c:cX X.K C)(hm:mD X.K C m f)(F:eY X.prog X.w X.K X.mg X.base CX k f fd ps sp)(hr:cD k X.A)(hb:fY X.K fd ps ds)(hd:aS dvs ds)(hx:fR CX X E)(ha:PA X (e::es) t)
 (hst:starEach (e::es) X.env=(false,eval e X.env)::starEach es X.env:=by rfl)(hpl:(backTo pos (starEach es X.env)).any (·.1)=false:=by rfl)
 (ht:eval (.Call (.Attribute o m apos) (e::es) [] pos) X.env=(do
  let ov<- eval o X.env
  standAt apos.atName
  let (f,first)<- holding [ov] (getMethod ov m pl)
  callWith pos f first (backTo pos (starEach (e::es) X.env)) (backToKw pos (keywordEach [] X.env))):=by rfl):
 PE X (.Call (.Attribute o m apos) (e::es) [] pos) (kN C m sp dvs E ta t):=by
 intro ac s σ H Q I h;refine W.methodCall_KW (pl:=pl) (aP (he ac s σ H _ I h) ?_) ht;rintro u s1 ⟨x,H1,I1,rx,a,dx,fs,ex,ea,l,q⟩;refine ?_;subst ex;obtain rfl:u=Value.ref a:=rx;refine oO I1 ea c hm l ?_;refine W.callWith_K (first:=[.ref a]) (h₀:=X.base) I.ok.mod.kin hm.kp (aP (ha pos ac s1 σ H1 _ I1 q) ?_) hst hpl;rintro us s2 ⟨vs,H2,I2,r,q2⟩;refine⟨I2.kIn,?_⟩;exact nV (us:=.ref a::us) (vs:=.ref a::vs) F hr hb hd hx I2 (.cons rfl r) q2
theorem a3Y{pl:Sem Bool}(he:PE X o ta)(c:cX X.K C)(hm:mD X.K C m f)(F:eY X.prog X.w X.K X.mg X.base CX k f fd ps sp)(hr:cD k X.A)(hb:fY X.K fd ps ds)(hd:aS dvs ds)(hx:fR CX X E)
 (ht:eval (.Call (.Attribute o m apos) [] [] pos) X.env=(do
  let ov<- eval o X.env
  standAt apos.atName
  let (f,first)<- holding [ov] (getMethod ov m pl)
  callWith pos f first (backTo pos (starEach [] X.env)) (backToKw pos (keywordEach [] X.env))):=by rfl):
 PE X (.Call (.Attribute o m apos) [] [] pos) (kN C m sp dvs E ta gC):=by
 intro ac s σ H Q I h;refine W.methodCall_KW (pl:=pl) (aP (he ac s σ H _ I h) ?_) ht;rintro u s1 ⟨x,H1,I1,rx,a,dx,fs,ex,ea,l,q⟩;refine ?_;subst ex;obtain rfl:u=Value.ref a:=rx;refine oO I1 ea c hm l ?_;exact W.callWith_K0 (first:=[.ref a]) I1.kIn hm.kp (nV (us:=[.ref a]) (vs:=[.ref a]) F hr hb hd hx I1 (.cons rfl .nil) q)
structure Mk(K:Fg)(C f:Addr):Prop where
 makes:W.makesIn K C=true
 init:W.findIn K (.ref C) "__init__"=some (some (.ref f))
 fn:W.isFn K (.ref f)=true
 kp:W.keepIn K (.ref C)=true
theorem yV{s:Shared}{Q:VK}{vs:List V}(M:Mk X.K C f)(F:eY X.prog X.w X.K X.mg X.base CX k f fd ps sp)(hr:cD (k+ 1) X.A)(hb:fY X.K fd ps ds)(hd:aS dvs ds)
 (hx:fR CX X E)(I:aC X ac σ H s)(r:aS vs us)
 (h:∀x dx,H x=none->H dx=none->dx≠x->sp (.ref x::(vs++ dvs)) (upd (upd H dx (.own x)) x (.ins C dx [])) (fun v H2=>v= .non/\Q (.ref x) H2) E):
 wpAny (model X.prog X.w) X.A (call (.ref C) us) (EP X ac σ Q) X.xe s:=by
 have hq:=h (s.heap.objs.size+ 1) s.heap.objs.size (I.hok.fresh (Nat.le_succ _)) (I.hok.fresh (Nat.le_refl _)) (Nat.ne_of_lt (Nat.lt_succ_self _));have I2:=aC.made (C:=C) I;have r2:aS (V.ref (s.heap.objs.size+ 1)::(vs++ dvs)) (Value.ref (s.heap.objs.size+ 1)::(us++ ds)):=.cons rfl (r.append hd)
 have hl:(Value.ref (s.heap.objs.size+ 1)::us++ ds).length=ps.length:=by
  have e:=r2.length;rw[F.len _ _ _ _ hq]at e;exact e.symm
 refine wpAny_call (a27 (f:=f) I.kIn M.makes M.init (beq_iff_eq.mp M.fn) (codeAny_mono (F.run _ X.stack _ _ ⟨Value.ref (s.heap.objs.size+ 1)::us,[]⟩ (Value.ref (s.heap.objs.size+ 1)::(us++ ds)) _ _ E (hr.make C us [])
  (I2.env0.make C us []) (hb _ (Value.ref (s.heap.objs.size+ 1)::us) I2.kIn hl) r2 hq) fun r s' hq'=> ?_))
 cases r with
 |error e=>exact hx ac σ _ _ e s' I2 hq'
 |ok fl=>
  cases fl with
  |ret u=>
   obtain⟨v,H',I3,rv,ev,q3⟩:=I2.after hq';subst ev;exact⟨rv,⟨V.ref (s.heap.objs.size+ 1),H',I3,rfl,q3⟩⟩
  |next=>exact False.elim hq'
  |brk=>exact False.elim hq'
  |cont=>exact False.elim hq'
theorem a33(M:Mk X.K C f)(F:eY X.prog X.w X.K X.mg X.base CX k f fd ps sp)(hr:cD (k+ 1) X.A)(hg:Gl X x)(hm:X.mg x=some (.ref C))(hb:fY X.K fd ps ds)(hd:aS dvs ds)(hx:fR CX X E)
 (ha:PA X (e::es) t)(hdb:(x==("__debug__":Str))=false:=by decide)(he:starEach (e::es) X.env=(false,eval e X.env)::starEach es X.env:=by rfl)(hpl:(backTo pos (starEach es X.env)).any (·.1)=false:=by rfl):
 PE X (.Call (.Name x p) (e::es) [] pos) (pK C sp dvs E t):=by
 intro ac s σ H Q I h;refine wpAny_Call_Name_kw (nR I hg hm ?_ hdb);refine W.callWith_K (h₀:=X.base) I.ok.mod.kin M.kp (aP (ha pos ac s σ H _ I h) ?_) he hpl;rintro us s1 ⟨vs,H1,I1,r,q⟩;refine⟨I1.kIn,?_⟩;exact yV M F hr hb hd hx I1 r q
theorem a2y(M:Mk X.K C f)(F:eY X.prog X.w X.K X.mg X.base CX k f fd ps sp)(hr:cD (k+ 1) X.A)(hg:Gl X x)(hm:X.mg x=some (.ref C))(hb:fY X.K fd ps ds)(hd:aS dvs ds)(hx:fR CX X E)
 (hdb:(x==("__debug__":Str))=false:=by decide):PE X (.Call (.Name x p) [] [] pos) (pK C sp dvs E gC):=by
 intro ac s σ H Q I h;refine wpAny_Call_Name_kw (nR I hg hm ?_ hdb);exact W.callWith_K0 I.kIn M.kp (yV (us:=[]) M F hr hb hd hx I .nil h)
end
section
variable{k:Nat}{fd:FuncData}{ks:List Str}{E:XK}{p kpos:Pos}{o:Expr}{kws:List Keyword}{t tk:TA}{nm:Option Str}
structure KBinds(K:Fg)(fd:FuncData)(ps ks:List Str)(g:List Value->List Value->List Value)(gV:List V->List V->List V):Prop where
 to:∀(s:Shared) (us ws:List Value),K.In s.heap->(g us ws).length=ps.length->BindsTo s fd ⟨us,ks.zip ws⟩ (ps.zip (g us ws))
 rel:∀{vs:List V} {us:List Value} {zs:List V} {ws:List Value},aS vs us->aS zs ws->aS (gV vs zs) (g us ws)
variable{g:List Value->List Value->List Value}{gV:List V->List V->List V}
end
structure aX(N P:List Str)(sc:Scope):Prop where
 kind:sc.kind= .function:=by rfl
 co:sc.isCoroutine=false:=by rfl
 gen:sc.isGenerator=false:=by rfl
 nd:N.Nodup:=by decide+kernel
 pre:N.take P.length=P:=by rfl
 par:∀x∈P,sc.names.lookup x=some .local\/ sc.names.lookup x=some .cell:=by decide+kernel
 nofree:∀y∈sc.names,y.2≠ .free:=by decide+kernel
theorem wF{kindOf:Str->Option NameKind}{x:Str}:∀{binds:List (Str×Value)} {m:Str->Option Value},(∀v,(x,v)∉binds)->bindL kindOf binds m x=m x
 | [],_,_=>rfl
 |(n,v)::r,m,h=>by
  unfold bindL;rw[wF fun w hw=>h w (List.mem_cons_of_mem _ hw)];split
  ·have:x≠n:=by rintro rfl;exact h v List.mem_cons_self
   simp[this]
  ·rfl
theorem yO{kindOf:Str->Option NameKind}{x:Str}:∀{binds:List (Str×Value)} {m:Str->Option Value},(∀v,(x,v)∉binds)->bindC kindOf binds m x=m x
 | [],_,_=>rfl
 |(n,v)::r,m,h=>by
  unfold bindC;rw[yO fun w hw=>h w (List.mem_cons_of_mem _ hw)];split
  ·rfl
  ·have:x≠n:=by rintro rfl;exact h v List.mem_cons_self
   simp[this]
theorem a0F{kindOf:Str->Option NameKind}{x:Str}{v:Value}:∀{P:List Str} {vs:List Value} {i:Nat} {m:Str->Option Value},P.Nodup->P[i]?=some x->vs[i]?=some v->kindOf x=some .local->
 bindL kindOf (P.zip vs) m x=some v
 | [],_,_,_,_,h,_,_=>by simp at h
 |_::_,[],_,_,_,_,h,_=>by simp at h
 |p::P,w::vs,0,m,nd,h1,h2,hk=>by
  simp at h1 h2;subst h1;subst h2;show bindL kindOf ((p,w)::P.zip vs) m p=_;unfold bindL;rw[wF fun v hv=>(List.nodup_cons.mp nd).1 (List.of_mem_zip hv).1,if_pos hk];simp
 |p::P,w::vs,i+ 1,m,nd,h1,h2,hk=>by
  show bindL kindOf ((p,w)::P.zip vs) m x=_;unfold bindL;exact a0F (i:=i) (List.nodup_cons.mp nd).2 (by simpa using h1) (by simpa using h2) hk
theorem vT{kindOf:Str->Option NameKind}{x:Str}{v:Value}:∀{P:List Str} {vs:List Value} {i:Nat} {m:Str->Option Value},P.Nodup->P[i]?=some x->vs[i]?=some v->kindOf x≠some .local->
 bindC kindOf (P.zip vs) m x=some v
 | [],_,_,_,_,h,_,_=>by simp at h
 |_::_,[],_,_,_,_,h,_=>by simp at h
 |p::P,w::vs,0,m,nd,h1,h2,hk=>by
  simp at h1 h2;subst h1;subst h2;show bindC kindOf ((p,w)::P.zip vs) m p=_;unfold bindC;rw[yO fun v hv=>(List.nodup_cons.mp nd).1 (List.of_mem_zip hv).1,if_neg hk];simp
 |p::P,w::vs,i+ 1,m,nd,h1,h2,hk=>by
  show bindC kindOf ((p,w)::P.zip vs) m x=_;unfold bindC;exact vT (i:=i) (List.nodup_cons.mp nd).2 (by simpa using h1) (by simpa using h2) hk
def hV(N:List Str)(vs:List V):St:=vs.map some++ List.replicate (N.length- vs.length) none
noncomputable def eG (CX:eE) (P:Program) (w:World) (K:Fg) (mg:Str->Option Value) (ae:Heap) (N:List Str) (qual:Str) (ah:Scope) (f:Addr) (cd:Value) (A:Around) (af:List Env) (s:Shared) (H:Hp) (E:XK):Cx where
 prog:=P
 w:=w
 K:=K
 mg:=mg
 base:=ae
 A:=A.deeper (envOfC qual ah s.heap.objs.size f cd)
 N:=N
 s₀:=s
 H₀:=H
 env:=envOfC qual ah s.heap.objs.size f cd
 outer:=af
 stack:=envOfC qual ah s.heap.objs.size f cd::af
 ex:=[]
 calm:=true
 fn:=fun _=>true
 pn:=[]
 xe:=fun e s'=>wpAny (model P w) (A.deeper (envOfC qual ah s.heap.objs.size f cd)) (leaving (envOfC qual ah s.heap.objs.size f cd) e) (fun _ s''=>CX af H s E e s'') (fun e' s''=>CX af H s E e' s'') s'
theorem a0H{sc:Scope}(h:sc.names.lookup x=some .cell):∃c,(cellsFrom n sc.names []).lookup x=some c:=by
 have q:=W.cellsFrom_some sc.names n [] (.inl h);exact Option.isSome_iff_exists.mp q
theorem a2i{ae:Heap}{cd:Value}{af:List Env}{s s1:Shared}{E:XK}{vs:List V}
 (S:aX N ps ah)(hd:A.handled=none)(e0:iT P w K mg ae A af s H)(hl:vs.length=ps.length)(r:aS vs us)
 (x:InCallC s s.heap.objs.size (bindL (envOfC qual ah s.heap.objs.size f cd).kindOf (ps.zip us) fun _=>none) (cellsFrom (s.heap.objs.size+ 1) ah.names []) (bindC (envOfC qual ah s.heap.objs.size f cd).kindOf (ps.zip us) fun _=>none) s1):
 aC (eG CX P w K mg ae N qual ah f cd A af s H E) [] (hV N vs) H s1:=by
 have hpl:ps.length<=N.length:=by have:=congrArg List.length S.pre;rw[List.length_take]at this;omega
 obtain⟨h1,tk,rfl,hk⟩:=x.done;have noA:∀b:Addr,b∉(eG CX P w K mg ae N qual ah f cd A af s H E).ex:=fun b z=>absurd (show b∈([]:List Addr) from z) (by simp)
 refine⟨⟨e0.mod,S.kind,rfl,rfl,Nat.le_refl _,fun y z c h1 h2=> ?_,fun y hy=> ?_,fun y c _ h=> ?_,fun _=>hd,Around.frames_deeper e0.frames,.inr ⟨rfl,rfl⟩,fun b z=>absurd z (noA b),e0.bs,e0.bsz,fun b _ _=>noA b,fun b z=>absurd z (noA b),e0.funs,e0.frf⟩,
  rfl,e0.bare,Un.kept hk,⟨_,x.toInCall.ns,fun i y v h1 h2 h3=> ?_⟩,fun y c h=>⟨_,x.cell y c h⟩,e0.hok.fresh (Nat.le_refl _),fun y c h=> ?_,fun p hp=>absurd (show p∈([]:List (Addr×Obj)) from hp) (by simp),e0.hok.kept hk,?_⟩
 ·exact name_of_addr x.apart (PySem.mem_of_lookup h1) (PySem.mem_of_lookup h2)
 ·have hy:ah.names.lookup y=some .cell\/ ah.names.lookup y=some .free:=hy
  rcases hy with hy|hy
  ·exact a0H hy
  ·exact absurd rfl (S.nofree _ (PySem.mem_of_lookup hy))
 ·exact Nat.le_of_lt (x.above y c (PySem.mem_of_lookup h))
 ·have hi:i<vs.length:=by
   unfold hV at h2;by_cases hi:i<vs.length
   ·exact hi
   ·rw[List.getElem?_append_right (by simpa using hi)]at h2
    rw[List.getElem?_replicate]at h2;split at h2<;>cases h2
  have ha:vs[i]?=some v:=by
   unfold hV at h2;rw[List.getElem?_append_left (by simpa using hi),List.getElem?_map]at h2
   cases e:vs[i]? with
   |none=>rw[e]at h2;cases h2
   |some a=>rw[e]at h2;cases h2;rfl
  obtain⟨u,hu,rv⟩:=r.get ha
  have hp:ps[i]?=some y:=by
   rw[<- S.pre,List.getElem?_take_of_lt (by omega)];exact h1
  have ndP:ps.Nodup:=by rw[<- S.pre];exact S.nd.sublist (List.take_sublist _ _)
  refine⟨u,rv,?_⟩
  rcases S.par y (List.mem_of_getElem? hp)with k|k
  ·exact .inl ⟨k,a0F ndP hp hu k⟩
  ·obtain⟨c,e⟩:=a0H (n:=s.heap.objs.size+ 1) k
   refine .inr ⟨.inl k,c,e,?_⟩;have q:=x.cell y c e;rw[vT ndP hp hu (by show ah.names.lookup y≠_;rw[k];decide)]at q;exact q
 ·exact e0.hok.fresh (Nat.le_of_lt (x.above y c (PySem.mem_of_lookup h)))
 ·unfold hV
  show _=N.length;rw[List.length_append,List.length_map,List.length_replicate];omega
theorem a4P{ae:Heap}{k:Nat}{name:Str}{params:Arguments}{dV kV:Value}
 {osl:Array (Option Value)}(lk:K.lookup f=some ⟨oc,od,.func (W.fnOf name qual params body ah dV kV doc pm an ag ct),osl⟩)(hcd:W.codeIn K ag qual=true)(S:aX N ps ah)
 (len:∀vs H Q E,sp vs H Q E->vs.length=ps.length)
 (hbody:∀(A:Around) (af:List Env) (s:Shared) (H:Hp) (vs:List V) (Q:VK) (E:XK),cD k (A.deeper (envOfC qual ah s.heap.objs.size f ag))->sp vs H Q E->
  ∃t,dP (eG CX P w K mg ae N qual ah f ag A af s H E) body t/\t {nx:=fun _ H'=>Q .non H',rt:=Q} (hV N vs) H):
 eY P w K mg ae CX (k+ 1) f (W.fnOf name qual params body ah dV kV doc pm an ag ct) ps sp:=by
 refine⟨len,fun A af s H args us vs Q E hr e0 hb r hsp=> ?_⟩;have hl:=len _ _ _ _ hsp;have KX:K.In s.heap:=e0.mod.kin.keeps fun b o e=>(e0.bs b o e).1
 have lim:s.heap.NoLimit:=e0.mod.nolimit.keeps fun b o e=>(e0.bs b o e).1
 have hkind:∀y∈ps.zip us,ah.names.lookup y.1=some .local\/ (ah.names.lookup y.1=some .cell/\((cellsFrom (s.heap.objs.size+ 1) ah.names []).lookup y.1).isSome=true):=fun⟨n,v⟩ hy=>by
  rcases S.par n (List.of_mem_zip hy).1 with q|q
  ·exact .inl q
  ·exact .inr ⟨q,W.cellsFrom_some _ _ _ (.inl q)⟩
 refine codeAny_call_function hr.depth (KX _ _ lk) rfl S.co S.gen rfl (W.codeRec_of KX hcd) (hb _ _ _ _ ?_);refine wpAny_newFunctionEnv_cells S.kind hkind fun env he s1 x=> ?_
 subst he;refine⟨lim.keeps x.toInCall.keep,codeAny_func ?_⟩;obtain⟨t,ht,hq⟩:=hbody A af s H vs Q E (hr.deeper _) hsp;have I:aC (eG CX P w K mg ae N qual ah f ag A af s H E) [] (hV N vs) H s1:=a2i S hr.hd e0 hl r x;refine wpAny_mono (ht [] s1 (hV N vs) H _ I hq) (fun fl s' hs=> ?_) fun e s' hs=>hs
 have fin:∀{σ':St} {H':Hp} {v:V} {u:Value},aC (eG CX P w K mg ae N qual ah f ag A af s H E) [] σ' H' s'->aU v u->Q v H'->CE af P w H s Q u s':=
  fun{σ' H' v u} J rv q=>⟨v,H',J.os,J.bare,J.base,J.hok,rv,q⟩
 cases fl with
 |ret u=>
  obtain⟨v,σ',H',J,rv,q⟩:=hs;exact fin J rv q
 |next=>
  obtain⟨σ',H',J,q⟩:=hs;exact fin (v:=V.non) (u:=Value.none) J rfl q
 |brk=>
  obtain⟨_,_,_,q⟩:=hs;exact False.elim q
 |cont=>
  obtain⟨_,_,_,q⟩:=hs;exact False.elim q
section
variable{p:Pos}{t:TA}{id T:String}{r:List V->Hp->VK->Prop}
def wP(r:List V->Hp->VK->Prop)(t:TA):TE:=fun σ H Q=>t σ H fun vs H1=>r vs H1 Q
theorem cA(hc:fJ X (.builtin id) r)(hg:Gl X x)(hm:X.mg x=none)(hv:bootBuiltins x=some (.builtin id))(ha:PA X (e::es) t)(hn:x≠ "__name__":=by decide)(hdb:(x==("__debug__":Str))=false:=by decide)
 (he:starEach (e::es) X.env=(false,eval e X.env)::starEach es X.env:=by rfl)(hpl:(backTo pos (starEach es X.env)).any (·.1)=false:=by rfl):PE X (.Call (.Name x p) (e::es) [] pos) (wP r t):=by
 intro ac s σ H Q I h;refine wpAny_Call_Name_kw (lZ I hg hm hv ?_ hn hdb);refine PyProof.Rows.callWith_builtin1 (aP (ha pos ac s σ H _ I h) ?_) he hpl;rintro us s1 ⟨vs,H1,I1,r1,q1⟩;exact hc ac s1 σ H1 vs us Q I1 r1 q1
theorem gT(hc:fJ X (.type T) r)(hg:Gl X x)(hm:X.mg x=none)(hv:bootBuiltins x=some (.type T))(ha:PA X (e::es) t)(hn:x≠ "__name__":=by decide)(hdb:(x==("__debug__":Str))=false:=by decide)
 (he:starEach (e::es) X.env=(false,eval e X.env)::starEach es X.env:=by rfl)(hpl:(backTo pos (starEach es X.env)).any (·.1)=false:=by rfl):PE X (.Call (.Name x p) (e::es) [] pos) (wP r t):=by
 intro ac s σ H Q I h;refine wpAny_Call_Name_kw (lZ I hg hm hv ?_ hn hdb);refine PyProof.Rows.callWith_type1 (aP (ha pos ac s σ H _ I h) ?_) he hpl;rintro us s1 ⟨vs,H1,I1,r1,q1⟩;exact hc ac s1 σ H1 vs us Q I1 r1 q1
end
end L2
variable{xs ys cs:List V}{H H' H1 H2 Hz:Hp}{o:HO}{v y:V}{X:Cx}{ta tc te tl:TE}{tb:TS}{σ:St}{g:TG}{r:R2}{CX:eE}{sp:Sp}{kvs:List (aB×V)}
namespace HT
open PySem PyProof.Rows
section
variable{s:Shared}
noncomputable def sIx(n d:Nat):Option Int->Nat
 |none=>d
 |some v=>if v<0 then(v+ (n:Int)).toNat else min v.toNat n
end
end HT
namespace L2
open PySem PySem.Spec PyProof.Rows
abbrev TO:=St->Hp->(Option Int->Hp->Prop)->Prop
section
variable{lo hi:Option Expr}{tl th:TO}{p2:Pos}
def lR(X:Cx)(r:V->Option Int->Option Int->Hp->VK->Prop):Prop:=
 ∀(ac:List (Addr×Obj)) (s:Shared) (σ:St) (H:Hp) (x:V) (v vl vu:Value) (lo hi:Option Int) (sl:Addr) (Q:VK),aC X ac σ H s->aU x v->s.heap.IsSliceOf sl vl vu .none->IsPart vl lo->IsPart vu hi->r x lo hi H Q->
  ∃T id,typeLookup (.type T) "__getitem__"=pure (some (.builtin id))/\s.TypeIs v T/\wpAny (model X.prog X.w) X.A (getItem v (.ref sl)) (EP X ac σ Q) X.xe s
theorem lR.or{r r':V->Option Int->Option Int->Hp->VK->Prop}(h:lR X r)(h':lR X r'):lR X (fun x lo hi H Q=>r x lo hi H Q\/ r' x lo hi H Q):=by
 intro ac s σ H x v vl vu lo hi sl Q I rx hs pl pu q
 rcases q with q|q
 ·exact h ac s σ H x v vl vu lo hi sl Q I rx hs pl pu q
 ·exact h' ac s σ H x v vl vu lo hi sl Q I rx hs pl pu q
noncomputable def qL (xs:List V) (lo hi:Option Int):List V:=(xs.drop (HT.sIx xs.length 0 lo)).take (HT.sIx xs.length xs.length hi- HT.sIx xs.length 0 lo)
theorem a5v(xs:List V)(lo hi:Option Int):(qL xs lo hi).length<=xs.length:=by
 unfold qL;rw[List.length_take,List.length_drop];omega
end
def gD(n:Nat)(i:Int):Option Nat:=if 0<=i then(if i<n then some i.toNat else none) else if-(n:Int)<=i then some (i+ n).toNat else none
def bV{α:Type}(xs:List α)(i:Int):Option α:=(gD xs.length i).bind fun j=>xs[j]?
theorem a0l{i:Int}(h:gD n i=some j):seqIndex? i n=some j/\j<n/\ -(n:Int)<=i/\i<n:=by
 unfold gD at h;by_cases h0:0<=i
 ·rw[if_pos h0]at h
  by_cases h1:i<n
  ·rw[if_pos h1]at h
   have e:i.toNat=j:=Option.some.inj h;exact⟨by rw[seqIndex_of h0 h1,e],by omega,by omega,h1⟩
  ·rw[if_neg h1]at h;cases h
 ·rw[if_neg h0]at h
  by_cases h1: -(n:Int)<=i
  ·rw[if_pos h1]at h
   have e:(i+ n).toNat=j:=Option.some.inj h;exact⟨by rw[seqIndex_neg (by omega) h1,e],by omega,h1,by omega⟩
  ·rw[if_neg h1]at h;cases h
theorem yN{α:Type}{xs:List α}{i:Int}{v:α}(h:bV xs i=some v):∃j,seqIndex? i xs.length=some j/\xs[j]?=some v/\j<xs.length/\ -(xs.length:Int)<=i/\i<xs.length:=by
 unfold bV at h
 cases e:gD xs.length i with
 |none=>rw[e]at h;cases h
 |some j=>
  rw[e]at h;obtain⟨h1,h2,h3,h4⟩:=a0l e;exact⟨j,h1,h,h2,h3,h4⟩
theorem sO{α:Type}{xs:List α}{v:α}(h:xs[j]?=some v):bV xs (j:Int)=some v:=by
 have hj:j<xs.length:=(List.getElem?_eq_some_iff.mp h).1
 have e:gD xs.length (j:Int)=some j:=by
  unfold gD;rw[if_pos (by omega),if_pos (by omega)];simp
 unfold bV;rw[e];exact h
def a5b(b:Expr):Prop:=∀o i,subscripted b false o i=operate [o,i] (getItem o i)
def rJ(X:Cx)(r:R2):Prop:=
 ∀(value slice:Expr) (ac:List (Addr×Obj)) (s:Shared) (σ:St) (H:Hp) (x y:V) (v u:Value) (Q:VK),aC X ac σ H s->aU x v->aU y u->r x y H Q->
  subscripted slice false v u=operate [v,u] (getItem v u)->wpAny (model X.prog X.w) X.A (subscriptTail value slice v u) (EP X ac σ Q) X.xe s
def tJ(X:Cx)(id:String)(r:V->List V->Hp->VK->Prop):Prop:=
 ∀(ac:List (Addr×Obj)) (s:Shared) (σ:St) (H:Hp) (x:V) (xs:List V) (v:Value) (us:List Value) (Q:VK),aC X ac σ H s->aU x v->aS xs us->r x xs H Q->
  wpAny (model X.prog X.w) X.A (call (.builtin id) (v::us)) (EP X ac σ Q) X.xe s
section
variable{a b:Expr}{tb:TE}
theorem dH(hr:rJ X r)(ha:PE X a ta)(hb:PE X b tb)(hs:a5b b):PE X (.Subscript a b pos) (kC r ta tb):=by
 intro ac s σ H Q I h;exact Subscript_ (sU ha hb I h fun v u s2 x y H2 I2 rx ry q=>hr a b ac s2 σ H2 x y v u Q I2 rx ry q (hs _ _))
noncomputable def rIxL (K:Fg):R2:=fun x y H Q=>∃p xs i v,x= .ref p/\y= .int i/\aN K H p xs/\bV xs i=some v/\Q v H
noncomputable def rIxT (K:Fg):R2:=fun x y H Q=>∃p xs i v,x= .ref p/\y= .int i/\dG K H p xs/\bV xs i=some v/\Q v H
theorem eQ:rJ X (rIxL X.K):=by
 intro value slice ac s σ H x y v u Q I rx ry h hs;obtain⟨p,xs,i,z,rfl,rfl,hq,he,q⟩:=h;cases rx;obtain⟨t,rfl⟩:=ry;obtain⟨its,r,pl,hz⟩:=I.list hq;obtain⟨j,h1,h2,h3,h4,h5⟩:=yN he;obtain⟨w,ew,rw'⟩:=r.get h2;have hl:=r.length;have hn:=kL;have fin:EP X ac σ Q w s:=⟨z,H,I,rw',q⟩;by_cases h0:0<=i
 ·have hj:i.toNat=j:=by
   rw[seqIndex_of h0 h5]at h1;exact Option.some.inj h1
  exact item_listR pl.isList h0 (by omega) (by rw[hj];simpa using ew) fin hs
 ·have hj:(i+ (its.toArray.size:Int)).toNat=j:=by
   rw[seqIndex_neg (by omega) h4]at h1;rw[List.size_toArray,<- hl];exact Option.some.inj h1
  exact subscriptTail_builtinR (x:=w) pl.isList.typeIs slot_list_getitem.lookup
   (wpAny_getItem_list_neg (Q:=fun r s'=>r=w/\EP X ac σ Q r s') pl.isList (by omega) (by rw[List.size_toArray]<;>omega) (by omega) (by rw[hj];simpa using ew) ⟨rfl,fin⟩) hs
theorem kF:rJ X (rIxT X.K):=by
 intro value slice ac s σ H x y v u Q I rx ry h hs;obtain⟨p,xs,i,z,rfl,rfl,hq,he,q⟩:=h;cases rx;obtain⟨t,rfl⟩:=ry;obtain⟨its,r,pl,hz⟩:=I.tuple hq;obtain⟨j,h1,h2,h3,h4,h5⟩:=yN he;obtain⟨w,ew,rw'⟩:=r.get h2;have hl:=r.length;have hn:=kL;have fin:EP X ac σ Q w s:=⟨z,H,I,rw',q⟩;exact subscriptTail_builtinR (x:=w) pl.typeIs slot_tuple_getitem.lookup
  (getItem_tuple (j:=j) (Q:=fun r s'=>r=w/\EP X ac σ Q r s') pl (by omega) (by omega) (by rw[List.size_toArray,<- hl];exact h1) (by simpa using ew) ⟨rfl,fin⟩) hs
theorem a3g(its:List Value)(n j:Nat)(u:Value):Obj.mapSeq (·.setIfInBounds j u) {cls:=.type "list",data:=.seq its.toArray n}={cls:=.type "list",data:=.seq (its.set j u).toArray n}:=by
 simp[Obj.mapSeq]
theorem aC.lst{s:Shared}(I:aC X ac σ H s)(h:H p=some (.lst xs)):
 ∃(its:List Value) (n:Nat),aS xs its/\s.heap.get? p=some {cls:=.type "list",data:=.seq its.toArray n} /\xs.length<=sizeLine:=by
 obtain⟨z,its,n,r,e⟩:=I.hok p _ h;exact⟨its,n,r,e,z⟩
theorem aC.lstUpd{s:Shared}{its':List Value}{n':Nat}{f:Obj->Obj}(I:aC X ac σ H s)(h:H p=some (.lst xs))
 (ho:s.heap.get? p=some {cls:=.type "list",data:=.seq its.toArray n})(hf:f {cls:=.type "list",data:=.seq its.toArray n}={cls:=.type "list",data:=.seq its'.toArray n'})(r:aS ys its')(hz:ys.length<=sizeLine)(t:Nat):
 aC X ac σ (upd H p (.lst ys)) {s with heap:=s.heap.update p f,toks:=t}:=by
 have e:(s.heap.update p f).get? p=some {cls:=.type "list",data:=.seq its'.toArray n'}:=by
  rw[Heap.get?_update_self f ho (by rw[hf]<;>rfl),hf]
 refine I.write (x:=p) (e:=p) (by rw[h];trivial) (.inl rfl) (fun b u hb q=>(Heap.get?_update_other _ _ (Ne.symm hb)).trans q) ⟨_,e⟩ ?_;exact⟨hz,its',n',r,e⟩
def a4m:V->V->V->Hp->(Hp->Prop)->Prop:=fun o i v H Q=>∃p xs k j,o= .ref p/\i= .int k/\H p=some (.lst xs)/\gD xs.length k=some j/\Q (upd H p (.lst (xs.set j v)))
theorem qD:vQ X a4m:=by
 intro ac s σ H o i v ov iv u Q I ro ri rv h;obtain⟨p,xs,k,j,rfl,rfl,hp,hj,q⟩:=h;cases ro;obtain⟨t,rfl⟩:=ri;obtain⟨its,n,r,ho,hz⟩:=I.lst hp;obtain⟨h1,h2,h3,h4⟩:=a0l hj;have hl:=r.length;have hn:=kL;have I':aC X ac σ (upd H p (.lst (xs.set j v))) {s with heap:=s.heap.update p (Obj.mapSeq (·.setIfInBounds j u))}:=
  I.lstUpd hp ho (a3g its n j u) (r.set rv j) (by rw[List.length_set];exact hz) s.toks
 by_cases h0:0<=k
 ·have hk:k.toNat=j:=by
   rw[seqIndex_of h0 h4]at h1;exact Option.some.inj h1
  exact W.ki_setAt ho h0 (by omega) (by rw[List.size_toArray,<- hl];exact h4) (by rw[hk];exact⟨_,I',q⟩)
 ·have hk:(k+ (its.toArray.size:Int)).toNat=j:=by
   rw[seqIndex_neg (by omega) h3]at h1;rw[List.size_toArray,<- hl];exact Option.some.inj h1
  exact W.ki_setBack ho (by omega) (by rw[List.size_toArray,<- hl];exact h3) (by omega) (by rw[hk];exact⟨_,I',q⟩)
theorem a0T(lo hi:Option Int)(n:Nat):(sliceBounds lo hi none n).1=((HT.sIx n 0 lo:Nat):Int)/\(sliceBounds lo hi none n).2.1=((HT.sIx n n hi:Nat):Int)/\(sliceBounds lo hi none n).2.2=1:=by
 refine⟨?_,?_,rfl⟩
 ·cases lo with
  |none=>simp[sliceBounds,HT.sIx]
  |some i=>
   simp only[sliceBounds,HT.sIx,Option.getD_none,show(1:Int)>0 by decide,if_true];by_cases h:i<0
   ·simp only[h,if_true]<;>omega
   ·simp only[h,if_false]<;>omega
 ·cases hi with
  |none=>simp[sliceBounds,HT.sIx]
  |some i=>
   simp only[sliceBounds,HT.sIx,Option.getD_none,show(1:Int)>0 by decide,if_true];by_cases h:i<0
   ·simp only[h,if_true]<;>omega
   ·simp only[h,if_false]<;>omega
theorem a2E(its:List Value)(lo hi:Option Int):slicePick its.toArray lo hi none=((its.drop (HT.sIx its.length 0 lo)).take (HT.sIx its.length its.length hi- HT.sIx its.length 0 lo)).toArray:=by
 obtain⟨h1,h2,h3⟩:=a0T lo hi its.toArray.size;unfold slicePick;rw[h1,h2,h3];simp only[sliceRange_one,pick_run,List.size_toArray]<;>rfl
def rSlL(K:Fg):V->Option Int->Option Int->Hp->VK->Prop:=fun x lo hi H Q=>∃a xs,x= .ref a/\aN K H a xs/\∀p,H p=none->Q (.ref p) (upd H p (.lst (qL xs lo hi)))
theorem sl_list:lR X (rSlL X.K):=by
 intro ac s σ H x v vl vu lo hi sl Q I rx hs pl pu h;obtain⟨a,xs,rfl,hx,q⟩:=h;cases rx;obtain⟨its,r,ht,hz⟩:=I.list hx;have hlen:=r.length;refine⟨"list",_,slot_list_getitem.lookup,ht.isList.typeIs,?_⟩;refine wpAny_getItem_list_slice ht.isList hs pl pu .none (by simp) ?_ (by rw[List.size_toArray]<;>omega);rw[a2E,<- hlen];refine⟨.ref s.heap.objs.size,_,I.laid (t':=s.toks) (o:=.lst (qL xs lo hi)) (fun b ob q=>Heap.get?_push_of_some _ q) (Nat.le_refl _) ?_,rfl,q _ (I.hok.fresh (Nat.le_refl _))⟩;exact⟨Nat.le_trans (a5v xs lo hi) hz,_,0,(r.drop (HT.sIx xs.length 0 lo)).take (HT.sIx xs.length xs.length hi- HT.sIx xs.length 0 lo),Heap.get?_push_size _ rfl⟩
noncomputable def iP:V->Bool
 | .non=>true
 | .bl _=>true
 | .int _=>true
 | .str _=>true
 |_=>false
noncomputable def gZ:V->V->Bool
 | .non,.non=>true
 | .bl a,.bl b=>a==b
 | .bl a,.int b=>(if a then 1 else 0)==b
 | .int a,.bl b=>a==(if b then 1 else 0)
 | .int a,.int b=>a==b
 | .str a,.str b=>a==b
 |_,_=>false
theorem a1N{s:Shared}{x:V}{v:Value}(ry:aU y u)(rx:aU x v)(fy:iP y=true)(fx:iP x=true):SeqAt.EqAt A s u v (gZ y x):=by
 cases y with
 |non=>
  cases ry
  cases x with
  |non=>cases rx;exact SeqAt.EqAt.same _
  |bl b=>cases rx;exact SeqAt.EqAt.none_bool b
  |int b=>obtain⟨t,rfl⟩:=rx;exact SeqAt.EqAt.none_int b t
  |str b=>obtain⟨t,rfl⟩:=rx;exact SeqAt.EqAt.none_str b t
  |_=>exact absurd (show false=true from fx) Bool.false_ne_true
 |bl a=>
  cases ry
  cases x with
  |non=>cases rx;exact SeqAt.EqAt.bool_none a
  |bl b=>cases rx;exact SeqAt.EqAt.bool_bool a b
  |int b=>obtain⟨t,rfl⟩:=rx;exact SeqAt.EqAt.bool_int a b t
  |str b=>obtain⟨t,rfl⟩:=rx;exact SeqAt.EqAt.bool_str a b t
  |_=>exact absurd (show false=true from fx) Bool.false_ne_true
 |int a=>
  obtain⟨t',rfl⟩:=ry
  cases x with
  |non=>cases rx;exact SeqAt.EqAt.int_none a t'
  |bl b=>cases rx;exact SeqAt.EqAt.int_bool a t' b
  |int b=>obtain⟨t,rfl⟩:=rx;exact SeqAt.EqAt.int_int a t' b t
  |str b=>obtain⟨t,rfl⟩:=rx;exact SeqAt.EqAt.int_str a t' b t
  |_=>exact absurd (show false=true from fx) Bool.false_ne_true
 |str a=>
  obtain⟨t',rfl⟩:=ry
  cases x with
  |non=>cases rx;exact SeqAt.EqAt.str_none a t'
  |bl b=>cases rx;exact SeqAt.EqAt.str_bool a t' b
  |int b=>obtain⟨t,rfl⟩:=rx;exact SeqAt.EqAt.str_int a t' b t
  |str b=>obtain⟨t,rfl⟩:=rx;exact SeqAt.EqAt.str_str a t' b t
  |_=>exact absurd (show false=true from fx) Bool.false_ne_true
 |_=>exact absurd (show false=true from fy) Bool.false_ne_true
noncomputable def fD (x:V) (u:Value):Bool:=match u with
 | .none=>gZ .non x
 | .bool b=>gZ (.bl b) x
 | .int i _=>gZ (.int i) x
 | .str z _=>gZ (.str z) x
 |_=>false
theorem wV{x:V}(r:aU y u)(f:iP y=true):fD x u=gZ y x:=by
 cases y with
 |non=>cases r;rfl
 |bl b=>cases r;rfl
 |int i=>obtain⟨t,rfl⟩:=r;rfl
 |str z=>obtain⟨t,rfl⟩:=r;rfl
 |_=>exact absurd (show false=true from f) Bool.false_ne_true
theorem nE{x:V}:∀{xs:List V} {us:List Value},aS xs us->xs.all iP=true->us.any (fD x)=xs.any fun y=>gZ y x
 |_,_,.nil,_=>rfl
 |y::xs,u::us,.cons r t,f=>by
  rw[List.all_cons,Bool.and_eq_true]at f;rw[List.any_cons,List.any_cons,wV r f.1,nE t f.2]
theorem lW{A:Around}{s:Shared}{x:V}{v:Value}(rx:aU x v)(fx:iP x=true):∀{xs:List V} {us:List Value},aS xs us->xs.all iP=true->∀u∈us,SeqAt.EqAt A s u v (fD x u)
 |_,_,.nil,_=>fun u hu=>by cases hu
 |y::xs,u::us,.cons r t,f=>fun u' hu=>by
  rw[List.all_cons,Bool.and_eq_true]at f
  rcases List.mem_cons.mp hu with rfl|hu
  ·rw[wV r f.1];exact a1N r rx f.1 fx
  ·exact lW rx fx t f.2 u' hu
noncomputable def dL (x:V) (xs:List V):Bool:=xs.any fun y=>gZ y x
noncomputable def wT (K:Fg) (neg:Bool):R2:=fun x y H Q=>∃p xs,y= .ref p/\(aN K H p xs\/ dG K H p xs)/\iP x=true/\xs.all iP=true/\Q (.bl (if neg then !dL x xs else dL x xs)) H
theorem nQ:cM X (compareOp .In) (wT X.K false):=by
 intro ac s σ H x y v u Q I rx ry h;obtain⟨p,xs,rfl,hq,fx,fs,q⟩:=h;cases ry
 rcases hq with hq|hq
 ·obtain⟨its,r,pl,hz⟩:=I.list hq
  refine SeqAt.in_listAt (fD x) pl.isList (fun w hw=>lW rx fx r fs w (by simpa using hw)) ⟨.bl _,H,I,rfl,?_⟩;rw[show its.toArray.any (fD x)=its.any (fD x)by simp,nE r fs];exact q
 ·obtain⟨its,r,pl,hz⟩:=I.tuple hq
  refine SeqAt.in_tupleAt (fD x) pl (fun w hw=>lW rx fx r fs w (by simpa using hw)) ⟨.bl _,H,I,rfl,?_⟩;rw[show its.toArray.any (fD x)=its.any (fD x)by simp,nE r fs];exact q
theorem lE:cM X (compareOp .NotIn) (wT X.K true):=by
 intro ac s σ H x y v u Q I rx ry h;obtain⟨p,xs,rfl,hq,fx,fs,q⟩:=h;cases ry
 rcases hq with hq|hq
 ·obtain⟨its,r,pl,hz⟩:=I.list hq
  refine SeqAt.notIn_listAt (fD x) pl.isList (fun w hw=>lW rx fx r fs w (by simpa using hw)) ⟨.bl _,H,I,rfl,?_⟩;rw[show its.toArray.any (fD x)=its.any (fD x)by simp,nE r fs];exact q
 ·obtain⟨its,r,pl,hz⟩:=I.tuple hq
  refine SeqAt.notIn_tupleAt (fD x) pl (fun w hw=>lW rx fx r fs w (by simpa using hw)) ⟨.bl _,H,I,rfl,?_⟩;rw[show its.toArray.any (fD x)=its.any (fD x)by simp,nE r fs];exact q
theorem rF:fJ X (.type "list") (fun xs H Q=>∃p ys,xs= [.ref p] /\(aN X.K H p ys\/ dG X.K H p ys)/\∀l,H l=none->Q (.ref l) (upd H l (.lst ys))):=by
 intro ac s σ H xs us Q I r h;obtain⟨p,ys,rfl,hq,q⟩:=h;obtain⟨u,rfl,rx⟩:=jQ r;cases rx;have fin:∀(its:List Value),aS ys its->ys.length<=sizeLine->∀(h':Heap) (c':Nat),(∀b o',s.heap.get? b=some o'->h'.get? b=some o')->
  h'.get? s.heap.objs.size=some {cls:=.type "list",dict:=none,data:=.seq its.toArray c',slots:= #[]} ->EP X ac σ Q (.ref s.heap.objs.size) {s with heap:=h'}:=fun its r' hz h' c' kp e=>
  ⟨.ref s.heap.objs.size,_,I.laid (t':=s.toks) kp (Nat.le_refl _) (show cI X.prog X.w _ h' _ (.lst ys) from⟨hz,its,c',r',e⟩),rfl,q _ (I.hok.fresh (Nat.le_refl _))⟩
 rcases hq with hq|hq
 ·obtain⟨its,r',pl,hz⟩:=I.list hq
  have hlen:=r'.length;obtain⟨o,ho,hc,n,hd⟩:=pl.isList;exact call_list_seq p (.inl rfl) ho hc hd (fun h' c' kp e=>fin its r' hz h' c' kp e) (by simp only[List.size_toArray]<;>omega)
 ·obtain⟨its,r',pl,hz⟩:=I.tuple hq
  have hlen:=r'.length;obtain⟨o,ho,hc,n,hd⟩:=pl;exact call_list_seq p (.inr rfl) ho hc hd (fun h' c' kp e=>fin its r' hz h' c' kp e) (by simp only[List.size_toArray]<;>omega)
def tM(K:Fg)(T:String)(x:V)(H:Hp):Prop:=match x with
 | .str _=>T= "str"
 | .int _=>T= "int"
 | .ref p=>(T= "list" /\∃xs,aN K H p xs)\/ (T= "tuple" /\∃o,K.lookup p=some o/\o.cls= .type "tuple" /\o.dict=none)\/
  (T= "dict" /\((∃kvs,H p=some (.dK kvs))\/ ∃kvs,H p=some (.dT kvs)))\/ (T= "set" /\∃S n,H p=some (.set S n))
 |_=>False
theorem yF{s:Shared}{T:String}{x:V}{v:Value}(I:aC X ac σ H s)(r:aU x v)(ty:tM X.K T x H):
 s.TypeIs v T/\∀a,v= .ref a->∃ob,s.heap.get? a=some ob/\ob.dict=none:=by
 cases x with
 |str z=>
  obtain⟨t,rfl⟩:=r;cases (show T= "str" from ty);exact⟨typeIs_str s z t,fun _ e=>nomatch e⟩
 |int i=>
  obtain⟨t,rfl⟩:=r;cases (show T= "int" from ty);exact⟨typeIs_int s i t,fun _ e=>nomatch e⟩
 |ref p=>
  cases r
  rcases ty with⟨rfl,xs,hq⟩|⟨rfl,o,hk,hc,hd⟩|⟨rfl,hk⟩|⟨rfl,S,n,hk⟩
  ·obtain⟨its,_,pl,_⟩:=I.list hq
   refine⟨pl.isList.typeIs,fun a e=> ?_⟩;cases e;obtain⟨o,n,e,c,hd,_⟩:=pl;exact⟨o,e,hd⟩
  ·refine⟨⟨o,I.kIn p o hk,hc⟩,fun a e=> ?_⟩
   cases e;exact⟨o,I.kIn _ o hk,hd⟩
  ·have z:∃o,s.heap.get? p=some o/\o.ExactDict:=by
    rcases hk with⟨kvs,hk⟩|⟨kvs,hk⟩
    ·obtain⟨_,_,_,_,o,_,_,e,ex,_⟩:=I.hok p _ hk
     exact⟨o,e,ex⟩
    ·obtain⟨_,_,_,_,o,_,_,e,ex,_⟩:=I.hok p _ hk
     exact⟨o,e,ex⟩
   obtain⟨o,e,ex⟩:=z;refine⟨⟨o,e,ex.1⟩,fun a e2=> ?_⟩;cases e2;exact⟨o,e,ex.2.1⟩
  ·obtain⟨o,_,_,_,e,ex,_⟩:=I.hok p _ hk
   refine⟨⟨o,e,ex.1⟩,fun a e2=> ?_⟩;cases e2;exact⟨o,e,ex.2.1⟩
 |_=>exact False.elim ty
def tBM0(K:Fg)(T:String)(r:V->List V->Hp->VK->Prop)(to:TE):TE:=fun σ H Q=>to σ H fun x H1=>tM K T x H1/\r x [] H1 Q
def tBM(K:Fg)(T:String)(r:V->List V->Hp->VK->Prop)(to:TE)(t:TA):TE:=fun σ H Q=>to σ H fun x H1=>tM K T x H1/\t σ H1 fun xs H2=>r x xs H2 Q
variable{o:Expr}{to:TE}{t:TA}{name:Str}{cpos:Pos}{T id:String}{r:V->List V->Hp->VK->Prop}
theorem mN(pa:PlainAttrs T)(slot:Slot T name id)(hty:typeOf (.builtin id)=pure (.type "method_descriptor"))(hm:tJ X id r)(ho:PE X o to)
 (hbase:attributeBase o name X.env (eval o X.env)=eval o X.env:=by rfl)(hline:(apos.endLine==cpos.line)=true:=by rfl):PE X (.Call (.Attribute o name apos) [] [] cpos) (tBM0 X.K T r to):=by
 intro ac s σ H Q I h;refine wpAny_Call_method0_late hbase hline (aP (ho ac s σ H _ I h) ?_);rintro v s1 ⟨x,H1,I1,r1,ty,q1⟩;refine ?_;obtain⟨h1,h2⟩:=yF I1 r1 ty;exact⟨T,id,pa,slot,hty,h1,h2,Calls.callWith_builtin rfl (PySem.evalArgs_none (hm ac s1 σ H1 x [] v [] Q I1 r1 .nil q1))⟩
theorem gR(pa:PlainAttrs T)(slot:Slot T name id)(hty:typeOf (.builtin id)=pure (.type "method_descriptor"))(hm:tJ X id r)(ho:PE X o to)(ha:PA X (e::es) t)
 (hbase:attributeBase o name X.env (eval o X.env)=eval o X.env:=by rfl)
 (hfew:((backTo cpos (starEach (e::es) X.env)).all (fun x=> !x.1)&&(backToKw cpos (keywordEach [] X.env)).all (fun x=>x.1.isSome)
  &&decide ((e::es).length+ ([]:List Keyword).length+ (if([]:List Keyword).isEmpty then 0 else 1)<30))=true:=by rfl)
 (hline:(apos.endLine==cpos.line)=true:=by rfl)(hs:starEach (e::es) X.env=(false,eval e X.env)::starEach es X.env:=by rfl)(hplain:(backTo cpos (starEach es X.env)).any (·.1)=false:=by rfl):
 PE X (.Call (.Attribute o name apos) (e::es) [] cpos) (tBM X.K T r to t):=by
 intro ac s σ H Q I h;refine wpAny_Call_method_late hbase hfew hline rfl (aP (ho ac s σ H _ I h) ?_);rintro v s1 ⟨x,H1,I1,r1,ty,q1⟩;refine ?_;obtain⟨h1,h2⟩:=yF I1 r1 ty;refine⟨T,id,pa,slot,hty,h1,h2,?_⟩;have hA:=ha cpos ac s1 σ H1 _ I1 q1
 rw[hs]at hA|-
 refine Calls.callWith_builtin (by show(false||(backTo cpos (starEach es X.env)).any (·.1))=false;rw[hplain]<;>rfl) (Calls.evalArgs_plain ?_);refine aP hA ?_;rintro us s2 ⟨vs,H2,I2,r2,q2⟩;exact hm ac s2 σ H2 x vs v us Q I2 r1 r2 q2
end
def lH(X:Cx)(id:String)(r:V->List V->Hp->VK->Prop):Prop:=
 ∀(ac:List (Addr×Obj)) (s:Shared) (σ:St) (H:Hp) (x:V) (xs:List V) (v:Value) (us:List Value) (Q:VK),aC X ac σ H s->aU x v->aS xs us->r x xs H Q->
  wpAny (model X.prog X.w) X.A (call (.builtin id) (v::us)) (EP X ac σ Q) X.xe s
theorem aS.one:∀{x:V} {us:List Value},aS [x] us->∃u,us= [u] /\aU x u
 |_,_,.cons r .nil=>⟨_,rfl,r⟩
theorem aS.two{x:V}(h:aS [x,y] us):∃u v,us= [u,v] /\aU x u/\aU y v:=by
 cases h with
 |cons r h=>cases h with
  |cons q h=>cases h with
   |nil=>exact⟨_,_,rfl,r,q⟩
theorem aS.zero:∀{us:List Value},aS [] us->us= []
 |_,.nil=>rfl
theorem aS.dropLast(h:aS xs us):aS xs.dropLast us.dropLast:=by
 induction h with
 |nil=>exact .nil
 |cons r t ih=>
  cases t with
  |nil=>exact .nil
  |cons q t'=>exact .cons r ih
theorem aS.eraseIdx:∀{xs:List V} {us:List Value} (i:Nat),aS xs us->aS (xs.eraseIdx i) (us.eraseIdx i)
 |_,_,_,.nil=> .nil
 |_,_,0,.cons _ t=>t
 |_,_,i+ 1,.cons r t=> .cons r (aS.eraseIdx i t)
theorem aS.reverse(h:aS xs us):aS xs.reverse us.reverse:=by
 induction h with
 |nil=>exact .nil
 |cons r t ih=>rw[List.reverse_cons,List.reverse_cons];exact aS.append ih (.cons r .nil)
theorem a2W{α:Type}(l:List α):l.eraseIdx (l.length- 1)=l.dropLast:=by
 induction l with
 |nil=>rfl
 |cons a r ih=>
  cases r with
  |nil=>rfl
  |cons b r=>
   have e:(a::b::r).length- 1=((b::r).length- 1)+ 1:=by
    have h1:(a::b::r).length=r.length+ 2:=rfl;have h2:(b::r).length=r.length+ 1:=rfl;omega
   rw[e,List.eraseIdx_cons_succ,ih]
   all_goals rfl
theorem yM{α:Type}:∀(l:List α) (i:Nat),(l.eraseIdx i).length<=l.length
 | [],_=>Nat.le_refl _
 |_::_,0=>Nat.le_succ _
 |_::r,i+ 1=>Nat.succ_le_succ (yM r i)
section
variable{s:Shared}{zs:List V}
theorem aC.lset{its':List Value}{f:Array Value->Array Value}{t':Nat}(I:aC X ac σ H s)(hH:H l=some (.lst xs))
 (e:s.heap.get? l=some {cls:=.type "list",data:=.seq its.toArray n})(hf:f its.toArray=its'.toArray)(hv:aS ys its')(hz:ys.length<=sizeLine):
 aC X ac σ (upd H l (.lst ys)) {s with heap:=s.heap.update l (Obj.mapSeq f),toks:=t'}:=by
 have q:=PySem.IsL.update e f;rw[hf]at q;refine I.write (x:=l) (e:=l) (by rw[hH];exact trivial) (.inl rfl) (fun b' u hb hu=>(Heap.get?_update_other s.heap (Obj.mapSeq f) (Ne.symm hb)).trans hu) ⟨_,q⟩ ?_;exact⟨hz,its',_,hv,q⟩
theorem aC.lnew{t':Nat}(I:aC X ac σ H s)(hv:aS ys its)(hz:ys.length<=sizeLine):
 aC X ac σ (upd H s.heap.objs.size (.lst ys)) {s with heap:=s.heap.push {cls:=.type "list",data:=.seq its.toArray},toks:=t'}:=
 I.laid (fun _ _ q=>Heap.get?_push_of_some _ q) (Nat.le_refl _) ⟨hz,its,0,hv,Heap.get?_push_size _ rfl⟩
theorem aC.lstM(I:aC X ac σ H s)(hH:H l=some (.lst xs)):xs.length<=sizeLine/\∃(its:List Value) (n:Nat),aS xs its/\xs.length=its.length/\s.heap.get? l=some {cls:=.type "list",data:=.seq its.toArray n}:=by
 obtain⟨z,its,n,r,e⟩:=I.hok l _ hH;exact⟨z,its,n,r,r.length,e⟩
end
section
def a0V:V->List V->Hp->VK->Prop:=fun x vs H Q=>∃l xs y,x= .ref l/\vs= [y] /\H l=some (.lst xs)/\xs.length<sizeLine/\Q .non (upd H l (.lst (xs++ [y])))
theorem kZ:lH X "list.append" a0V:=by
 intro ac s σ H x vs v us Q I rx rv h;obtain⟨l,xs,y,rfl,rfl,hH,hz,q⟩:=h;cases rx;obtain⟨u,rfl,ru⟩:=rv.one;obtain⟨z,its,n,r,hl,e⟩:=I.lstM hH;refine call_meets F.slot_list_append ⟨_,e,rfl⟩ F.entry_list_append (F.args_list_append_2 _ _) (PySem.list_append l its.toArray n u (by rw[List.size_toArray];omega)) ⟨e,?_⟩;refine⟨.non,_,I.lset (its':=its++ [u]) hH e (by simp) (r.append (.cons ru .nil)) ?_,rfl,q⟩;rw[List.length_append,List.length_singleton];omega
def rPop:V->List V->Hp->VK->Prop:=fun x vs H Q=>∃l xs y,x= .ref l/\vs= [] /\H l=some (.lst xs)/\xs[xs.length- 1]?=some y/\Q y (upd H l (.lst xs.dropLast))
theorem a5e:lH X "list.pop" rPop:=by
 intro ac s σ H x vs v us Q I rx rv h;obtain⟨l,xs,y,rfl,rfl,hH,hy,q⟩:=h;cases rx;have hus:=rv.zero;subst hus;obtain⟨z,its,n,r,hl,e⟩:=I.lstM hH;obtain⟨u,hu,ru⟩:=r.get hy
 have hy':its.toArray[its.toArray.size- 1]?=some u:=by
  show its.toArray[its.length- 1]?=some u;rw[<- Array.getElem?_toList,<- hl];exact hu
 refine call_meets F.slot_list_pop ⟨_,e,rfl⟩ F.entry_list_pop (F.args_list_pop_1 _) (MeetsSeq.list_pop_last l its.toArray n u hy' (by rw[List.size_toArray];omega)) ⟨e,?_⟩;refine⟨y,_,I.lset (its':=its.dropLast) hH e ?_ r.dropLast ?_,ru,q⟩
 ·show its.toArray.eraseIdxIfInBounds (its.toArray.size- 1)=its.dropLast.toArray
  rw[List.size_toArray,List.eraseIdxIfInBounds_toArray,a2W]
 ·rw[List.length_dropLast]
  omega
def a4l:V->List V->Hp->VK->Prop:=fun x vs H Q=>∃l xs i k y,x= .ref l/\vs= [.int i] /\H l=some (.lst xs)/\ -(2^ 63)<=i/\i<2^ 63/\seqIndex? i xs.length=some k/\xs[k]?=some y/\Q y (upd H l (.lst (xs.eraseIdx k)))
theorem qU:lH X "list.pop" a4l:=by
 intro ac s σ H x vs v us Q I rx rv h;obtain⟨l,xs,i,k,y,rfl,rfl,hH,h1,h2,hk,hy,q⟩:=h;cases rx;obtain⟨u,rfl,ru⟩:=rv.one;obtain⟨t,rfl⟩:=ru;obtain⟨z,its,n,r,hl,e⟩:=I.lstM hH;obtain⟨w,hw,rw'⟩:=r.get hy;refine call_meets F.slot_list_pop ⟨_,e,rfl⟩ F.entry_list_pop (F.args_list_pop_2 _ _)
  (MeetsSeq.list_pop_at l its.toArray n i t k w (fitsIndex_both h1 h2) (by rw[List.size_toArray,<- hl];exact hk) (by rw[<- Array.getElem?_toList];exact hw) (by rw[List.size_toArray];omega)) ⟨e,?_⟩
 refine⟨y,_,I.lset (its':=its.eraseIdx k) hH e ?_ (r.eraseIdx k) ?_,rw',q⟩
 ·show its.toArray.eraseIdxIfInBounds k=(its.eraseIdx k).toArray
  rw[List.eraseIdxIfInBounds_toArray]
 ·have:=yM xs k
  omega
def a2o:V->List V->Hp->VK->Prop:=fun x vs H Q=>∃l xs,x= .ref l/\vs= [] /\H l=some (.lst xs)/\Q .non (upd H l (.lst xs.reverse))
theorem a4D:lH X "list.reverse" a2o:=by
 intro ac s σ H x vs v us Q I rx rv h;obtain⟨l,xs,rfl,rfl,hH,q⟩:=h;cases rx;have hus:=rv.zero;subst hus;obtain⟨z,its,n,r,hl,e⟩:=I.lstM hH;refine call_meets F.slot_list_reverse ⟨_,e,rfl⟩ F.entry_list_reverse (F.args_list_reverse_1 _) (AutoSeq1.list_reverse_list_0 l its.toArray n (by rw[List.size_toArray];omega)) ⟨e,?_⟩;refine⟨.non,_,I.lset (its':=its.reverse) hH e (by simp) r.reverse ?_,rfl,q⟩;rw[List.length_reverse];omega
def a3r:V->List V->Hp->VK->Prop:=fun x vs H Q=>∃l xs,x= .ref l/\vs= [] /\H l=some (.lst xs)/\Q .non (upd H l (.lst []))
theorem wJ:lH X "list.clear" a3r:=by
 intro ac s σ H x vs v us Q I rx rv h;obtain⟨l,xs,rfl,rfl,hH,q⟩:=h;cases rx;have hus:=rv.zero;subst hus;obtain⟨z,its,n,r,hl,e⟩:=I.lstM hH;refine call_meets F.slot_list_clear ⟨_,e,rfl⟩ F.entry_list_clear (F.args_list_clear_1 _) (AutoSeq1.list_clear_list_0 l its.toArray n (by rw[List.size_toArray];omega)) ⟨e,?_⟩;exact⟨.non,_,I.lset (its':=[]) (ys:=[]) hH e rfl .nil (Nat.zero_le _),rfl,q⟩
end
section
variable{κ:Type} [DecidableEq κ]
def aO(kvs:List (κ×V))(k:κ):Option V:=(kvs.find? fun kv=>decide (kv.1=k)).map (·.2)
noncomputable def bH (kvs:List (κ×V)) (k:κ) (v:V):List (κ×V):=
 if(kvs.any fun kv=>decide (kv.1=k))=true then kvs.map (fun kv=>if kv.1=k then(kv.1,v) else kv) else kvs++ [(k,v)]
noncomputable def cH (kvs:List (κ×V)) (k:κ):List (κ×V):=kvs.filter fun kv=>decide (kv.1≠k)
theorem fN{p:κ×V}{r:List (κ×V)}{k:κ}(e:p.1=k):aO (p::r) k=some p.2:=by simp[aO,List.find?_cons,e]
theorem eX{p:κ×V}{r:List (κ×V)}{k:κ}(e:¬p.1=k):aO (p::r) k=aO r k:=by simp[aO,List.find?_cons,e]
theorem kI(k:κ):∀kvs:List (κ×V),(kvs.any fun kv=>decide (kv.1=k))=(aO kvs k).isSome
 | []=>rfl
 |p::r=>by
  rw[List.any_cons];by_cases e:p.1=k
  ·simp only[fN e,decide_eq_true e,Bool.true_or,Option.isSome_some]
  ·rw[eX e,decide_eq_false e,Bool.false_or];exact kI k r
theorem wN(k j:κ)(y:V):∀kvs:List (κ×V),aO (kvs.map fun kv=>if kv.1=k then(kv.1,y) else kv) j=(aO kvs j).map fun x=>if j=k then y else x
 | []=>rfl
 |p::r=>by
  have ih:=wN k j y r;rw[List.map_cons];by_cases h:p.1=k
  ·rw[if_pos h]
   by_cases e:p.1=j
   ·rw[fN (p:=(p.1,y)) e,fN e,Option.map_some,if_pos (e.symm.trans h)]
   ·rw[eX (p:=(p.1,y)) e,eX e,ih]
  ·rw[if_neg h]
   by_cases e:p.1=j
   ·rw[fN (p:=p) e,fN e,Option.map_some,if_neg (fun z=>h (e.trans z))]
   ·rw[eX (p:=p) e,eX e,ih]
theorem wH(k j:κ)(y:V):∀kvs:List (κ×V),aO kvs k=none->aO (kvs++ [(k,y)]) j=if j=k then some y else aO kvs j
 | [],_=>by
  by_cases e:k=j
  ·rw[if_pos e.symm];exact fN (p:=(k,y)) e
  ·rw[if_neg (fun z=>e z.symm)];exact eX (p:=(k,y)) e
 |p::r,hn=>by
  rw[List.cons_append];have hk:¬p.1=k:=fun z=>by rw[fN z]at hn;cases hn
  rw[eX hk]at hn;have ih:=wH k j y r hn;by_cases e:p.1=j
  ·rw[fN e,fN e,if_neg (fun z=>hk (e.trans z))]
  ·rw[eX e,eX e,ih]
theorem lX(kvs:List (κ×V))(k j:κ)(y:V):aO (bH kvs k y) j=if j=k then some y else aO kvs j:=by
 unfold bH;by_cases a:(kvs.any fun kv=>decide (kv.1=k))=true
 ·rw[if_pos a,wN]
  rw[kI]at a;by_cases e:j=k
  ·obtain⟨x,hx⟩:=Option.isSome_iff_exists.mp a
   rw[if_pos e,e,hx,Option.map_some,if_pos rfl]
  ·rw[if_neg e]
   cases aO kvs j with
   |none=>rfl
   |some x=>rw[Option.map_some,if_neg e]
 ·rw[if_neg a]
  refine wH k j y kvs ?_;rw[kI]at a
  cases q:aO kvs k with
  |none=>rfl
  |some x=>rw[q]at a;exact(a rfl).elim
theorem nP(kvs:List (κ×V))(k:κ)(v:V):(bH kvs k v).length<=kvs.length+ 1:=by
 unfold bH;split
 ·rw[List.length_map];omega
 ·rw[List.length_append,List.length_cons,List.length_nil];omega
theorem jA{kvs:List (κ×V)}{k:κ}(v:V)(h:aO kvs k=none):bH kvs k v=kvs++ [(k,v)]:=by
 unfold bH;rw[kI,h];exact if_neg (by decide)
theorem eC.isSome_eq{o:Option V}{u:Option Value}(r:eC o u):o.isSome=u.isSome:=by
 cases o with
 |none=>cases u with
  |none=>rfl
  |some _=>exact(show False from r).elim
 |some _=>cases u with
  |none=>exact(show False from r).elim
  |some _=>rfl
theorem KV.val{kvs:List (κ×V)}{vs:List (κ×Value)}(r:KV kvs vs)(k:κ):eC (aO kvs k) (valueAt vs k):=by
 unfold KV at r
 induction r with
 |nil=>exact True.intro
 | @cons p q ps qs h t ih=>
  obtain⟨h1,h2⟩:=h;by_cases e:p.1=k
  ·have e':q.1=k:=h1.symm.trans e
   have b:valueAt (q::qs) k=some q.2:=by simp[valueAt,List.find?_cons,e']
   rw[fN e,b];exact h2
  ·have e':¬q.1=k:=fun z=>e (h1.trans z)
   have b:valueAt (q::qs) k=valueAt qs k:=by simp[valueAt,List.find?_cons,e']
   rw[eX e,b];exact ih
theorem KV.any{kvs:List (κ×V)}{vs:List (κ×Value)}(r:KV kvs vs)(k:κ):(kvs.any fun kv=>decide (kv.1=k))=vs.any fun kv=>decide (kv.1=k):=by
 unfold KV at r
 induction r with
 |nil=>rfl
 |cons h t ih=>rw[List.any_cons,List.any_cons,ih,h.1]
theorem KV.repl{kvs:List (κ×V)}{vs:List (κ×Value)}(r:KV kvs vs)(k:κ)(ry:aU y u):
 KV (kvs.map fun kv=>if kv.1=k then(kv.1,y) else kv) (vs.map fun kv=>if kv.1=k then(kv.1,u) else kv):=by
 unfold KV at r|-
 induction r with
 |nil=>exact .nil
 | @cons p q ps qs h t ih=>
  rw[List.map_cons,List.map_cons];refine .cons ?_ ih;obtain⟨h1,h2⟩:=h;by_cases e:p.1=k
  ·rw[if_pos e,if_pos (h1.symm.trans e)];exact⟨h1,ry⟩
  ·rw[if_neg e,if_neg (fun z=>e (h1.trans z))];exact⟨h1,h2⟩
theorem KV.put{kvs:List (κ×V)}{vs:List (κ×Value)}(r:KV kvs vs)(k:κ)(ry:aU y u):KV (bH kvs k y) (stored vs k u):=by
 unfold bH stored;rw[r.any k];by_cases e:(vs.any fun kv=>decide (kv.1=k))=true
 ·rw[if_pos e,if_pos e];exact r.repl k ry
 ·rw[if_neg e,if_neg e];exact Paired.snoc r ⟨rfl,ry⟩
theorem KV.drop{kvs:List (κ×V)}{vs:List (κ×Value)}(r:KV kvs vs)(k:κ):KV (cH kvs k) (without vs k):=by
 unfold KV at r|-
 unfold cH without
 induction r with
 |nil=>exact .nil
 | @cons p q ps qs h t ih=>
  obtain⟨h1,h2⟩:=h;rw[List.filter_cons,List.filter_cons];by_cases e:p.1=k
  ·have a:¬decide (p.1≠k)=true:=by simp[e]
   have b:¬decide (q.1≠k)=true:=by simp[h1.symm.trans e]
   rw[if_neg a,if_neg b];exact ih
  ·have e':¬q.1=k:=fun z=>e (h1.trans z)
   have a:decide (p.1≠k)=true:=by simp[e]
   have b:decide (q.1≠k)=true:=by simp[e']
   rw[if_pos a,if_pos b];exact .cons ⟨h1,h2⟩ ih
theorem KV.length{kvs:List (κ×V)}{vs:List (κ×Value)}(r:KV kvs vs):kvs.length=vs.length:=Paired.length r
theorem sR(kvs:List (κ×V))(k:κ):(cH kvs k).length<=kvs.length:=List.length_filter_le _ _
end
theorem jT{k:aB}(r:aU (kV k) u):(cP P w).is k u=true:=by
 cases k with
 |inl i=>obtain⟨t,e⟩:=(show∃t,u=Value.int i t from r);subst e;exact a5c P w i t
 |inr x=>obtain⟨t,e⟩:=(show∃t,u=Value.str x t from r);subst e;exact a2U P w x t
theorem a0E{P:Program}{w:World}:∀{ks:List aB} {us:List Value},aS (ks.map kV) us->ItemsAre (cP P w) ks us
 | [],_,r=>by rw[List.map_nil]at r;cases r;exact .nil
 |k::ks,_,r=>by
  rw[List.map_cons]at r
  cases r with
  |cons h t=>exact .cons (jT h) (a0E t)
abbrev KT(H:Hp):List (List aB×V)->List (List aB×Addr×Value)->Prop:=Paired fun p q=>p.1=q.1/\H q.2.1=some (.tup (p.1.map kV))/\aU p.2 q.2.2
theorem KT.val{kvs:List (List aB×V)}{xs:List (List aB×Addr×Value)}(r:KT H kvs xs)(k:List aB):eC (aO kvs k) ((atKey xs k).map (·.2)):=by
 induction r with
 |nil=>exact True.intro
 | @cons p q ps qs h t ih=>
  obtain⟨h1,_,h2⟩:=h;by_cases e:p.1=k
  ·have e':q.1=k:=h1.symm.trans e
   have b:atKey (q::qs) k=some q.2:=by simp[atKey,List.find?_cons,e']
   rw[fN e,b];exact h2
  ·have e':¬q.1=k:=fun z=>e (h1.trans z)
   have b:atKey (q::qs) k=atKey qs k:=by simp[atKey,List.find?_cons,e']
   rw[eX e,b];exact ih
theorem KT.repl{kvs:List (List aB×V)}{xs:List (List aB×Addr×Value)}(r:KT H kvs xs)(k:List aB)(ry:aU y u):
 KT H (kvs.map fun kv=>if kv.1=k then(kv.1,y) else kv) (xs.map (putAt k u)):=by
 induction r with
 |nil=>exact .nil
 | @cons p q ps qs h t ih=>
  rw[List.map_cons,List.map_cons];refine .cons ?_ ih;obtain⟨h1,h2,h3⟩:=h;unfold putAt;by_cases e:p.1=k
  ·rw[if_pos e,if_pos (h1.symm.trans e)];exact⟨h1,h2,ry⟩
  ·rw[if_neg e,if_neg (fun z=>e (h1.trans z))];exact⟨h1,h2,h3⟩
theorem KT.put{kvs:List (List aB×V)}{xs:List (List aB×Addr×Value)}(r:KT H kvs xs)(k:List aB)(hb:H b=some (.tup (k.map kV)))(ry:aU y u):
 KT H (bH kvs k y) (storedH xs k b u):=by
 have e:(kvs.any fun kv=>decide (kv.1=k))=(atKey xs k).isSome:=by
  rw[kI,(r.val k).isSome_eq,Option.isSome_map]
 unfold bH storedH;rw[e];by_cases q:(atKey xs k).isSome=true
 ·rw[if_pos q,if_pos q];exact r.repl k ry
 ·rw[if_neg q,if_neg q];exact Paired.snoc r ⟨rfl,hb,ry⟩
theorem KT.keeps{kvs:List (List aB×V)}{xs:List (List aB×Addr×Value)}(r:KT H kvs xs)(ht:∀b ys,H b=some (.tup ys)->H' b=some (.tup ys)):KT H' kvs xs:=
 Paired.mapP r fun _ _ z=>⟨z.1,ht _ _ z.2.1,z.2.2⟩
section
theorem yY{u:HO}(ok:cO P w H h)(e:Rd H a u):cI P w H h a u:=e.ok ok
theorem iB(ok:cO P w H h)(e:Rd H a (.dK kvs)):kvs.length<=sizeLine/\(a==sysModules)=false/\∃vs,KV kvs vs/\h.DictOf (cP P w) a vs:=
 show cI P w H h a (.dK kvs) from yY ok e
theorem nJ(ok:cO P w H h)(e:H a=some (.dK kvs)):kvs.length<=sizeLine/\(a==sysModules)=false/\∃vs,KV kvs vs/\h.DictOf (cP P w) a vs:=iB ok (.inl e)
theorem mW{ks:List aB}(ok:cO P w H h)(e:H a=some (.tup (ks.map kV))):(tupleKind (cP P w)).is h ks a:=by
 obtain⟨_,its,r,o,h1,h2,n,h3⟩:=(show cI P w H h a (.tup (ks.map kV)) from ok a _ e);exact⟨o,its.toArray,n,h1,h2,h3,by simpa using a0E r⟩
theorem lM{kvs:List (List aB×V)}(ok:cO P w H h)(e:Rd H a (.dT kvs)):kvs.length<=sizeLine/\(a==sysModules)=false/\
 ∃xs,KT H kvs xs/\h.DictOfH (tupleKind (cP P w)) a xs:=by
 obtain⟨z,y,xs,r,o,es,ep,h1,h2,h3,h4,h5⟩:=(show cI P w H h a (.dT kvs) from yY ok e);refine⟨z,y,xs,r,o,es,ep,h1,h2,h3,h4,fun x hx=> ?_,h5⟩
 have all:∀{l:List (List aB×V)} {m:List (List aB×Addr×Value)},KT H l m->∀x∈m,(tupleKind (cP P w)).is h x.1 x.2.1:=by
  intro l m q
  induction q with
  |nil=>intro x hx;exact nomatch hx
  | @cons p q ps qs hq t ih=>
   intro x hx
   rcases List.mem_cons.mp hx with e|hx
   ·subst e
    exact mW ok (by rw[<- hq.1];exact hq.2.1)
   ·exact ih x hx
 exact all r x hx
theorem a5q{kvs:List (List aB×V)}(ok:cO P w H h)(e:H a=some (.dT kvs)):kvs.length<=sizeLine/\(a==sysModules)=false/\
 ∃xs,KT H kvs xs/\h.DictOfH (tupleKind (cP P w)) a xs:=lM ok (.inl e)
end
def cG(H:Hp)(a:Addr)(y:V)(r:Option V):Prop:=
 (∃kvs k,Rd H a (.dK kvs)/\y=kV k/\r=aO kvs k)\/ ∃kvs k b,Rd H a (.dT kvs)/\y= .ref b/\H b=some (.tup (k.map kV))/\r=aO kvs k
def iR(H:Hp)(a:Addr)(y v:V)(H':Hp):Prop:=
 (∃kvs k,H a=some (.dK kvs)/\y=kV k/\kvs.length<sizeLine/\H'=upd H a (.dK (bH kvs k v)))\/
 ∃kvs k b,H a=some (.dT kvs)/\y= .ref b/\H b=some (.tup (k.map kV))/\kvs.length<sizeLine/\H'=upd H a (.dT (bH kvs k v))
theorem cG.k{k:aB}(e:H a=some (.dK kvs)):cG H a (kV k) (aO kvs k):=.inl ⟨kvs,k,.inl e,rfl,rfl⟩
theorem iR.k{k:aB}(e:H a=some (.dK kvs))(hl:kvs.length<sizeLine):iR H a (kV k) v (upd H a (.dK (bH kvs k v))):=.inl ⟨kvs,k,e,rfl,hl,rfl⟩
section
variable{s:Shared}{r:Value}{o:Option V}
theorem aC.big(I:aC X ac σ H s):sysModules<s.heap.objs.size:=by
 have h:mainGlobals<s.heap.objs.size:=(I.mod.glob.keeps I.bk).lt;exact Nat.lt_trans (by decide) h
theorem a4q(hu:A.units+ 1<cLine)(I:aC X ac σ H s)(g:cG H a y (some v))(ry:aU y u)(h:∀w' s',aC X ac σ H s'->aU v w'->Q w' s'):
 wpAny (model X.prog X.w) A (getItem (.ref a) u) Q E s:=by
 rcases g with⟨kvs,k,e,ey,l⟩|⟨kvs,k,b,e,ey,eb,l⟩
 ·subst ey
  obtain⟨z,hd,vs,rel,dd⟩:=iB I.hok e;obtain⟨w',hw,rw'⟩:=eC.some_of (v:=v) (o:=valueAt vs k) (by rw[l];exact rel.val k);exact wpAny_getItem_of (jT ry) dd.mapOf hw (h w' _ (I.tok _) rw')
 ·subst ey
  cases (show u=Value.ref b from ry);obtain⟨z,hd,xs,rel,dd⟩:=lM I.hok e;obtain⟨w',hw,rw'⟩:=eC.some_of (v:=v) (o:=(atKey xs k).map (·.2)) (by rw[l];exact rel.val k);obtain⟨p,hp,hp2⟩:=Option.map_eq_some_iff.mp hw;refine wpAny_getItem_heap (tupleKind_room_in1 hu) (mW I.hok eb) dd hp ?_;rw[hp2];exact h w' _ (I.tok _) rw'
theorem d_in(hu:A.units+ 1<cLine)(I:aC X ac σ H s)(g:cG H a y o)(ry:aU y u)(h:∀s',aC X ac σ H s'->Q (.bool o.isSome) s'):
 wpAny (model X.prog X.w) A (compareOp .In u (.ref a)) Q E s:=by
 rcases g with⟨kvs,k,e,ey,l⟩|⟨kvs,k,b,e,ey,eb,l⟩
 ·subst ey
  obtain⟨z,hd,vs,rel,dd⟩:=iB I.hok e;refine wpAny_in_of (jT ry) hd dd.mapOf ?_;rw[<- (rel.val k).isSome_eq,<- l];exact h _ (I.tok _)
 ·subst ey
  cases (show u=Value.ref b from ry);obtain⟨z,hd,xs,rel,dd⟩:=lM I.hok e;refine wpAny_in_heap (tupleKind_room_in1 hu) (mW I.hok eb) hd dd ?_;have q:=(rel.val k).isSome_eq;rw[Option.isSome_map]at q;rw[<- q,<- l];exact h _ (I.tok _)
theorem a2B(hu:A.units+ 1<cLine)(I:aC X ac σ H s)(g:cG H a y o)(ry:aU y u)(h:∀s',aC X ac σ H s'->Q (.bool (!o.isSome)) s'):
 wpAny (model X.prog X.w) A (compareOp .NotIn u (.ref a)) Q E s:=by
 rcases g with⟨kvs,k,e,ey,l⟩|⟨kvs,k,b,e,ey,eb,l⟩
 ·subst ey
  obtain⟨z,hd,vs,rel,dd⟩:=iB I.hok e;refine wpAny_notIn_of (jT ry) hd dd.mapOf ?_;rw[<- (rel.val k).isSome_eq,<- l];exact h _ (I.tok _)
 ·subst ey
  cases (show u=Value.ref b from ry);obtain⟨z,hd,xs,rel,dd⟩:=lM I.hok e;refine wpAny_notIn_heap (tupleKind_room_in1 hu) (mW I.hok eb) hd dd ?_;have q:=(rel.val k).isSome_eq;rw[Option.isSome_map]at q;rw[<- q,<- l];exact h _ (I.tok _)
theorem nL{t':Nat}{ob:HO}(I:aC X ac σ H s)(mu:mI (H a))(hs:Heap.SameBut a s.heap h')(he:∃q,h'.get? a=some q)(new:cI X.prog X.w (upd H a ob) h' a ob):
 aC X ac σ (upd H a ob) {s with heap:=h',toks:=t'}:=
 I.write (x:=a) (e:=a) mu (.inl rfl) (fun b q hb z=>(hs.2 b hb).trans z) he new
theorem oG{vs:List (aB×Value)}(z:kvs.length<=sizeLine)(hd:(a==sysModules)=false)(rel:KV kvs vs)(dd:h'.DictOf (cP P w) a vs):
 cI P w H' h' a (.dK kvs):=⟨z,hd,vs,rel,dd⟩
theorem a17{Q:Unit->Shared->Prop}(hu:A.units+ 1<cLine)(I:aC X ac σ H s)(g:iR H a y v H')(ry:aU y u)(rv:aU v r)(h:∀s',aC X ac σ H' s'->Q () s'):
 wpAny (model X.prog X.w) A (setItem (.ref a) u r) Q E s:=by
 rcases g with⟨kvs,k,e,ey,l,eH⟩|⟨kvs,k,b,e,ey,eb,l,eH⟩
 ·subst ey eH
  obtain⟨z,hd,vs,rel,dd⟩:=nJ I.hok e
  have hz:vs.length<=sizeLine:=by rw[<- rel.length];exact z
  have hl:(bH kvs k v).length<=sizeLine:=by have:=nP kvs k v;omega
  refine wpAny_setItem_pairs (hsz:=hz) (jT ry) dd fun h' dd' hs=>h _ ?_
  have he:∃q,h'.get? a=some q:=let ⟨q,_,_,hq,_⟩:=dd';⟨q,hq⟩;exact nL I (by rw[e];exact True.intro) hs he (oG hl hd (rel.put k rv) dd')
 ·subst ey eH
  cases (show u=Value.ref b from ry);obtain⟨z,hd,xs,rel,dd⟩:=a5q I.hok e
  have hz:xs.length<=sizeLine:=by rw[<- Paired.length rel];exact z
  have hl:(bH kvs k v).length<=sizeLine:=by have:=nP kvs k v;omega
  refine wpAny_setItem_heap (hsz:=hz) (tupleKind_room_in1 hu) (mW I.hok eb) dd fun h' dd' hs=>h _ ?_
  obtain⟨q,es,ep,hq,h2,h3,h4,_,h5⟩:=dd';refine nL I (by rw[e];exact True.intro) hs ⟨q,hq⟩ ⟨hl,hd,_,(rel.put k eb rv).keeps fun c ys ec=> ?_,q,es,ep,hq,h2,h3,h4,h5⟩;rw[aF (eR ec e (fun z=>nomatch z))];exact ec
end
section
variable{s:Shared}{k:aB}
theorem d_delItem{Q:Unit->Shared->Prop}(I:aC X ac σ H s)(e:H a=some (.dK kvs))(ry:aU (kV k) u)(l:(aO kvs k).isSome=true)(h:∀s',aC X ac σ (upd H a (.dK (cH kvs k))) s'->Q () s'):
 wpAny (model X.prog X.w) A (delItem (.ref a) u) Q E s:=by
 obtain⟨z,hd,vs,rel,dd⟩:=nJ I.hok e;refine wpAny_delItem_slot dd.typeIs (by decide) F.slot_dict_delitem
  (call_meetsIn F.slot_dict_delitem dd.typeIs F.entry_dict_delitem (F.args_dict_delitem_2 _ _) (meets_dict_delitem_pairs (cP X.prog X.w) a (jT ry)) ⟨vs,dd,by rw[<- rel.length];exact z,by rw[<- (rel.val k).isSome_eq];exact l,fun h' dd' hs=>h _ ?_⟩)
 have he:∃q,h'.get? a=some q:=let ⟨q,_,_,hq,_⟩:=dd';⟨q,hq⟩;exact nL I (by rw[e];exact True.intro) hs he (oG (Nat.le_trans (sR kvs k) z) hd (rel.drop k) dd')
theorem a4Z{more:List Value}(I:aC X ac σ H s)(e:H a=some (.dK kvs))(ry:aU (kV k) u)(l:aO kvs k=some v)(hm:more= []\/ ∃x,more= [x])
 (h:∀w' s',aC X ac σ (upd H a (.dK (cH kvs k))) s'->aU v w'->Q w' s'):wpAny (model X.prog X.w) A (call (.builtin "dict.pop") (.ref a::u::more)) Q E s:=by
 obtain⟨z,hd,vs,rel,dd⟩:=nJ I.hok e;obtain⟨w',hw,rw'⟩:=eC.some_of (v:=v) (o:=valueAt vs k) (by rw[<- l];exact rel.val k)
 have hp:(keyPart u).isSome=true:=by
  cases k with
  |inl i=>obtain⟨t,q⟩:=(show∃t,u=Value.int i t from ry);subst q;rfl
  |inr x=>obtain⟨t,q⟩:=(show∃t,u=Value.str x t from ry);subst q;rfl
 have ha:argsOk "dict.pop" ⟨.ref a::u::more,[]⟩:=by
  rcases hm with q|⟨x,q⟩
  ·subst q;exact F.args_dict_pop_2 _ _
  ·subst q;exact F.args_dict_pop_3 _ _ _
 refine call_meetsIn F.slot_dict_pop dd.typeIs F.entry_dict_pop ha (meets_dict_pop_there (cP X.prog X.w) a (jT ry) more hm hp)
  ⟨vs,w',dd,by rw[<- rel.length];exact z,hw,fun h' dd' hs=>h w' _ ?_ rw'⟩
 have he:∃q,h'.get? a=some q:=let ⟨q,_,_,hq,_⟩:=dd';⟨q,hq⟩;exact nL I (by rw[e];exact True.intro) hs he (oG (Nat.le_trans (sR kvs k) z) hd (rel.drop k) dd')
theorem a4V(I:aC X ac σ H s)(e:H a=some (.dK kvs))(h:∀s',aC X ac σ (upd H a (.dK [])) s'->Q .none s'):wpAny (model X.prog X.w) A (call (.builtin "dict.clear") [.ref a]) Q E s:=by
 obtain⟨z,hd,vs,rel,dd⟩:=nJ I.hok e;refine call_meetsIn F.slot_dict_clear dd.typeIs F.entry_dict_clear (F.args_dict_clear_1 _) (meets_dict_clear (cP X.prog X.w) a) ⟨vs,dd,by rw[<- rel.length];exact z,fun h' dd' hs=>h _ ?_⟩;have he:∃q,h'.get? a=some q:=let ⟨q,_,_,hq,_⟩:=dd';⟨q,hq⟩;exact nL (t':=s.toks) I (by rw[e];exact True.intro) hs he (oG (Nat.zero_le _) hd .nil dd')
theorem a0O(I:aC X ac σ H s)(e:Rd H a (.dK kvs))(h:∀t s',aC X ac σ H s'->Q (.int kvs.length t) s'):wpAny (model X.prog X.w) A (call (.builtin "len") [.ref a]) Q E s:=by
 obtain⟨z,hd,vs,rel,dd⟩:=iB I.hok e;refine call_len_dict hd dd (by rw[<- rel.length];rw[sizeLine_eq]at z;omega) ?_;rw[<- rel.length];exact h _ _ (I.tok _)
end
def yZ(i:Expr):Prop:=∀ov iv,subscripted i false ov iv=operate [ov,iv] (getItem ov iv)
theorem a2S{s:Shared}{env:Env}{value slice:Expr}{T id:String}
 (hl:typeLookup (.type T) "__getitem__"=pure (some (.builtin id)))(hs:yZ slice)
 (h:wpAny (model prog w) A (eval value env) (fun o s₁=>wpAny (model prog w) A (eval slice env) (fun i s₂=>s₂.TypeIs o T/\wpAny (model prog w) A (getItem o i) Q E s₂) E s₁) E s):
 wpAny (model prog w) A (eval (.Subscript value slice pos) env) Q E s:=by
 refine Subscript_ (wpAny_mono h (fun o s₁ h₁=>wpAny_mono h₁ (fun i s₂ h₂=> ?_) fun _ _ x=>x) fun _ _ x=>x);obtain⟨hT,h₂⟩:=h₂;unfold subscriptTail;refine wpAny_bind ?_;rw[getitemInPython_of_ne hT.not_modules];refine wpAny_bind (wpAny_specialOf hT hl ?_)
 have fin:wpAny (model prog w) A (subscripted slice false o i) (fun r s₃=>wpAny (model prog w) A (letTemporaryGo value o r>>=fun _=>pure r) Q E s₃) E s₂:=by
  rw[hs o i];exact wpAny_operating (wpAny_mono h₂ (fun r s₃ h₃=>wpAny_bind (wpAny_letTemporaryGo (wpAny_pure h₃))) fun _ _ x=>x)
 first
  |exact wpAny_pure (wpAny_bind fin)
  |exact wpAny_bind (wpAny_pure (wpAny_bind fin))
  |exact wpAny_bind fin
theorem a2Z{s:Shared}{o:Option V}(I:aC X ac σ H s)(g:cG H a y o):s.TypeIs (.ref a) "dict":=by
 rcases g with⟨kvs,k,e,_,_⟩|⟨kvs,k,b,e,_,_,_⟩
 ·obtain⟨_,_,vs,_,dd⟩:=iB I.hok e
  exact dd.typeIs
 ·obtain⟨_,_,xs,_,dd⟩:=lM I.hok e
  exact dd.typeIs
def vN(td ty:TE):TE:=fun σ H Q=>td σ H fun x H1=>ty σ H1 fun y H2=>∃a v,x= .ref a/\cG H2 a y (some v)/\Q v H2
def tDIn(ty td:TE):TE:=fun σ H Q=>ty σ H fun y H1=>td σ H1 fun x H2=>∃a o,x= .ref a/\cG H2 a y o/\Q (.bl o.isSome) H2
def a04(ty td:TE):TE:=fun σ H Q=>ty σ H fun y H1=>td σ H1 fun x H2=>∃a o,x= .ref a/\cG H2 a y o/\Q (.bl (!o.isSome)) H2
def a3x(td ty tv:TE):TS:=fun D σ H=>tv σ H fun v H1=>td σ H1 fun x H2=>ty σ H2 fun y H3=>∃a H4,x= .ref a/\iR H3 a y v H4/\D.nx σ H4
section
variable{o i value:Expr}{td ty tv:TE}
theorem eN(hu:X.A.units+ 1<cLine)(ho:PE X o td)(hi:PE X i ty)(hs:yZ i):PE X (.Subscript o i pos) (vN td ty):=by
 intro ac s σ H Q I h;refine a2S F.slot_dict_getitem.lookup hs (aP (ho ac s σ H _ I h) ?_);rintro u s1 ⟨x,H1,I1,rx,q1⟩;refine aP (hi ac s1 σ H1 _ I1 q1) ?_;rintro iv s2 ⟨y,H2,I2,ry,a,v,ex,g,q2⟩;refine ?_;subst ex;obtain rfl:u=Value.ref a:=rx;exact⟨a2Z I2 g,a4q hu I2 g ry fun w' s3 I3 rw'=>⟨v,H2,I3,rw',q2⟩⟩
theorem jE(hu:X.A.units+ 1<cLine)(hi:PE X i ty)(ho:PE X o td):PC X .In i o (tDIn ty td):=by
 intro ac s σ H Q I h;refine aP (hi ac s σ H _ I h) ?_;rintro iv s1 ⟨y,H1,I1,ry,q1⟩;refine aP (ho ac s1 σ H1 _ I1 q1) ?_;rintro u s2 ⟨x,H2,I2,rx,a,ov,ex,g,q2⟩;refine ?_;subst ex;obtain rfl:u=Value.ref a:=rx;exact d_in hu I2 g ry fun s3 I3=>⟨.bl ov.isSome,H2,I3,rfl,q2⟩
theorem mC(hu:X.A.units+ 1<cLine)(hi:PE X i ty)(ho:PE X o td):PC X .NotIn i o (a04 ty td):=by
 intro ac s σ H Q I h;refine aP (hi ac s σ H _ I h) ?_;rintro iv s1 ⟨y,H1,I1,ry,q1⟩;refine aP (ho ac s1 σ H1 _ I1 q1) ?_;rintro u s2 ⟨x,H2,I2,rx,a,ov,ex,g,q2⟩;refine ?_;subst ex;obtain rfl:u=Value.ref a:=rx;exact a2B hu I2 g ry fun s3 I3=>⟨.bl (!ov.isSome),H2,I3,rfl,q2⟩
theorem lQ(hu:X.A.units+ 1<cLine)(ho:PE X o td)(hi:PE X i ty)(hv:PE X value tv)(hs:swapsWith value (some (.Subscript o i pos')) pos.line X.env=pure false):
 PS X (.Assign [.Subscript o i pos'] value pos) (a3x td ty tv):=by
 intro ac s σ H D I h;refine wpAny_Assign_Subscript (aP (hv ac s σ H _ I h) ?_) hs;rintro r s1 ⟨v,H1,I1,rv,q1⟩;refine aP (ho ac s1 σ H1 _ I1 q1) ?_;rintro u s2 ⟨x,H2,I2,rx,q2⟩;refine aP (hi ac s2 σ H2 _ I2 q2) ?_;rintro iv s3 ⟨y,H3,I3,ry,a,H4,ex,g,q3⟩;refine ?_;subst ex;obtain rfl:u=Value.ref a:=rx;exact a17 hu I3 g ry rv fun s4 I4=>⟨σ,H4,I4,q3⟩
end
theorem a3q(h:Heap)(hb:sysModules<h.objs.size):cI P w H (h.push {cls:=.type "dict",data:=.dict #[]}) h.objs.size (.dK []):=
 ⟨Nat.zero_le _,beq_eq_false_iff_ne.mpr (Ne.symm (Nat.ne_of_lt hb)),[],.nil,Heap.DictOf.new h⟩
theorem a1y(h:Heap)(hb:sysModules<h.objs.size):cI P w H (h.push {cls:=.type "dict",data:=.dict #[]}) h.objs.size (.dT []):=
 ⟨Nat.zero_le _,beq_eq_false_iff_ne.mpr (Ne.symm (Nat.ne_of_lt hb)),[],.nil,_,#[],0,Heap.get?_push_size _ rfl,⟨rfl,rfl,rfl⟩,rfl,rfl,List.nodup_nil⟩
def a1Z:TE:=fun _ H Q=>∀p,H p=none->Q (.ref p) (upd H p (.dK []))
def a3i:TE:=fun _ H Q=>∀p,H p=none->Q (.ref p) (upd H p (.dT []))
section
theorem kE:PE X (.Dict [] [] pos) a1Z:=fun ac s σ H Q I h=>
 wpAny_Dict_empty ⟨.ref s.heap.objs.size,_,I.laid (a:=s.heap.objs.size) (o:=.dK []) (t':=s.toks) (fun _ _ q=>Heap.get?_push_of_some _ q) (Nat.le_refl _) (a3q s.heap I.big),rfl,h _ (I.hok.fresh (Nat.le_refl _))⟩
theorem vU:PE X (.Dict [] [] pos) a3i:=fun ac s σ H Q I h=>
 wpAny_Dict_empty ⟨.ref s.heap.objs.size,_,I.laid (a:=s.heap.objs.size) (o:=.dT []) (t':=s.toks) (fun _ _ q=>Heap.get?_push_of_some _ q) (Nat.le_refl _) (a1y s.heap I.big),rfl,h _ (I.hok.fresh (Nat.le_refl _))⟩
end
def wK:List (TE×TE)->St->Hp->(List (V×V)->Hp->Prop)->Prop
 | [],_,H,Q=>Q [] H
 |(tk,tv)::r,σ,H,Q=>tk σ H fun x H1=>tv σ H1 fun y H2=>wK r σ H2 fun ps H3=>Q ((x,y)::ps) H3
abbrev VV:List (V×V)->List (Value×Value)->Prop:=Paired fun p q=>aU p.1 q.1/\aU p.2 q.2
def PPs(X:Cx)(pos:Pos)(keys:List (Option Expr))(values:List Expr)(trs:List (TE×TE)):Prop:=
 ∀(ac:List (Addr×Obj)) (s:Shared) (σ:St) (H:Hp) (Q:List (V×V)->Hp->Prop),aC X ac σ H s->wK trs σ H Q->
  wpAny (model X.prog X.w) X.A (evalPairs (pairTrees keys values X.env pos)) (fun vs s'=>∃ps H',aC X ac σ H' s'/\VV ps vs/\Q ps H') X.xe s
structure M1(X:Cx)(o:Expr)(m:Str)(apos:Pos)(e:Expr)(cpos:Pos):Prop where
 base:attributeBase o m X.env (eval o X.env)=eval o X.env
 few:((backTo cpos (starEach [e] X.env)).all (fun x=> !x.1)&&(backToKw cpos (keywordEach [] X.env)).all (fun x=>x.1.isSome)
  &&decide (([e]:List Expr).length+ ([]:List Keyword).length+ (if([]:List Keyword).isEmpty then 0 else 1)<30))=true
 line:(apos.endLine==cpos.line)=true
 trees:backTo cpos (starEach [e] X.env)= [(false,eval e X.env)]
structure M2(X:Cx)(o:Expr)(m:Str)(apos:Pos)(e f:Expr)(cpos:Pos):Prop where
 base:attributeBase o m X.env (eval o X.env)=eval o X.env
 few:((backTo cpos (starEach [e,f] X.env)).all (fun x=> !x.1)&&(backToKw cpos (keywordEach [] X.env)).all (fun x=>x.1.isSome)
  &&decide (([e,f]:List Expr).length+ ([]:List Keyword).length+ (if([]:List Keyword).isEmpty then 0 else 1)<30))=true
 line:(apos.endLine==cpos.line)=true
 trees:backTo cpos (starEach [e,f] X.env)= [(false,eval e X.env),(false,eval f X.env)]
def yA(H:Hp)(a:Addr):Prop:=(∃kvs,Rd H a (.dK kvs))\/ ∃kvs,Rd H a (.dT kvs)
theorem vM{s:Shared}(I:aC X ac σ H s)(d:yA H a):
 s.TypeIs (.ref a) "dict" /\(∀b,Value.ref a= .ref b->∃ob,s.heap.get? b=some ob/\ob.dict=none)/\(a==sysModules)=false:=by
 rcases d with⟨kvs,e⟩|⟨kvs,e⟩
 ·obtain⟨_,hd,vs,_,dd⟩:=iB I.hok e
  refine⟨dd.typeIs,fun b q=> ?_,hd⟩;cases q;obtain⟨ob,_,_,h1,h2,_⟩:=dd;exact⟨ob,h1,h2.2.1⟩
 ·obtain⟨_,hd,xs,_,dd⟩:=lM I.hok e
  refine⟨dd.typeIs,fun b q=> ?_,hd⟩;cases q;obtain⟨ob,_,_,h1,h2,_⟩:=dd;exact⟨ob,h1,h2.2.1⟩
def a4g(td ty:TE):TE:=fun σ H Q=>td σ H fun x H1=>∃a,x= .ref a/\yA H1 a/\ty σ H1 fun y H2=>∃kvs k v,H2 a=some (.dK kvs)/\y=kV k/\aO kvs k=some v/\Q v (upd H2 a (.dK (cH kvs k)))
section
variable{o f:Expr}{cpos:Pos}{td ty tx:TE}
theorem a39(ho:PE X o td)(he:PE X e ty)(m:M1 X o "pop" apos e cpos):PE X (.Call (.Attribute o "pop" apos) [e] [] cpos) (a4g td ty):=by
 intro ac s σ H Q I h;refine wpAny_Call_method m.base m.few m.line F.plainAttrs_dict F.slot_dict_pop F.type_dict_pop (aP (ho ac s σ H _ I h) ?_);rintro u s1 ⟨x,H1,I1,rx,a,ex,d,q1⟩;refine ?_;subst ex;obtain rfl:u=Value.ref a:=rx;obtain⟨t1,t2,_⟩:=vM I1 d;refine⟨t1,t2,?_⟩;rw[m.trees];refine Calls.callWith_builtin rfl (Calls.evalArgs_plain (Calls.spliced_cons (aP (he ac s1 σ H1 _ I1 q1) ?_)));rintro iv s2 ⟨y,H2,I2,ry,kvs,k,v,ea,ey,l,q2⟩;refine Calls.spliced_nil ?_;subst ey;exact a4Z I2 ea ry l (.inl rfl) fun w' s3 I3 rw'=>⟨v,_,I3,rw',q2⟩
end
end L2
namespace Att
open PySem PySem.W PySem.Calls PyProof.Rows
theorem a2k{P:Params}:∀(ns:List Int) (vs:List Value),WellAll P h vs (ns.map WData.int)->IntsAre vs ns:=by
 intro ns
 induction ns with
 |nil=>
  intro vs w;rw[List.map_nil]at w;cases w;exact .nil
 |cons n ns ih=>
  intro vs w;rw[List.map_cons]at w
  cases w with
  |cons a b=>
   cases a;exact .cons _ _ (ih _ b)
theorem a5y{l:OpenLaw}(hn:l.most=some n){P:Params}{args:List WData}{vals:List Value}
 (hpre:l.row.toRowW.claim.pre args=true)(hwl:WellAll P h vals args):
 ∃a vs ns,vals= [Value.ref a] /\args= [WData.list (ns.map WData.int)] /\h.get? a=some {cls:=.type "list",data:=.seq vs.toArray} /\IntsAre vs ns/\ns.length<=n:=by
 have hsh:WShape.hasAll [] args [.list .int]=true:=(pre_splitW hpre).1;have hc:l.pre.holds [] {args:=args}=true:=(pre_splitW hpre).2;obtain⟨d,r,rfl,h1,h2⟩:=hasAllW_cons hsh;obtain rfl:=hasAllW_nil h2;obtain⟨xs,rfl,h3⟩:=hasW_list h1;obtain⟨ns,rfl⟩:=items_int h3
 have hlen:ns.length<=n:=by
  unfold OpenLaw.pre at hc
  have h4:(WTm.not (.lt (.lit (.int (n:Int))) (.len (.arg 0)))).holds [] {args:=[.list (ns.map .int)]}=true:=by
   have h4:=(holds_andW hc).1;rw[hn]at h4;exact h4
  have h5:=condW_of h4 (w_not (w_lt w_lit (w_len_list (w_arg rfl))));rw[List.length_map]at h5;refine Nat.le_of_not_lt fun q=> ?_
  have q':(n:Int)<((ns.length:Nat):Int):=by omega
  first
   |(rw[decide_eq_true q']at h5;exact absurd h5 (by decide))
   |(simp at h5;omega)
 cases hwl with
 |cons w1 w2=>
  cases w2
  cases w1 with
  |list ho hall=>exact⟨_,_,ns,rfl,rfl,ho,a2k ns _ hall,hlen⟩
theorem a20(l:OpenLaw)(args:List WData):l.row.toRowW.claim.post args (.bool true) args=true:=
 postW_of (r:=l.row.toRowW) (X:=(true==true))
  (show WShape.has [] (.bool true) .bool=true by first|rfl|decide|simp[WShape.has,WShape.arms,WShape.armsAll])
  (show(WTm.eq .res (.lit (.bool true))).value [] {args:=args,res:=some (.bool true),after:=args}=some (.bool (true==true)) from w_eq_bool (w_res rfl) w_lit) rfl
theorem attach_call{l:OpenLaw}{q:Program}{loose:List Str}{XP:(Str->Option Value)->Heap->Prop}{YP:World->Heap->Prop}{d:DefRec}
 (hn:l.most=some n)(hdf:d.params.defaults= [])
 (call:∀(w:World) (s₀ s₁:Shared) (mg mb:Str->Option Value) (fa:Addr) (o:Obj) (pm cd doc:Value) (a:Addr) (vs:List Value) (ns:List Int),
  Ground q loose [] XP w s₀ mg mb s₁.heap->YP w s₁.heap->
  s₁.heap.get? fa=some o->o.data= .func (docDef d.name d.params d.body d.scope pm cd doc)->s₁.heap.CodeRec cd d.name->mg d.name=some (.ref fa)->
  s₁.heap.get? a=some {cls:=.type "list",data:=.seq vs.toArray} ->IntsAre vs ns->ns.length<=n->s₁.gens= #[] ->
  codeAny (model l.prog w) callerA (.call (.ref fa) ⟨[.ref a],[]⟩) (fun r s'=>r= .ok (.ret (.bool true))/\OldK s₁.heap s'.heap/\s'.os=s₁.os/\AllBare s'.gens) s₁):
 WalkO q loose XP YP l.row.toRowW d [] (fun f vs=>PySem.call f vs):=by
 intro w s₀ s₁ mg mb G Y fa o pm cd doc dV kV ho hd hcd hD hmg hg args vals as hpre hlay hrd hwl hlo;obtain rfl:dV= .none:=Dflts.none hD hdf;obtain rfl:kV= .none:=Dflts.noKw hD;obtain⟨a,vs,ns,rfl,rfl,hobj,hints,hlen⟩:=a5y hn hpre hwl;refine enter_call (codeAny_mono (call w s₀ s₁ mg mb fa o pm cd doc a vs ns G Y ho (fd_plain hd) hcd hmg hobj hints hlen hg) fun r s' hq=> ?_);obtain⟨rfl,h2,h3,h4⟩:=hq;exact⟨.inl ⟨.bool true,.bool true,[],rfl,fun _=>rfl,.bool true,a20 l _,fun _=>⟨List.Pairwise.nil,fun _ hm=>(nomatch hm)⟩⟩,h2,h3,h4⟩
section
variable{s:Shared}{K:Frag}
noncomputable def ledger(h:Heap)(L d:Addr):List (Addr×Obj):=(List.range h.objs.size).filterMap fun a=>if a=L\/ a=d then none else(h.get? a).map fun o=>(a,o)
end
end Att
namespace L2
open PySem PySem.Spec PyProof.Rows
theorem xT:∀{vs:List Value} {ns:List Int},IntsAre vs ns->aS (ns.map V.int) vs
 |_,_,.nil=> .nil
 |_,_,.cons n t h=> .cons ⟨t,rfl⟩ (xT h)
def rL(H:Hp):Prop:=∀b,H b=none\/ ∃o xs,H b=some (.frz o (.lst xs))
theorem a1t{mb:Str->Option Value}{k:Nat}{fa:Addr}{fd:FuncData}{s₁:Shared}{vs:List Value}{ns:List Int}
 (KX:K.In s₁.heap)(hns:s₁.heap.Ns mainGlobals mg)(hb:s₁.heap.Ns builtinsNs mb)(hbb:∀x:Str,x≠ "__name__" ->mb x=bootBuiltins x)(hlim:s₁.heap.NoLimit)(hg:s₁.gens= #[])
 (ha:s₁.heap.get? a=some {cls:=.type "list",data:=.seq vs.toArray})(hi:IntsAre vs ns)(hl:ns.length<=sizeLine)(hr:cD k callerA)
 (F:∀ae:Heap,K.In ae->ae.Ns mainGlobals mg->eY P w K mg ae CX k fa fd [x] sp)(hbind:∀(s:Shared) (u:Value),BindsTo s fd ⟨[u],[]⟩ [(x,u)])
 (hsp:∀H:Hp,rL H->aN K H a (ns.map V.int)->sp [.ref a] H (fun v _=>v= .bl true) fun _ _ _=>False)
 (hCX:∀H e s',CX [] H s₁ (fun _ _ _=>False) e s'->False):
 codeAny (model P w) callerA (.call (.ref fa) ⟨[.ref a],[]⟩) (fun r s'=>r= .ok (.ret (.bool true))/\OldK s₁.heap s'.heap/\s'.os=s₁.os/\AllBare s'.gens) s₁:=by
 have rv:=xT hi;have lenV:=hi.length;have core:∀H:Hp,rL H->aN K H a (ns.map V.int)->cO P w H s₁.heap->(∀b,H b≠none->b=a)->(H a≠none->K.lookup a=none)->
  codeAny (model P w) callerA (.call (.ref fa) ⟨[.ref a],[]⟩) (fun r s'=>r= .ok (.ret (.bool true))/\OldK s₁.heap s'.heap/\s'.os=s₁.os/\AllBare s'.gens) s₁:=by
  intro H hO hS hok hA hK;have base_of:∀{b:Addr} {o:Obj},s₁.heap.get? b=some o->H b=none->(iK s₁.heap H).get? b=some o:=fun e n=>a47 e n
  have noA:∀{b:Addr} {o:Obj} {es:Array DictEntry} {ep:Nat},s₁.heap.get? b=some o->o.data= .dict es ep->H b=none:=fun{b o es ep} e d=>by
   cases q:H b with
   |none=>rfl
   |some u=>
    have e':b=a:=hA b (by rw[q];simp);subst e';rw[ha]at e;cases e;have d':Data.seq vs.toArray _=Data.dict es ep:=d;cases d'
  have nsK:∀{b:Addr} {m:Str->Option Value},s₁.heap.Ns b m->(iK s₁.heap H).Ns b m:=fun{b m} ⟨o,es,ep,e,d,r⟩=>⟨o,es,ep,base_of e (noA e d),d,r⟩
  have hKb:K.In (iK s₁.heap H):=fun b o e=>base_of (KX b o e) (by
   cases q:H b with
   |none=>rfl
   |some u=>
    have e':b=a:=hA b (by rw[q];simp);subst e'
    rw[hK (by rw[q];simp)]at e;cases e)
  have hM:Mod K mg (iK s₁.heap H):=⟨hKb,nsK hns,⟨mb,nsK hb,hbb⟩,let ⟨mc,h1,h2⟩:=hlim;⟨mc,nsK h1,h2⟩⟩;have e0:iT P w K mg (iK s₁.heap H) callerA [] s₁ H:=⟨rfl,hM,fun b o e=>a4M e,Nat.le_of_eq (a16 _ _),trivial,fun b hb=>absurd (show b∈([]:List Addr) from hb) (by simp),hok,.of_eq hg⟩;refine codeAny_mono ((F _ hKb (nsK hns)).run callerA [] s₁ H ⟨[.ref a],[]⟩ [.ref a] [.ref a] _ _ hr e0 (hbind s₁ (.ref a)) (.cons rfl .nil) (hsp H hO hS)) fun r s' h=> ?_
  cases r with
  |error e=>exact(hCX H e s' h).elim
  |ok fl=>
   cases fl with
   |next=>exact False.elim h
   |brk=>exact False.elim h
   |cont=>exact False.elim h
   |ret u=>
    obtain⟨v,H',os,bare,un,hok',r',q⟩:=h;have q':v= .bl true:=q;subst q';obtain rfl:u=Value.bool true:=r';refine⟨rfl,OldK.of_keep fun b o e=> ?_,os,bare⟩
    cases q:H b with
    |none=>exact un.keep b o e q (by intro z;exact absurd (show b∈([]:List Addr) from z) (by simp)) (by simp)
    |some u=>
     rcases hO b with z|⟨ob,xs,z⟩
     ·rw[q]at z;cases z
     ·have z2:=un.frzs b ob _ z
      obtain⟨e1,_⟩:=hok b _ z;obtain⟨e2,_⟩:=hok' b _ z2;rw[e]at e1;cases e1;exact e2
 cases hk:K.lookup a with
 |some o=>
  have e:=KX a o hk;rw[ha]at e;cases e;refine core (fun _=>none) (fun _=> .inl rfl) (.inr ⟨_,vs.toArray,_,hk,rfl,rfl,rfl,by rw[List.size_toArray,lenV];exact hl,by simpa using rv⟩) (fun b u z=>by have z':(none:Option HO)=some u:=z;cases z') (fun b z=>absurd rfl z) fun z=>absurd rfl z
 |none=>
  refine core (fun b=>if b=a then some (.frz {cls:=.type "list",data:=.seq vs.toArray} (.lst (ns.map V.int))) else none) (fun b=> ?_) (.inl (.inr ⟨{cls:=.type "list",data:=.seq vs.toArray},if_pos rfl⟩)) (fun b u z=> ?_) (fun b z=> ?_) fun _=>hk
  ·by_cases hb:b=a
   ·exact .inr ⟨_,_,if_pos hb⟩
   ·exact .inl (if_neg hb)
  ·by_cases hb:b=a
   ·have z':=(if_pos hb).symm.trans z
    cases z';subst hb;exact⟨ha,by rw[List.length_map];exact hl,vs,_,rv,ha⟩
   ·have z':=(if_neg hb).symm.trans z
    cases z'
  ·by_cases hb:b=a
   ·exact hb
   ·exact absurd (if_neg hb) z
theorem a4C{l:W.OpenLaw}{k:Nat}{q:Program}{loose:List Str}{XP:(Str->Option Value)->Heap->Prop}{YP:World->Heap->Prop}{d:DefRec}{K:Params->Fg}{CX:World->eE}{sp:World->Sp}
 (hn:l.most=some n)(hn2:n<=sizeLine)(hdf:d.params.defaults= [])(hr:cD k callerA)
 (hY:∀(w:World) (h:Heap),YP w h->(K w.params).In h)
 (F:∀(w:World) (mg:Str->Option Value) (fa:Addr) (h:Heap),(K w.params).In h->h.Ns mainGlobals mg->mg d.name=some (.ref fa)->
  ∃fd:FuncData,(∀(s:Shared) (u:Value),BindsTo s fd ⟨[u],[]⟩ [(x,u)])/\
   ∀ae:Heap,(K w.params).In ae->ae.Ns mainGlobals mg->eY l.prog w (K w.params) mg ae (CX w) k fa fd [x] (sp w))
 (hsp:∀(w:World) (H:Hp) (a:Addr) (ns:List Int),ns.length<=n->rL H->aN (K w.params) H a (ns.map V.int)->sp w [.ref a] H (fun v _=>v= .bl true) fun _ _ _=>False)
 (hCX:∀(w:World) (H:Hp) (s:Shared) (e:Value) (s':Shared),CX w [] H s (fun _ _ _=>False) e s'->False):
 W.WalkO q loose XP YP l.row.toRowW d [] (fun f vs=>PySem.call f vs):=by
 refine Att.attach_call hn hdf fun w s₀ s₁ mg mb fa o pm cd doc a vs ns G Y ho hd hcd hmg hobj hints hlen hg=> ?_
 have KX:=hY w _ Y;obtain⟨fd,hb,hF⟩:=F w mg fa _ KX G.T.g hmg;exact a1t KX G.T.g G.T.b G.T.builtins G.T.nolimit hg hobj hints (Nat.le_trans hlen hn2) hr hF hb (fun H hO hS=>hsp w H a ns hlen hO hS) fun H e s'=>hCX w H s₁ e s'
def jI(s:Stmt):Arguments:=match s with
 | .FunctionDef _ a _ _ _ _ _ _ _ _=>a
 |_=>{posonlyargs:=[],args:=[],vararg:=none,kwonlyargs:=[],kw_defaults:=[],kwarg:=none,defaults:=[]}
def fK(s:Stmt):List Stmt:=match s with
 | .FunctionDef _ _ b _ _ _ _ _ _ _=>b
 |_=> []
def aR(s:Stmt):Scope:=match s with
 | .FunctionDef _ _ _ _ _ _ sc _ _ _=>sc
 |_=>{kind:=.function,names:=[],isGenerator:=false,isCoroutine:=false}
abbrev aD:eE:=fun _ _ _ _ _ _=>False
abbrev E0:XK:=fun _ _ _=>False
theorem aI:fR aD X E0:=fun _ _ _ _ _ _ _ h=>h.elim
structure iF(K:Fg)(x qual:Str)(st:Stmt)(f:Addr)(fd:FuncData):Prop where
 ex:∃(oc:Value) (od:Option Addr) (kV doc pm:Value) (an:Option Addr) (ag ct:Value) (osl:Array (Option Value)),
  fd=W.fnOf x qual (jI st) (fK st) (aR st) .none kV doc pm an ag ct/\K.lookup f=some ⟨oc,od,.func fd,osl⟩ /\W.codeIn K ag qual=true
 kp:W.keepIn K (.ref f)=true
section
variable{ae:Heap}
theorem iF.ok{fd:FuncData}{k:Nat}(F:iF K x qual st f fd)(S:aX N ps (aR st))(len:∀vs H Q E,sp vs H Q E->vs.length=ps.length)
 (hbody:∀(ag:Value) (A:Around) (af:List Env) (s:Shared) (H:Hp) (vs:List V) (Q:VK) (E:XK),cD k (A.deeper (envOfC qual (aR st) s.heap.objs.size f ag))->sp vs H Q E->
  ∃t,dP (eG aD P w K mg ae N qual (aR st) f ag A af s H E).nox (fK st) t/\t {nx:=fun _ H'=>Q .non H',rt:=Q} (hV N vs) H):eY P w K mg ae aD (k+ 1) f fd ps sp:=by
 obtain⟨oc,od,kV,doc,pm,an,ag,ct,osl,rfl,lk,hcd⟩:=F.ex;refine a4P lk hcd S len fun A af s H vs Q E hr hsp=> ?_
 obtain⟨t,h,q⟩:=hbody ag A af s H vs Q E hr hsp;exact⟨t,h.nox,q⟩
theorem iF.binds{fd:FuncData}(F:iF K x qual st f fd)
 (h:∀(kV doc pm:Value) (an:Option Addr) (ag ct:Value) (us:List Value),us.length=ps.length->bindArgs (W.fnOf x qual (jI st) (fK st) (aR st) .none kV doc pm an ag ct) ⟨us,[]⟩=pure (ps.zip us)):fY K fd ps []:=by
 obtain⟨oc,od,kV,doc,pm,an,ag,ct,osl,rfl,lk,hcd⟩:=F.ex;exact .all (h kV doc pm an ag ct)
theorem vR{osl:Array (Option Value)}{kV:Value}(l:K.lookup f=some ⟨oc,od,.func (W.fnOf x qual (jI st) (fK st) (aR st) .none kV doc pm an ag ct),osl⟩)
 (c:W.codeIn K ag qual=true)(k:W.keepIn K (.ref f)=true):iF K x qual st f (W.fnOf x qual (jI st) (fK st) (aR st) .none kV doc pm an ag ct):=⟨⟨oc,od,kV,doc,pm,an,ag,ct,osl,rfl,l,c⟩,k⟩
end
theorem cR{k:Nat}(hr:cD k A):A.units+ 1<cLine:=Nat.lt_of_le_of_lt (Nat.add_le_add_left (by decide:1<=64) _) hr.units
theorem dQ(h:n<=1000):n<sizeLine:=Nat.lt_of_le_of_lt h (by decide)
section
theorem pv(i:Nat)(hN:X.N[i]?=some x:=by rfl)(hv:uH X.env.scope x:=by first|exact Or.inl rfl|exact Or.inr (Or.inl rfl)|exact Or.inr (Or.inr rfl))(hd:(x==("__debug__":Str))=false:=by decide)
 (hcd:(x==("__classdict__":Str))=false:=by decide):PE X (.Name x pos) (eV i):=a34 hN hv hd hcd
theorem qF:fJ X (.builtin "len") (fun xs H Q=>∃a kvs,xs= [V.ref a] /\H a=some (.dK kvs)/\Q (.int kvs.length) H):=by
 intro ac s σ H xs us Q I r h;obtain⟨a,kvs,rfl,ha,q⟩:=h;obtain⟨u,rfl,ru⟩:=jQ r;cases ru;exact a0O I (.inl ha) fun t s' I'=>⟨.int kvs.length,H,I',⟨t,rfl⟩,q⟩
end
theorem bB{A B:Prop}(h:B):if false=true then A else B:=by
 rw[if_neg Bool.false_ne_true];exact h
theorem cZ{A B:Prop}(h:A):if true=true then A else B:=by
 rw[if_pos rfl];exact h
theorem dX{c A B:Prop} [Decidable c](h1:c->A)(h2:¬c->B):if c then A else B:=by
 by_cases h:c
 ·rw[if_pos h]
  exact h1 h
 ·rw[if_neg h]
  exact h2 h
theorem a4A{c A B:Prop} [Decidable c](hc:c)(h:B):if (!decide c)=true then A else B:=by
 rw[decide_eq_true hc];exact bB h
def aJ(H H':Hp):Prop:=∀b o,H b=some o->H' b=some o
theorem aJ.refl(H:Hp):aJ H H:=fun _ _ h=>h
theorem aJ.trans(a:aJ H H1)(b:aJ H1 H2):aJ H H2:=fun c o h=>b c o (a c o h)
theorem aJ.seq(e:aJ H H')(h:aN K H a xs):aN K H' a xs:=by
 rcases h with(h|⟨o,h⟩)|h
 ·exact .inl (.inl (e _ _ h))
 ·exact .inl (.inr ⟨o,e _ _ h⟩)
 ·exact .inr h
section
variable{κ:Type} [DecidableEq κ]
theorem tP{kvs:List (κ×V)}{k:κ}(h:aO kvs k=none):¬k∈kvs.map (·.1):=by
 intro m;obtain⟨p,hp,e⟩:=List.mem_map.mp m;have q:(kvs.any fun kv=>decide (kv.1=k))=true:=List.any_eq_true.mpr ⟨p,hp,decide_eq_true e⟩;rw[kI,h]at q;exact absurd q (by simp)
theorem xO:∀{l:List κ} {k:κ},l.Nodup->¬k∈l->(l++ [k]).Nodup
 | [],k,_,_=>by simp
 |a::r,k,h,hk=>by
  obtain⟨h1,h2⟩:=List.nodup_cons.mp h;show(a::(r++ [k])).Nodup;refine List.nodup_cons.mpr ⟨fun m=> ?_,xO h2 fun m=>hk (List.mem_cons.mpr (Or.inr m))⟩
  rcases List.mem_append.mp m with q|q
  ·exact h1 q
  ·exact hk (List.mem_cons.mpr (Or.inl (List.mem_singleton.mp q).symm))
theorem a1q{kvs:List (κ×V)}{k:κ}(v:V)(hn:(kvs.map (·.1)).Nodup)(h:aO kvs k=none):((bH kvs k v).map (·.1)).Nodup:=by
 rw[jA v h,List.map_append];exact xO hn (tP h)
theorem rE{p:κ×V}{r:List (κ×V)}{k:κ}(e:p.1=k):cH (p::r) k=cH r k:=by
 unfold cH;rw[List.filter_cons,if_neg (by simp[e])]
theorem pX{p:κ×V}{r:List (κ×V)}{k:κ}(e:¬p.1=k):cH (p::r) k=p::cH r k:=by
 unfold cH;rw[List.filter_cons,if_pos (by simp[e])]
theorem vJ:∀{kvs:List (κ×V)} {k:κ},¬k∈kvs.map (·.1)->cH kvs k=kvs
 | [],_,_=>rfl
 |p::r,k,h=>by
  have h':¬k∈r.map (·.1):=fun m=>by
   obtain⟨q,hq,e⟩:=List.mem_map.mp m;exact h (List.mem_map.mpr ⟨q,List.mem_cons.mpr (Or.inr hq),e⟩)
  rw[pX fun e=>h (List.mem_map.mpr ⟨p,List.mem_cons.mpr (Or.inl rfl),e⟩),vJ h']
theorem oX:∀{kvs:List (κ×V)} {k:κ},(kvs.map (·.1)).Nodup->k∈kvs.map (·.1)->(cH kvs k).length+ 1=kvs.length
 | [],_,_,m=>by simp at m
 |p::r,k,h,m=>by
  have h:(p.1::r.map (·.1)).Nodup:=h;have m:k=p.1\/ k∈r.map (·.1):=List.mem_cons.mp m;obtain⟨h1,h2⟩:=List.nodup_cons.mp h;by_cases e:p.1=k
  ·subst e
   rw[rE rfl,vJ h1]
   all_goals rfl
  ·have m':k∈r.map (·.1):=m.resolve_left fun z=>e z.symm
   have q:=oX h2 m';rw[pX e,List.length_cons,List.length_cons];omega
end
section
variable{a b c:Expr}{tb:TE}
theorem a5g:cM X (compareOp .IsNot) (fun x y H Q=>∃i j,x= .bl i/\y= .bl j/\Q (.bl (i !=j)) H):=by
 intro ac s σ H x y v u Q I rx ry h;obtain⟨i,j,rfl,rfl,q⟩:=h;cases rx;cases ry;exact isnot_bool ⟨.bl (i !=j),H,I,rfl,q⟩
theorem jV{i:Int}(h:∃t,X.mg x=some (.int i t))(hg:Gl X x:=by rfl)(hd:(x==("__debug__":Str))=false:=by decide):PE X (.Name x pos) (tC (.int i)):=by
 obtain⟨t,h⟩:=h;exact a0J hg h ⟨t,rfl⟩ hd
theorem a4F(h:∃t,X.mg x=some (.str z t))(hg:Gl X x:=by rfl)(hd:(x==("__debug__":Str))=false:=by decide):PE X (.Name x pos) (tC (.str z)):=by
 obtain⟨t,h⟩:=h;exact a0J hg h ⟨t,rfl⟩ hd
theorem fT{T:String}(hm:X.mg x=none)(hv:bootBuiltins x=some (.type T))(hg:Gl X x:=by rfl)(hn:x≠ "__name__":=by decide)(hd:(x==("__debug__":Str))=false:=by decide):PE X (.Name x pos) (tC (.ty T)):=a22 hg hm hv rfl hn hd
end
mutual
inductive Dt(K:Fg)(H:Hp):V->PyData->Prop where
 |non:Dt K H .non .none
 |bl (b:Bool):Dt K H (.bl b) (.bool b)
 |int (i:Int):Dt K H (.int i) (.int i)
 |str (x:Str):Dt K H (.str x) (.str x)
 |lst {a:Addr} {xs:List V} {ds:List PyData}:aN K H a xs->cY K H xs ds->Dt K H (.ref a) (.list ds)
 |tup {a:Addr} {xs:List V} {ds:List PyData}:dG K H a xs->cY K H xs ds->Dt K H (.ref a) (.tuple ds)
 |dK {a:Addr} {kvs:List (aB×V)}:H a=some (.dK kvs)->Dt K H (.ref a) (.dict [])
 |dT {a:Addr} {kvs:List (List aB×V)}:H a=some (.dT kvs)->Dt K H (.ref a) (.dict [])
inductive cY(K:Fg)(H:Hp):List V->List PyData->Prop where
 |nil:cY K H [] []
 |cons {v:V} {d:PyData} {vs:List V} {ds:List PyData}:Dt K H v d->cY K H vs ds->cY K H (v::vs) (d::ds)
end
section
variable{s:Shared}
mutual
theorem Dt.reads(I:aC X ac σ H s){v:V}{d:PyData}{u:Value}(h:Dt X.K H v d)(r:aU v u)(l:d.canLay0=true):∃as,Reads s.heap u d as:=by
 cases h with
 |non=>cases r;exact⟨_,.none⟩
 |bl b=>cases r;exact⟨_,.bool b⟩
 |int i=>obtain⟨t,rfl⟩:=r;exact⟨_,.int i t⟩
 |str x=>obtain⟨t,rfl⟩:=r;exact⟨_,.str x t⟩
 |lst h hd=>
  cases r;obtain⟨its,rv,⟨o,n,e,hc,_,hs⟩,_⟩:=I.list h;obtain⟨as,ra⟩:=cY.reads I hd rv (by rw[PyData.canLay0]at l;exact l);exact⟨_,.list e hc hs (by simpa using ra)⟩
 |tup h hd=>
  cases r;obtain⟨its,rv,⟨o,e,hc,n,hs⟩,_⟩:=I.tuple h;obtain⟨as,ra⟩:=cY.reads I hd rv (by rw[PyData.canLay0]at l;exact l);exact⟨_,.tuple e hc hs (by simpa using ra)⟩
 |dK _=>rw[PyData.canLay0]at l;cases l
 |dT _=>rw[PyData.canLay0]at l;cases l
theorem cY.reads(I:aC X ac σ H s){vs:List V}{ds:List PyData}{us:List Value}(h:cY X.K H vs ds)(r:aS vs us)(l:PyData.canLayAll0 ds=true):∃as,ReadsAll s.heap us ds as:=by
 cases h with
 |nil=>cases r;exact⟨_,.nil⟩
 |cons h hd=>
  rw[PyData.canLayAll0,Bool.and_eq_true]at l
  cases r with
  |cons r1 rr=>
   obtain⟨as,ra⟩:=Dt.reads I h r1 l.1;obtain⟨bs,rb⟩:=cY.reads I hd rr l.2;exact⟨_,.cons ra rb⟩
end
theorem aJ.seqT(e:aJ H H')(h:dG K H a xs):dG K H' a xs:=by
 rcases h with(h|⟨o,h⟩)|h
 ·exact .inl (.inl (e _ _ h))
 ·exact .inl (.inr ⟨o,e _ _ h⟩)
 ·exact .inr h
mutual
theorem Dt.same{K:Fg}(e:aJ H H'){v:V}{d:PyData}(h:Dt K H v d):Dt K H' v d:=by
 cases h with
 |non=>exact .non
 |bl b=>exact .bl b
 |int i=>exact .int i
 |str x=>exact .str x
 |lst h hd=>exact .lst (e.seq h) (cY.same e hd)
 |tup h hd=>exact .tup (aJ.seqT e h) (cY.same e hd)
 |dK h=>exact .dK (e _ _ h)
 |dT h=>exact .dT (e _ _ h)
theorem cY.same{K:Fg}(e:aJ H H'){vs:List V}{ds:List PyData}(h:cY K H vs ds):cY K H' vs ds:=by
 cases h with
 |nil=>exact .nil
 |cons h hd=>exact .cons (Dt.same e h) (cY.same e hd)
end
theorem cY.get{K:Fg}:∀{vs:List V} {ds:List PyData} {i:Nat} {v:V},cY K H vs ds->vs[i]?=some v->∃d,ds[i]?=some d/\Dt K H v d
 |_,_,_,_,.nil,e=>by simp at e
 |_,_,0,_,.cons h _,e=>by simp at e;subst e;exact⟨_,rfl,h⟩
 |_,_,i+ 1,v,.cons _ t,e=>by
  obtain⟨d,h1,h2⟩:=cY.get (i:=i) (v:=v) t (by simpa using e);exact⟨d,by simpa using h1,h2⟩
theorem cY.length{K:Fg}:∀{vs:List V} {ds:List PyData},cY K H vs ds->vs.length=ds.length
 |_,_,.nil=>rfl
 |_,_,.cons _ t=>by rw[List.length_cons,List.length_cons,cY.length t]
theorem tT(hu:X.A.units+ 64<cLine):cM X (compareOp .Eq) (fun x y H Q=>∃dx dy,Dt X.K H x dx/\Dt X.K H y dy/\dx.canLay0=true/\dy.canLay0=true/\dx.depth<=64/\Q (.bl (PyData.eqv dx dy)) H):=by
 intro ac s σ H x y v u Q I rx ry h;obtain⟨dx,dy,hx,hy,lx,ly,hd,q⟩:=h;obtain⟨as,ra⟩:=Dt.reads I hx rx lx;obtain⟨bs,rb⟩:=Dt.reads I hy ry ly;exact SeqAt.compareEq_reads ra rb lx ly (by have:=Nat.min_le_left dx.depth dy.depth;omega) ⟨.bl _,H,I,rfl,q⟩
theorem sE(hu:X.A.units+ 64<cLine):cM X (compareOp .NotEq) (fun x y H Q=>∃dx dy,Dt X.K H x dx/\Dt X.K H y dy/\dx.canLay0=true/\dy.canLay0=true/\dx.depth<=64/\Q (.bl (!PyData.eqv dx dy)) H):=by
 intro ac s σ H x y v u Q I rx ry h;obtain⟨dx,dy,hx,hy,lx,ly,hd,q⟩:=h;obtain⟨as,ra⟩:=Dt.reads I hx rx lx;obtain⟨bs,rb⟩:=Dt.reads I hy ry ly;exact SeqAt.compareNe_reads ra rb lx ly (by have:=Nat.min_le_left dx.depth dy.depth;omega) ⟨.bl _,H,I,rfl,q⟩
end
noncomputable def oY (x:Str):It:=⟨fun i _=>i<x.cps.size,fun i H v H'=>H'=H/\∃c,x.cps[i]?=some c/\v= .str ⟨#[c]⟩,fun i _=>x.cps.size<=i⟩
theorem a2b(it:Addr)(x:Str)(t:Tok):∀ty:String,(ty= "str_ascii_iterator"\/ ty= "str_iterator")->jZ P w K tg (oY x) [it] it (fun i h=>h.IsStrIter it ty x t i):=by
 intro ty hty;refine⟨by simp,?_,?_,?_,?_,?_⟩
 ·intro i h st b hb
  have e:b=it:=by simpa using hb
  subst e;obtain⟨o,e,c,d⟩:=st;exact⟨o,e,fun v z=>by rw[d]at z;cases z⟩
 ·intro i h h' st k
  obtain⟨o,e,c,d⟩:=st;exact⟨o,k it (by simp) o e,c,d⟩
 ·intro X hP hw hK hc i ac s σ H E I hf st hg
  subst hP hw hK;obtain⟨f0,f1,f2,f3,f4,f5⟩:=hf it (by simp);have hi:i<x.cps.size:=hg
  have hx:x.cps[i]?=some x.cps[i]:=by simp[hi]
  have fin:∀h',h'.IsStrIter it ty x t (i+ 1)->Heap.SameBut it s.heap h'->∃u,some (Value.str ⟨#[x.cps[i]]⟩ s.toks)=some u/\
   wpAny (model X.prog X.w) X.A (letOwnedTupleGo tg (.ref it) u) (fun _ s2=>∃y H',aC X ac σ H' s2/\aU y u/\(oY x).yld i H y H'/\s2.heap.IsStrIter it ty x t (i+ 1)/\∀b∈ [it],H' b=none) E {s with heap:=h',toks:=s.toks+ 1}:=by
   intro h' st' sb;have I1:aC X ac σ H {s with heap:=h',toks:=s.toks+ 1}:=I.turned (fun b o hb e=>(sb.2 b hb).trans e) f0 f1 f3 f4 f5;obtain⟨o,e,c,d⟩:=id st';refine⟨_,rfl,pN (s:={s with heap:=h',toks:=s.toks+ 1}) e c d ?_ ⟨.str ⟨#[x.cps[i]]⟩,H,I1,⟨_,rfl⟩,⟨rfl,_,hx,rfl⟩,st',fun b hb=>(hf b hb).1⟩⟩
   rcases hty with rfl|rfl<;>decide
  rcases hty with rfl|rfl
  ·exact wpAny_pyNext_ascii_item st hx fin
  ·exact wpAny_pyNext_wide_item st hx fin
 ·intro X hP hw hK hc i ac s σ H E I hf st hg
  subst hP hw hK;obtain⟨f0,f1,f2,f3,f4,f5⟩:=hf it (by simp);have hi:x.cps.size<=i:=hg
  have hx:x.cps[i]?=none:=by simp[hi]
  have fin:∀h',Heap.ExtBut it s.heap h'->(none:Option Value)=none/\aC X ac σ H {s with heap:=h'}:=fun h' eb=>⟨rfl,I.turned (t':=s.toks) (fun b o hb e=>eb b o hb e) f0 f1 f3 f4 f5⟩
  rcases hty with rfl|rfl
  ·exact wpAny_pyNext_ascii_end (I.ok.hd hc) st hx fin
  ·exact wpAny_pyNext_wide_end (I.ok.hd hc) st hx fin
 ·intro A i s Q E st h
  rcases hty with rfl|rfl
  ·exact wpAny_pyIter_striter_ascii st h
  ·exact wpAny_pyIter_striter_wide st h
section
def iStr(tl:TE):TI:=fun σ H R=>tl σ H fun v H1=>∃x,v= .str x/\R (oY x) H1
theorem a3R{l:Expr}(hl:PE X l tl):PI X tg l (iStr tl):=by
 intro ac s σ H R I h;refine aP (hl ac s σ H _ I h) ?_;rintro v s1 ⟨y,H1,I1,r1,q1⟩;refine ?_;obtain⟨x,e,q⟩:=q1;subst e;obtain⟨t,rfl⟩:=r1;have fin:∀ty:String,(ty= "str_ascii_iterator"\/ ty= "str_iterator")->rX X ac σ tg R (.ref s1.heap.objs.size) {s1 with heap:=s1.heap.push {cls:=.type ty,data:=.fields #[.str x t,.int 0 0]}}:=fun ty hty=>by
  refine⟨s1.heap.objs.size,[s1.heap.objs.size],_,_,H1,rfl,I1.kept (t':=s1.toks) fun b o e=>Heap.get?_push_of_some _ e,a2b _ x t ty hty,⟨_,Heap.get?_push_size _ rfl,rfl,rfl⟩,fun b hb=> ?_,q⟩
  have e:b=s1.heap.objs.size:=by simpa using hb
  subst e;exact I1.fpOk (Nat.le_refl _) (I1.hok.fresh (Nat.le_refl _))
 cases ha:x.cps.all (·<128)
 ·exact wpAny_pyIter_wide ha (fin _ (.inr rfl))
 ·exact wpAny_pyIter_ascii ha (fin _ (.inl rfl))
end
section
variable{R:Result->Shared->Prop}{s:Shared}
theorem a3M{elt target:Expr}{ifs:List Expr}{it acc:Value}{env:Env}(I:Nat->Shared->Prop)
 (turn:∀n s,I n s->wpAny (model prog w) A (pyNext it) (fun r s₁=>match r with
  |none=>R (.ok .next) s₁
  |some v=>wpAny (model prog w) A (letOwnedTupleGo target it v) (fun _ s₁'=>wpAny (model prog w) A (assign target env v) (fun _ s₂=>
   wpAny (model prog w) A (forIn ifs true fun c r=>if r=true then do let ok<- isTrue c env (eval c env);pure (ForInStep.yield ok) else pure (ForInStep.yield r)) (fun ok s₃=>
    if ok=true then wpAny (model prog w) A (eval elt env) (fun x s₄=>
     wpAny (model prog w) A (call (.builtin "list.append") [acc,x]) (fun _ s₅=>∃m,m<n/\I m s₅) (fun _ _=>False) s₄) (fun _ _=>False) s₃
    else∃m,m<n/\I m s₃) (fun _ _=>False) s₂) (fun _ _=>False) s₁') (fun _ _=>False) s₁) (fun _ _=>False) s)
 (n:Nat)(h:I n s):
 codeAny (model prog w) A (.compLoop (.ListComp elt [⟨target,iter,ifs,0⟩] ah pos) 0 it acc env) R s:=by
 refine codeAny_loop rfl I (fun n s hI=> ?_) n h;show wpAny _ A ((compTurn (.ListComp elt [⟨target,iter,ifs,0⟩] ah pos) 0 it acc env).onRaise (fun x=>do noteFrame x env;theTreesLotGoes x)) _ _ s;refine wpAny_noted ?_;rw[compTurn_list];refine wpAny_bind (wpAny_standAt (wpAny_bind (wpAny_mono (turn n s hI) (fun r s₁ h₁=> ?_) fun _ _ h'=>h'.elim)))
 cases r with
 |none=>exact wpAny_pure h₁
 |some v=>
  refine wpAny_bind (wpAny_mono h₁ (fun _ s₁' h₁'=> ?_) fun _ _ h'=>h'.elim);refine wpAny_bind (wpAny_mono h₁' (fun _ s₂ h₂=>wpAny_bind (wpAny_mono h₂ (fun ok s₃ h₃=> ?_) fun _ _ h'=>h'.elim)) fun _ _ h'=>h'.elim)
  cases ok with
  |false=>exact wpAny_pure ⟨rfl,h₃⟩
  |true=>
   exact wpAny_bind (wpAny_bind (wpAny_mono h₃ (fun x s₄ h₄=>wpAny_bind (wpAny_mono h₄ (fun _ s₅ h₅=>wpAny_pure (wpAny_pure ⟨rfl,h₅⟩)) fun _ _ h'=>h'.elim)) fun _ _ h'=>h'.elim))
end
noncomputable def fS (X:Cx) (ah:Scope) (cl:List (Str×Addr)) (C:Addr) (N':List Str) (fp:List Addr) (ac:List (Addr×Obj)) (s:Shared) (H:Hp):Cx where
 prog:=X.prog
 w:=X.w
 K:=X.K
 mg:=X.mg
 base:=X.base
 A:=X.A
 N:=N'
 s₀:=s
 H₀:=H
 env:=compEnvC ah cl C X.env
 outer:=X.stack
 stack:=X.stack
 ex:=fp
 calm:=X.calm
 fn:=fun _=>false
 pn:=X.pn++ ac
 xe:=fun _ _=>False
structure kD(X:Cx)(ah:Scope)(cl:List (Str×Addr))(cp:List (Nat×Str)):Prop where
 kind:ah.kind= .function
 nocell:∀y∈ah.names,y.2≠ .cell
 names:∀y∈ah.names,y.2= .local->ah.names.lookup y.1=some .local
 clos:closureFor ah X.env=pure cl
 sub:∀x c,cl.lookup x=some c->X.env.cells.lookup x=some c
 has:∀x,((relabel ah X.env).names.lookup x=some .cell\/ (relabel ah X.env).names.lookup x=some .free)->∃c,cl.lookup x=some c
 at':∀p∈cp,X.N[p.1]?=some p.2/\(X.env.scope.names.lookup p.2=some .cell\/ X.env.scope.names.lookup p.2=some .free)/\((relabel ah X.env).names.lookup p.2=some .cell\/ (relabel ah X.env).names.lookup p.2=some .free)
noncomputable def fI (cp:List (Nat×Str)) (σ:St):St:=cp.map fun p=>(σ[p.1]?).getD none
section
variable{s:Shared}{cl:List (Str×Addr)}
theorem a3U(xs:List Str)(I:aC X ac σ H s)(c:kD X ah cl cp)(hf:∀b∈fp,gS X ac H b)(hfo:∀b∈fp,b<s.heap.objs.size){ty:String}{tk:Nat}{m:Str->Option Value}(hm:h'.Ns s.heap.objs.size m)
 (sb:Heap.SameBut s.heap.objs.size (s.heap.push {cls:=.type ty,data:=.dict #[]}) h'):
 aC (fS X ah cl s.heap.objs.size (xs++ cp.map (·.2)) fp ac s H) [] (xs.map (fun _=>none)++ fI cp σ) H {s with heap:=h',toks:=tk}:=by
 have old:∀b o,s.heap.get? b=some o->h'.get? b=some o:=fun b o e=>(sb.2 b (Nat.ne_of_lt (Heap.lt_size e))).trans (Heap.get?_push_of_some _ e)
 have hC:H s.heap.objs.size=none:=I.hok.fresh (Nat.le_refl _)
 refine⟨⟨I.ok.mod,c.kind,I.ok.glob,I.ok.blt,Nat.le_refl _,fun y z k h1 h2=>I.ok.inj y z k (c.sub _ _ h1) (c.sub _ _ h2),c.has,fun y k z=>(Bool.noConfusion z),I.ok.hd,I.ok.frames,.inl rfl,fun b hb=> ?_,fun b o e=>I.bs b o e,Nat.le_trans I.ok.bsz I.sz,fun b o e hb=> ?_,fun b hb hz=> ?_,I.stack,I.stkFree⟩,
  rfl,I.bare,Un.kept old,⟨m,hm,fun i y v h1 h2 h3=> ?_⟩,fun y k e=> ?_,hC,fun y k e=>I.freeC y k (c.sub y k e),fun p hp=> ?_,I.hok.kept old,?_⟩
 ·obtain⟨f0,f1,f2,f3,f4,f5⟩:=hf b hb
  exact⟨Nat.ne_of_lt (hfo b hb),fun y k e=>f4 y k (c.sub y k e)⟩
 ·obtain⟨f0,f1,f2,f3,f4,f5⟩:=hf b hb
  rcases f3 with z|z
  ·exact I.ok.noex b o e z
  ·exact absurd (Nat.lt_of_lt_of_le (Heap.lt_size (I.ok.bs b o e).1) z) (Nat.lt_irrefl _)
 ·obtain⟨f0,f1,f2,f3,f4,f5⟩:=hf b hb
  rcases List.mem_cons.mp (I.stkSub b hz)with e|e
  ·exact f1 e
  ·exact f2 e
 ·have h1':(xs++ cp.map (·.2))[i]?=some y:=h1
  have h2':=h2;rw[List.getElem?_append,List.length_map]at h2';by_cases hi:i<xs.length
  ·rw[if_pos hi,List.getElem?_map,List.getElem?_eq_getElem hi]at h2'
   cases h2'
  ·rw[if_neg hi]at h2'
   rw[List.getElem?_append_right (Nat.le_of_not_lt hi)]at h1';unfold fI at h2';rw[List.getElem?_map]at h1' h2'
   cases e:cp[i- xs.length]? with
   |none=>rw[e]at h1';cases h1'
   |some p=>
    rw[e]at h1' h2';simp only[Option.map_some,Option.some.injEq]at h1' h2';obtain⟨k1,k2,k3⟩:=c.at' p (List.mem_of_getElem? e);subst h1'
    have h2'':σ[p.1]?=some (some v):=by
     cases q:σ[p.1]? with
     |none=>rw[q]at h2';cases h2'
     |some z=>rw[q]at h2';simpa using h2'
    obtain⟨m0,hn0,hl0⟩:=I.loc;obtain⟨u,r,l⟩:=hl0 p.1 p.2 v k1 h2'' (k2.elim (fun z=> .inr (.inl z)) fun z=> .inr (.inr z));refine⟨u,r,.inr ⟨k3,?_⟩⟩
    rcases l with⟨z,_⟩|⟨_,cc,e1,e2⟩
    ·have z':X.env.scope.names.lookup p.2=some .local:=z
     rcases k2 with k|k<;>(rw[z']at k;cases k)
    ·obtain⟨cc',e3⟩:=c.has p.2 k3
     have e4:=c.sub _ _ e3;rw[e1]at e4;cases e4;obtain⟨o,ho,hd⟩:=e2;exact⟨cc,e3,o,old _ _ ho,hd⟩
 ·obtain⟨v,o,ho,hd⟩:=I.cell y k (c.sub y k e)
  exact⟨v,o,old _ _ ho,hd⟩
 ·have hp':p∈X.pn++ ac:=by
   rcases List.mem_append.mp hp with z|z
   ·exact z
   ·cases z
  obtain⟨e,n,ne,nf,d⟩:=I.pin p hp';refine⟨old _ _ e,n,Nat.ne_of_lt (Heap.lt_size e),fun hz=> ?_,d⟩
  rcases List.mem_cons.mp (I.stkSub p.1 hz)with q|q
  ·exact ne q
  ·exact nf q
 ·show(xs.map (fun _=>none)++ fI cp σ).length=(xs++ cp.map (·.2)).length
  simp[fI]
theorem aC.uncomp{N':List Str}{σ':St}{h'':Heap}(I:aC X ac σ H s)(hC:C=s.heap.objs.size)(hf:∀b∈fp,gS X ac H b)(J:aC (fS X ah cl C N' fp ac s H) [] σ' H' s')(sb:Heap.SameBut C s'.heap h''):
 aC X ac σ H' {s' with heap:=h''}:=by
 have ne:∀b o,s.heap.get? b=some o->b≠C:=fun b o e=>by rw[hC];exact Nat.ne_of_lt (Heap.lt_size e)
 have B:Un (fC X.stack) fp H H' s.heap s'.heap:=J.base;refine I.call' (s':={s' with heap:=h''}) (ch:=fp) (show s'.os=s.os from J.os) ⟨fun b o e n hb hx=> ?_,fun b o e n hb hx=> ?_,B.free,fun b o e hx=> ?_,B.tups,B.frzs,B.tbls⟩ (fun b ob e=> ?_) J.bare fun b hb=> ?_
 ·exact(sb.2 b (ne b o e)).trans (B.keep b o e n hb hx)
 ·obtain⟨sl,q⟩:=B.slot b o e n hb hx
  exact⟨sl,(sb.2 b (ne b o e)).trans q⟩
 ·obtain⟨o',q⟩:=B.there b o e hx
  exact⟨o',(sb.2 b (ne b o e)).trans q⟩
 ·have hfree:H' C=none:=J.free
  refine(J.hok b ob e).stay (fun k w' hk q=>(sb.2 k ?_).trans q) (fun _ q=>q) fun _ _ q=>q
  rintro rfl
  rcases hk with rfl|hk
  ·rw[hfree]at e;cases e
  ·rw[hfree]at hk;cases hk
 ·obtain⟨f0,f1,f2,f3,f4,f5⟩:=hf b hb
  exact⟨f3,f1,f4,f5⟩
end
def mF(X:Cx)(ifs:List Expr)(t:TT):Prop:=
 ∀(ac:List (Addr×Obj)) (s:Shared) (σ:St) (H:Hp) (Q:Bool->Hp->Prop),aC X ac σ H s->t σ H Q->
  wpAny (model X.prog X.w) X.A (forIn ifs true fun c r=>if r=true then do let ok<- isTrue c X.env (eval c X.env);pure (ForInStep.yield ok) else pure (ForInStep.yield r)) (TP X ac σ Q) X.xe s
def lD:TT:=fun _ H Q=>Q true H
theorem lO:mF X [] lD:=fun _ _ _ H _ I h=>wpAny_tests_nil ⟨H,I,h⟩
def jP(cp:List (Nat×Str))(tt:TT)(te:TE)(σ:St)(J:It)(D:Addr)(Q:VK)(H1:Hp):Prop:=
 ∃W:Nat->Nat->Hp->Prop,(∃m,W 0 m (upd H1 D (.lst [])))/\∀i m H2,W i m H2->(J.stop i H2/\Q (.ref D) H2)\/
  (J.go i H2/\∃(N:VK) (N':Hp->Prop),(∀y H5,N y H5->∃ys m',H5 D=some (.lst ys)/\ys.length<sizeLine/\m'<m/\W (i+ 1) m' (upd H5 D (.lst (ys++ [y]))))/\(∀H4,N' H4->∃m',m'<m/\W (i+ 1) m' H4)/\
   ∀v H3,J.yld i H2 v H3->tt (some v::fI cp σ) H3 fun b H4=>if b=true then te (some v::fI cp σ) H4 N else N' H4)
def qY(S:St->Prop)(tg:TG)(tt:TT)(te:TE)(J:It)(D:Addr)(Q:VK)(H1:Hp):Prop:=
 ∃W:Nat->Nat->Hp->Prop,(∃m,W 0 m (upd H1 D (.lst [])))/\∀i m H2,W i m H2->(J.stop i H2/\Q (.ref D) H2)\/
  (J.go i H2/\∃(N:VK) (N':Hp->Prop),(∀y H5,N y H5->∃ys m',H5 D=some (.lst ys)/\ys.length<sizeLine/\m'<m/\W (i+ 1) m' (upd H5 D (.lst (ys++ [y]))))/\(∀H4,N' H4->∃m',m'<m/\W (i+ 1) m' H4)/\
   ∀v H3 σ,S σ->J.yld i H2 v H3->tg v σ H3 fun σ' H4=>S σ'/\tt σ' H4 fun k H5=>if k=true then te σ' H5 N else N' H5)
theorem jP.s{tt:TT}{J:It}{Q:VK}(q:jP cp tt te σ J D Q H1):qY (fun σ'=>∃o,σ'=o::fI cp σ) (mP 0) tt te J D Q H1:=by
 obtain⟨W,w0,turn⟩:=q;refine⟨W,w0,fun i m H2 w=>(turn i m H2 w).imp id fun h=> ?_⟩;obtain⟨go,N,N',a,b,step⟩:=h;refine⟨go,N,N',a,b,fun v H3 σ' h y=> ?_⟩;obtain⟨o,rfl⟩:=h;exact⟨⟨_,rfl⟩,step v H3 y⟩
def xY(cp:List (Nat×Str))(wi:TI)(tt:TT)(te:TE):TE:=fun σ H Q=>wi σ H fun J H1=>∀D,H1 D=none->jP cp tt te σ J D Q H1
section
variable{cl:List (Str×Addr)}{xs:List Str}{px:Pos}{tgt:Expr}{tg:TG}{elt:Expr}{ifs:List Expr}{wi:TI}{tt:TT}
theorem wG{s2:Shared}{tn:Nat->Heap->Prop}{J:It}{Q:VK}{R:Addr->Result->Shared->Prop}{E:Value->Shared->Prop}(c:kD X ah cl cp)(hcalm:X.calm=true)(hg:∀C fp ac s H,PG (fS X ah cl C (xs++ cp.map (·.2)) fp ac s H) tgt tg)
 (ht:∀C fp ac s H,mF (fS X ah cl C (xs++ cp.map (·.2)) fp ac s H) ifs tt)(he:∀C fp ac s H,PE (fS X ah cl C (xs++ cp.map (·.2)) fp ac s H) elt te)
 (I2:aC X ac σ H2 s2)(T:jZ X.prog X.w X.K tgt J fp it tn)(st2:tn 0 s2.heap)(f2:∀b∈fp,gS X ac H2 b){S:St->Prop}(hS:S (xs.map (fun _=>none)++ fI cp σ))(q:qY S tg tt te J s2.heap.objs.size Q H2)
 (hR:∀(C:Addr) (H':Hp) (s':Shared),(∃m,s'.heap.Ns C m)->X.s₀.heap.objs.size<=C->H' C=none->C≠X.env.locals->(∀x c,X.env.cells.lookup x=some c->c≠C)->(∀p∈X.pn++ ac,p.1≠C)->(∀h'',Heap.SameBut C s'.heap h''->aC X ac σ H' {s' with heap:=h''})->Q (.ref s2.heap.objs.size) H'->R C (.ok .next) s'):
 wpAny (model X.prog X.w) X.A (newList []) (fun acc s₃=>wpAny (model X.prog X.w) X.A (newFunctionEnv ah X.env.globals cl [] X.env.qual none .none (some X.env)) (fun cenv s₄=>
  acc= .ref s2.heap.objs.size/\codeAny (model X.prog X.w) X.A (.compStart (.ListComp elt [⟨tgt,iter,ifs,0⟩] ah pos) 0 (.ref it) acc {cenv with scope:=relabel ah X.env}) (R cenv.locals) s₄) E s₃) E s2:=by
 obtain⟨W,⟨m0,w0⟩,turn⟩:=q;refine wpAny_newObj_type ?_;have I3:aC X ac σ (upd H2 s2.heap.objs.size (.lst [])) {s2 with heap:=s2.heap.push {cls:=.type "list",dict:=none,data:=.seq ([]:List Value).toArray}}:=
  I2.lnew (t':=s2.toks) (ys:=[]) (its:=[]) .nil (Nat.zero_le _)
 have fpo:∀b∈fp,b<s2.heap.objs.size:=fun b hb=>by
  obtain⟨o,e,_⟩:=T.obj _ _ st2 b hb;exact Heap.lt_size e
 have f3:∀b∈fp,gS X ac (upd H2 s2.heap.objs.size (.lst [])) b:=fun b hb=>⟨by rw[aF (Nat.ne_of_lt (fpo b hb))];exact(f2 b hb).1,(f2 b hb).2⟩
 generalize hs3:({s2 with heap:=s2.heap.push {cls:=.type "list",dict:=none,data:=.seq ([]:List Value).toArray}}:Shared)=s3 at I3
 have e3:s3.heap=s2.heap.push {cls:=.type "list",dict:=none,data:=.seq ([]:List Value).toArray}:=by rw[<- hs3]
 have sz3:s2.heap.objs.size<s3.heap.objs.size:=by rw[e3,Heap.size_push];exact Nat.lt_succ_self _
 refine wpAny_newFunctionEnv c.nocell (by intro y hy;cases hy) (fun h₁ hns sb=> ?_) c.kind;have J3:=a3U xs (tk:=s3.toks+ ([]:List (Str×Value)).length) I3 c f3 (fun b hb=>Nat.lt_trans (fpo b hb) sz3) hns sb;refine⟨rfl,?_⟩;have st3:tn 0 h₁:=T.keep _ _ _ st2 fun b hb o e=>(sb.2 b (Nat.ne_of_lt (Nat.lt_trans (fpo b hb) sz3))).trans (Heap.get?_push_of_some _ (by rw[e3];exact Heap.get?_push_of_some _ e))
 generalize hX:fS X ah cl s3.heap.objs.size (xs++ cp.map (·.2)) fp ac s3 (upd H2 s2.heap.objs.size (.lst []))=X' at J3
 have eA:X'.A=X.A:=by rw[<- hX];rfl
 have eP:X'.prog=X.prog:=by rw[<- hX];rfl
 have ew:X'.w=X.w:=by rw[<- hX];rfl
 have eK:X'.K=X.K:=by rw[<- hX];rfl
 have ec:X'.calm=true:=by rw[<- hX];exact hcalm
 have ee:X'.env=compEnvC ah cl s3.heap.objs.size X.env:=by rw[<- hX];rfl
 have ex:X'.xe=fun _ _=>False:=by rw[<- hX];rfl
 have fpX:∀{H':Hp},(∀b∈fp,H' b=none)->∀b∈fp,gS X' [] H' b:=fun hn b hb=>by
  obtain⟨f0,f1,f2',f3',f4,f5⟩:=f3 b hb;subst hX;refine⟨hn b hb,Nat.ne_of_lt (Nat.lt_trans (fpo b hb) sz3),fun hz=> ?_,.inl hb,fun y k e=>f4 y k (c.sub y k e),fun p hp=> ?_⟩
  ·rcases List.mem_cons.mp (I3.stkSub b hz)with e|e
   ·exact f1 e
   ·exact f2' e
  ·rcases List.mem_append.mp hp with z|z
   ·exact f5 p z
   ·cases z
 have pT:=ht s3.heap.objs.size fp ac s3 (upd H2 s2.heap.objs.size (.lst []));have pE:=he s3.heap.objs.size fp ac s3 (upd H2 s2.heap.objs.size (.lst []));have pG:=hg s3.heap.objs.size fp ac s3 (upd H2 s2.heap.objs.size (.lst []));rw[hX]at pT pE pG
 have loop:codeAny (model X.prog X.w) X.A (.compLoop (.ListComp elt [⟨tgt,iter,ifs,0⟩] ah pos) 0 (.ref it) (.ref s2.heap.objs.size) (compEnvC ah cl s3.heap.objs.size X.env)) (R s3.heap.objs.size) {s3 with heap:=h₁,toks:=s3.toks+ ([]:List (Str×Value)).length}:=by
  refine a3M (fun n s'=>∃i σ' H',S σ'/\aC X' [] σ' H' s'/\tn i s'.heap/\(∀b∈fp,H' b=none)/\W i n H') ?_ m0 ⟨0,_,_,hS,J3,st3,fun b hb=>(f3 b hb).1,w0⟩;rintro n s5 ⟨i,σ5,H5,S5,J5,st5,fr5,w5⟩
  rcases turn i n H5 w5 with⟨stop,qn⟩|⟨go,N,N',hN,hN',step⟩
  ·have z:=T.done X' eP ew eK ec i [] s5 _ H5 (fun _ _=>False) J5 (fpX fr5) st5 stop
   rw[eA]at z;refine aP z ?_;rintro r s6 ⟨hr,J6⟩;refine ?_;subst hr;subst hX;obtain⟨m6,hn6,_⟩:=J6.loc;refine hR s3.heap.objs.size H5 s6 ⟨m6,hn6⟩ I3.sz J6.free (Nat.ne_of_gt I3.lt) (fun y k e z=> ?_) (fun p hp z=> ?_) (fun h'' sb'=>I3.uncomp rfl f3 J6 sb') qn
   ·obtain⟨v,w'⟩:=I3.cell y k e
    exact absurd w'.lt (by rw[z];exact Nat.lt_irrefl _)
   ·exact absurd (Heap.lt_size (I3.pin p hp).1) (by rw[z];exact Nat.lt_irrefl _)
  ·have z:=T.item X' eP ew eK ec i [] s5 _ H5 (fun _ _=>False) J5 (fpX fr5) st5 go
   rw[eA]at z;refine aP z ?_;rintro r s6 ⟨u,hr,h6⟩;refine ?_;subst hr;refine aP h6 ?_;rintro _ s7 ⟨v,H7,J7,r7,y7,st7,fr7⟩;refine ?_;have J7':=J7.pinned (fpX fr7) (T.obj _ _ st7);have z8:=pG _ s7 _ H7 v u _ J7' r7 (step v H7 _ S5 y7);rw[eA,eP,ew,ee,ex]at z8;refine aP z8 ?_;rintro _ s8 ⟨σ8,H8,J8,S8,q8⟩;refine ?_;have z9:=pT _ s8 _ H8 _ J8 q8;rw[eA,eP,ew,ee,ex]at z9;refine aP z9 ?_;rintro ok s9 ⟨H9,J9,q9⟩;refine ?_;have fin:∀{H':Hp} {s':Shared},aC X' ([] ++ mO fp s7.heap) σ8 H' s'->(∃m',m'<n/\W (i+ 1) m' H')->∃m,m<n/\∃i σ' H',S σ'/\aC X' [] σ' H' s'/\tn i s'.heap/\(∀b∈fp,H' b=none)/\W i m H':=fun{H' s'} K' ⟨m',hm,w'⟩=>by
    refine⟨m',hm,i+ 1,σ8,H',S8,K'.unpinned,T.keep _ _ _ st7 fun b hb ob e=>(K'.pin (b,ob) (List.mem_append_right _ (List.mem_append_right _ (pW hb e)))).1,fun b hb=> ?_,w'⟩;obtain⟨ob,e,d⟩:=T.obj _ _ st7 b hb;exact(K'.pin (b,ob) (List.mem_append_right _ (List.mem_append_right _ (pW hb e)))).2.1
   cases ok with
   |false=>
    rw[if_neg Bool.false_ne_true]at q9|-
    exact fin J9 (hN' _ q9)
   |true=>
    rw[if_pos rfl]at q9|-
    have z10:=pE _ s9 _ H9 _ J9 q9;rw[eA,eP,ew,ee,ex]at z10;refine aP z10 ?_;rintro u10 s10 ⟨y,H10,J10,r10,n10⟩;refine ?_;obtain⟨ys,m',hD,hz,hm,w'⟩:=hN y H10 n10;have z11:=kZ (X:=X') _ s10 _ H10 (.ref s2.heap.objs.size) [y] (.ref s2.heap.objs.size) [u10] (fun _ H'=>H'=upd H10 s2.heap.objs.size (.lst (ys++ [y]))) J10 rfl (.cons r10 .nil) ⟨_,ys,y,rfl,rfl,hD,hz,rfl⟩;rw[eA,eP,ew,ex]at z11;refine aP z11 ?_;rintro u11 s11 ⟨y',H11,J11,r11,e11⟩;refine ?_;subst e11;exact fin J11 ⟨m',hm,w'⟩
 exact codeAny_compStart_list loop (T.self _ 0 _ _ _ st3 loop)
theorem a3E{S:St->St->Prop}{Lp:St->It->VK->Hp->Prop}(c:kD X ah cl cp)(hcalm:X.calm=true)(hg:∀C fp ac s H,PG (fS X ah cl C (xs++ cp.map (·.2)) fp ac s H) tgt tg)(hi:PI X tgt iter wi)
 (ht:∀C fp ac s H,mF (fS X ah cl C (xs++ cp.map (·.2)) fp ac s H) ifs tt)(he:∀C fp ac s H,PE (fS X ah cl C (xs++ cp.map (·.2)) fp ac s H) elt te)
 (hS:∀σ,S σ (xs.map (fun _=>none)++ fI cp σ))(hL:∀σ J Q H1,Lp σ J Q H1->∀D,H1 D=none->qY (S σ) tg tt te J D Q H1)
 (hs:∀v,foldedSetIterable iter X.env v=pure v:=by intro _;rfl):PE X (.ListComp elt [⟨tgt,iter,ifs,0⟩] ah pos) (fun σ H Q=>wi σ H (fun J=>Lp σ J Q)):=by
 intro ac s σ H Q I h;rw[eval_ListComp];refine wpAny_comprehension_free (use:=none) (g:=⟨tgt,iter,ifs,0⟩) (gs:=[]) (cl:=cl) rfl hs c.clos c.kind c.names ?_;refine aP (hi ac s σ H _ I h) fun v s1 h1=>aP h1 fun itv s2 h2=> ?_
 obtain⟨it,fp,tn,J,H2,e,I2,T,st2,f2,q⟩:=h2;subst e;refine aP (wG (iter:=iter) (pos:=pos) (R:=fun C=>compPost (model X.prog X.w) X.A X.xe none (EP X ac σ Q) (.ref s2.heap.objs.size) C) c hcalm hg ht he I2 T st2 f2 (hS σ) (hL σ J Q H2 q _ (I2.hok.fresh (Nat.le_refl _))) ?_) fun acc s3 h3=>aP h3 fun cenv s4 h4=> ?_
 ·rintro C H' s' ⟨m,hn⟩ _ _ _ _ _ hI hq
  exact⟨m,hn,fun h'' sb=>⟨.ref s2.heap.objs.size,H',hI h'' sb,rfl,hq⟩⟩
 ·obtain⟨e,h4⟩:=h4
  subst e;exact h4
theorem a0k(hx:ah.names.lookup x=some .local)(hnd:(x::cp.map (·.2)).Nodup):∀C fp ac s H,PG (fS X ah cl C ([x] ++ cp.map (·.2)) fp ac s H) (.Name x px) (mP 0):=fun _ _ _ _ _=>dF hnd rfl (.inl (lookup_relabel_local hx)) (.inr (lookup_relabel_local hx))
theorem nA(c:kD X ah cl cp)(hcalm:X.calm=true)(hx:ah.names.lookup x=some .local)(hnd:(x::cp.map (·.2)).Nodup)(hi:PI X (.Name x px) iter wi)
 (ht:∀C fp ac s H,mF (fS X ah cl C (x::cp.map (·.2)) fp ac s H) ifs tt)(he:∀C fp ac s H,PE (fS X ah cl C (x::cp.map (·.2)) fp ac s H) elt te)
 (hs:∀v,foldedSetIterable iter X.env v=pure v:=by intro _;rfl):PE X (.ListComp elt [⟨.Name x px,iter,ifs,0⟩] ah pos) (xY cp wi tt te):=
 a3E c hcalm (a0k hx hnd) hi ht he (fun _=>⟨_,rfl⟩) (fun _ _ _ _ h D e=>(h D e).s) hs
end
section
variable{cl:List (Str×Addr)}{px:Pos}{elt:Expr}{ifs:List Expr}{wi:TI}{tt:TT}
theorem a3t{y:Str}{py:Pos}(hN:X.N.Nodup)(hi':X.N[i]?=some y)(hy:X.env.scope.names.lookup y=some .local)(c:kD X ah cl cp)(hcalm:X.calm=true)(hx:ah.names.lookup x=some .local)(hnd:(x::cp.map (·.2)).Nodup)(hi:PI X (.Name x px) iter wi)
 (ht:∀C fp ac s H,mF (fS X ah cl C (x::cp.map (·.2)) fp ac s H) ifs tt)(he:∀C fp ac s H,PE (fS X ah cl C (x::cp.map (·.2)) fp ac s H) elt te)
 (hsw:swapsWith (.ListComp elt [⟨.Name x px,iter,ifs,0⟩] ah pos) (some (.Name y py)) pos'.line X.env=pure true)
 (hs:∀v,foldedSetIterable iter X.env v=pure v:=by intro _;rfl):PS X (.Assign [.Name y py] (.ListComp elt [⟨.Name x px,iter,ifs,0⟩] ah pos) pos') (sP (xY cp wi tt te) (mP i)):=by
 intro ac s σ H D I h;rw[exec_Assign_Name_used _ _ _ _ hsw];refine wpAny_bind (wpAny_standAt (wpAny_bind (wpAny_bind ?_)));refine wpAny_comprehension_free (use:=some (assign (.Name y py) X.env)) (g:=⟨.Name x px,iter,ifs,0⟩) (gs:=[]) (cl:=cl) rfl hs c.clos c.kind c.names ?_;refine aP (hi ac s σ H _ I h) fun v s1 h1=>aP h1 fun itv s2 h2=> ?_
 obtain⟨it,fp,tn,J,H2,e,I2,T,st2,f2,q⟩:=h2;subst e;refine aP (wG (iter:=iter) (pos:=pos) (R:=fun C=>compPost (model X.prog X.w) X.A X.xe (some (assign (.Name y py) X.env)) (fun _ s'=>wpAny (model X.prog X.w) X.A (pure ()) (fun _ s'=>wpAny (model X.prog X.w) X.A (pure Flow.next) (SP X ac D) X.xe s') X.xe s') (.ref s2.heap.objs.size) C) c hcalm (a0k hx hnd) ht he I2 T st2 f2 ⟨_,rfl⟩ (q _ (I2.hok.fresh (Nat.le_refl _))).s ?_) fun acc s3 h3=>aP h3 fun cenv s4 h4=> ?_
 ·rintro C H' s' ⟨m,hn⟩ hC0 hCn hCL hCc hCp hI hq
  have I':aC X ac σ H' s':=hI s'.heap (Heap.SameBut.refl ..);refine wpAny_assign_Name (xU (v:=.ref s2.heap.objs.size) I' hN hi' (.inl hy) rfl (fun s'' I'' hb=> ?_) (.inr hy));obtain⟨a,sb,ha⟩:=hb
  have hne:C≠a:=by
   rcases ha with z|z
   ·rw[z];exact hCL
   ·exact fun e=>hCc y a z e.symm
  refine⟨m,hn.sameBut sb hne,fun h'' sb''=>wpAny_pure (wpAny_pure ⟨_,H',?_,hq⟩)⟩;exact I''.turned (t':=s''.toks) (fun b o hb e=>(sb''.2 b hb).trans e) hCn hCL (.inr hC0) hCc hCp
 ·obtain⟨e,h4⟩:=h4
  subst e;exact h4
end
theorem vZ:∀{bs:List Bool} {us:List Value},aS (bs.map V.bl) us->∀(i:Nat) (v:Value),us[i]?=some v->∃b:Bool,bs[i]?=some b/\v=Value.bool b
 | [],_,.nil,i,v,h=>by simp at h
 |b::bs,u::us,.cons r t,0,v,h=>by
  simp at h;subst h;cases r;exact⟨b,rfl,rfl⟩
 |b::bs,u::us,.cons r t,i+ 1,v,h=>by
  obtain⟨b',e1,e2⟩:=vZ t i v (by simpa using h);exact⟨b',by simpa using e1,e2⟩
section
theorem vD(hc:X.calm=true):fJ X (.builtin "all") (fun xs H Q=>∃(a:Addr) (bs:List Bool),xs= [.ref a] /\aN X.K H a (bs.map V.bl)/\Q (.bl (bs.all id)) H):=by
 intro ac s σ H xs us Q I r h;obtain⟨a,bs,rfl,hq,q⟩:=h;obtain⟨u,rfl,ru⟩:=r.one;cases ru;obtain⟨its,rv,pl,hz⟩:=I.list hq;have hl:s.heap.IsList a its.toArray:=pl.isList
 have hlt:a<s.heap.objs.size:=by obtain⟨_,e,_⟩:=hl;exact Heap.lt_size e
 refine call_all_walk (wpAny_pyIter_list hl ?_)
 refine⟨s.heap.objs.size,[s.heap.objs.size,a],[s.heap.objs.size],its.toArray.size,_,_,fun i=>(bs[i]?).getD true,rfl,Walks.list (A:=X.A.in1) (I.ok.hd hc) _ a (Nat.ne_of_lt hlt) its.toArray,
  ⟨⟨_,Heap.get?_push_size _ rfl,rfl,rfl⟩,hl.push _⟩,fun i v s' Q' E' hP hQ=> ?_,fun h' tk hk=> ?_⟩
 ·obtain⟨b,e,rfl⟩:=vZ rv i v (by simpa using hP)
  simp only[e,Option.getD_some]at hQ;exact wpAny_truthy_bool hQ
 ·have e:((List.range its.toArray.size).all fun i=>(bs[i]?).getD true)=bs.all id:=by
   have:=rv.length;rw[List.length_map]at this;rw[List.size_toArray,<- this];exact PyProof.Rows.LSm.range_all bs
  rw[e];refine⟨.bl _,H,I.kept (t':=tk) fun b o e'=>hk b o (fun hm=> ?_) (Heap.get?_push_of_some _ e'),rfl,q⟩;rw[List.mem_singleton.mp hm]at e';exact Nat.lt_irrefl _ (Heap.lt_size e')
end
structure bA(P:Program)(w:World)(K:Fg)(mg:Str->Option Value)(ae:Heap)(CX:eE)(k:Nat)(x:Str)(ps:List Str)(sp:Sp):Prop where
 ex:∃f fd,eY P w K mg ae CX k f fd ps sp/\mg x=some (.ref f)/\W.keepIn K (.ref f)=true/\fY K fd ps []
section
variable{k:Nat}{E:XK}{p:Pos}{t:TA}
theorem bJ(G:bA X.prog X.w X.K X.mg X.base CX k x ps sp)(hr:cD k X.A)(hx:fR CX X E)(ha:PA X (e::es) t)(hg:Gl X x:=by rfl)(hdb:(x==("__debug__":Str))=false:=by decide)
 (he:starEach (e::es) X.env=(false,eval e X.env)::starEach es X.env:=by rfl)(hpl:(backTo pos (starEach es X.env)).any (·.1)=false:=by rfl):PE X (.Call (.Name x p) (e::es) [] pos) (oC sp [] E t):=by
 obtain⟨f,fd,F,hm,hk,hb⟩:=G.ex;exact a3B F hr hg hm hk hb .nil hx ha hdb he hpl
end
def kR(D:Addr)(Pv:Nat->List V->Hp->Prop)(i:Nat)(ys:List V):VK:=fun y H5=>H5 D=some (.lst ys)/\ys.length<sizeLine/\Pv (i+ 1) (ys++ [y]) (upd H5 D (.lst (ys++ [y])))
theorem pY{J:It}{Q:VK}(Pv:Nat->List V->Hp->Prop)(h0:Pv 0 [] (upd H1 D (.lst [])))
 (hg:∀i ys H,H D=some (.lst ys)->Pv i ys H->(i<n->J.go i H)/\(i=n->J.stop i H))
 (hs:∀i ys H v H',i<n->H D=some (.lst ys)->Pv i ys H->J.yld i H v H'->te (some v::fI cp σ) H' (kR D Pv i ys))
 (hd:∀ys H,H D=some (.lst ys)->Pv n ys H->Q (.ref D) H):jP cp lD te σ J D Q H1:=by
 refine⟨fun i m H=>m=n- i/\i<=n/\∃ys,H D=some (.lst ys)/\Pv i ys H,⟨n,by simp,Nat.zero_le _,[],aK,h0⟩,?_⟩;rintro i m H ⟨rfl,hi,ys,hD,p⟩;by_cases hlt:i<n
 ·refine .inr ⟨(hg i ys H hD p).1 hlt,kR D Pv i ys,fun _=>False,fun y H5 ⟨h1,h2,h3⟩=>⟨ys,n- (i+ 1),h1,h2,by omega,rfl,hlt,_,aK,h3⟩,fun _ z=>z.elim,fun v H' y=> ?_⟩
  exact hs i ys H v H' hlt hD p y
 ·have e:i=n:=by omega
  subst e;exact .inl ⟨(hg i ys H hD p).2 rfl,hd ys H hD p⟩
theorem tW{lo:Int}{Q:VK}(Pv:Nat->List V->Hp->Prop)(h0:Pv 0 [] (upd H1 D (.lst [])))
 (hs:∀i ys H,i<n->H D=some (.lst ys)->Pv i ys H->te (some (.int (lo+ i))::fI cp σ) H (kR D Pv i ys))
 (hd:∀ys H,H D=some (.lst ys)->Pv n ys H->Q (.ref D) H):jP cp lD te σ (jL lo n) D Q H1:=
 pY (n:=n) Pv h0 (fun i ys H _ _=>⟨fun h=>h,fun h=>by subst h;exact Nat.le_refl _⟩) (fun i ys H v H' hi hD p y=>by
  obtain⟨e,rfl⟩:=y;subst e
  exact hs i ys _ hi hD p) hd
theorem a1R{Q:VK}(Pv:Nat->List V->Hp->Prop)(h0:Pv 0 [] (upd H1 D (.lst [])))
 (hs:∀i c ys H,x.cps[i]?=some c->H D=some (.lst ys)->Pv i ys H->te (some (.str ⟨#[c]⟩)::fI cp σ) H (kR D Pv i ys))
 (hd:∀ys H,H D=some (.lst ys)->Pv x.cps.size ys H->Q (.ref D) H):jP cp lD te σ (oY x) D Q H1:=
 pY (n:=x.cps.size) Pv h0 (fun i ys H _ _=>⟨fun h=>h,fun h=>by subst h;exact Nat.le_refl _⟩) (fun i ys H v H' hi hD p y=>by
  obtain⟨e,c,hc,rfl⟩:=y;subst e
  exact hs i c ys _ hc hD p) hd
theorem a41{Q:VK}(Pv:Nat->List V->Hp->Prop)(h0:Pv 0 [] (upd H1 D (.lst [])))
 (hl:∀i ys H,H D=some (.lst ys)->Pv i ys H->aN K H a xs)
 (hs:∀i x ys H,xs[i]?=some x->H D=some (.lst ys)->Pv i ys H->te (some x::fI cp σ) H (kR D Pv i ys))
 (hd:∀ys H,H D=some (.lst ys)->Pv xs.length ys H->Q (.ref D) H):jP cp lD te σ (lB K a) D Q H1:=
 pY (n:=xs.length) Pv h0 (fun i ys H hD p=>⟨fun h=>⟨xs,xs[i],hl i ys H hD p,by simp[h]⟩,fun h=>by subst h;exact⟨xs,hl _ ys H hD p,Nat.le_refl _⟩⟩) (fun i ys H v H' hi hD p y=>by
  obtain⟨e,y⟩:=y;subst e
  exact hs i v ys _ (y xs (hl i ys _ hD p)) hD p) hd
inductive Kd where
 |non|bl|int|str|lst|tup|dct
 deriving DecidableEq
def Kd.nm:Kd->String
 | .non=> "NoneType"| .bl=> "bool"| .int=> "int"| .str=> "str"| .lst=> "list"| .tup=> "tuple"| .dct=> "dict"
theorem zW(K:Fg)(a:Kd):W.kitOne K (.type a.nm) (.type "int")=some (decide (a= .int\/ a= .bl)):=by cases a<;>kernel_rfl
theorem xN(K:Fg)(a:Kd):W.kitOne K (.type a.nm) (.type "bool")=some (decide (a= .bl)):=by cases a<;>kernel_rfl
theorem zR(K:Fg)(a:Kd):W.kitOne K (.type a.nm) (.type "str")=some (decide (a= .str)):=by cases a<;>kernel_rfl
theorem nS(K:Fg)(a:Kd):W.kitOne K (.type a.nm) (.type "list")=some (decide (a= .lst)):=by cases a<;>kernel_rfl
theorem pC(K:Fg)(a:Kd):W.kitOne K (.type a.nm) (.type "tuple")=some (decide (a= .tup)):=by cases a<;>kernel_rfl
theorem a3e(K:Fg)(a:Kd):W.kitOne K (.type a.nm) (.type "dict")=some (decide (a= .dct)):=by cases a<;>kernel_rfl
noncomputable def fQ:PyData->Kd
 | .none=> .non| .bool _=> .bl| .int _=> .int| .str _=> .str| .list _=> .lst| .tuple _=> .tup| .dict _=> .dct
theorem gL:fJ X (.builtin "isinstance") (fun xs H Q=>∃x T d k,xs= [x,.ty T] /\Dt X.K H x d/\W.kitOne X.K (.type (fQ d).nm) (.type T)=some k/\Q (.bl k) H):=by
 intro ac s σ H xs us Q I r h;obtain⟨x,T,d,k,rfl,hd,e,q⟩:=h;obtain⟨u,c,rfl,r1,r2⟩:=r.two;cases r2;have fin:∀tk,EP X ac σ Q (.bool k) {s with toks:=tk}:=fun tk=>⟨.bl k,H,I.tok tk,rfl,q⟩
 cases hd with
 |non=>cases r1;exact W.kia_one W.kitx_none I.kIn True.intro e (fun z=>nomatch z) fin
 |bl b=>cases r1;exact W.kia_one W.kitx_bool I.kIn True.intro e (fun z=>nomatch z) fin
 |int i=>obtain⟨t,rfl⟩:=r1;exact W.kia_one W.kitx_int I.kIn True.intro e (fun z=>nomatch z) fin
 |str z=>obtain⟨t,rfl⟩:=r1;exact W.kia_one W.kitx_str I.kIn True.intro e (fun z=>nomatch z) fin
 |lst hq _=>
  cases r1;obtain⟨its,_,⟨o,n,eo,hc,_,_⟩,_⟩:=I.list hq;exact W.kia_one W.kitx_list I.kIn ⟨o,eo,hc⟩ e (fun z=>nomatch z) fin
 |tup hq _=>
  cases r1;obtain⟨its,_,⟨o,eo,hc,_⟩,_⟩:=I.tuple hq;exact W.kia_one W.kitx_tuple I.kIn ⟨o,eo,hc⟩ e (fun z=>nomatch z) fin
 |dK ea=>
  cases r1;obtain⟨_,_,vs,_,o,es,ep,h1,h2,_⟩:=I.hok _ _ ea;exact W.kia_one W.kitx_dict I.kIn ⟨o,h1,h2.1⟩ e (fun z=>nomatch z) fin
 |dT ea=>
  cases r1;obtain⟨_,_,zs,_,o,es,ep,h1,h2,_⟩:=I.hok _ _ ea;exact W.kia_one W.kitx_dict I.kIn ⟨o,h1,h2.1⟩ e (fun z=>nomatch z) fin
theorem a0c(kind:ah.kind= .function:=by rfl)(plain:∀y∈ah.names,y.2= .local\/ y.2= .globalImplicit:=by decide)(names:∀y∈ah.names,y.2= .local->ah.names.lookup y.1=some .local:=by decide+kernel):kD X ah [] [] where
 kind:=kind
 nocell:=fun y hy z=>by rcases plain y hy with h|h<;>rw[h]at z<;>cases z
 names:=names
 clos:=closureFor_none fun y hy z=>by rcases plain y hy with h|h<;>rw[h]at z<;>cases z
 sub:=fun x c e=>by cases e
 has:=fun x h=>by
  have hm:∀(k:NameKind),(relabel ah X.env).names.lookup x=some k->k= .local\/ k= .globalImplicit:=fun k e=>by
   have m:=PySem.mem_of_lookup e;unfold relabel at m;obtain⟨⟨n,k'⟩,hy,e'⟩:=List.mem_map.mp m;have q:=plain _ hy
   have nf:(k'==NameKind.free)=false:=by rcases q with h|h<;>(have h':k'=_:=h;subst h';rfl)
   simp only[nf,Bool.false_and,Bool.false_eq_true,if_false]at e';have:k'=k:=congrArg (·.2) e';rw[<- this];exact q
  rcases h with h|h
  ·rcases hm _ h with z|z<;>cases z
  ·rcases hm _ h with z|z<;>cases z
 at':=fun p hp=>by cases hp
structure dI(K:Fg)(mg:Str->Option Value)(x:Str)(st:Stmt):Prop where
 ex:∃f fd,iF K x x st f fd/\mg x=some (.ref f)
section
variable{ae:Heap}
theorem dW{osl:Array (Option Value)}{kV:Value}(X:K.In h)(G:h.Ns mainGlobals mg)(a:W.nsIn K mainGlobals x=some (some (.ref f)))
 (l:K.lookup f=some ⟨oc,od,.func (W.fnOf x x (jI st) (fK st) (aR st) .none kV doc pm an ag ct),osl⟩)(c:W.codeIn K ag x=true)(k:W.keepIn K (.ref f)=true):dI K mg x st:=
 ⟨f,_,vR l c k,W.mg_of X G a⟩
theorem dI.known{k:Nat}(D:dI K mg x st)(S:aX N ps (aR st))
 (hb:∀(kV doc pm:Value) (an:Option Addr) (ag ct:Value) (us:List Value),us.length=ps.length->bindArgs (W.fnOf x x (jI st) (fK st) (aR st) .none kV doc pm an ag ct) ⟨us,[]⟩=pure (ps.zip us))
 (len:∀vs H Q E,sp vs H Q E->vs.length=ps.length)
 (hbody:∀(f:Addr) (ag:Value) (A:Around) (af:List Env) (s:Shared) (H:Hp) (vs:List V) (Q:VK) (E:XK),cD k (A.deeper (envOfC x (aR st) s.heap.objs.size f ag))->sp vs H Q E->
  ∃t,dP (eG aD P w K mg ae N x (aR st) f ag A af s H E).nox (fK st) t/\t {nx:=fun _ H'=>Q .non H',rt:=Q} (hV N vs) H):bA P w K mg ae aD (k+ 1) x ps sp:=by
 obtain⟨f,fd,F,hm⟩:=D.ex;exact⟨f,fd,F.ok S len fun ag A af s H vs Q E hr h=>hbody f ag A af s H vs Q E hr h,hm,F.kp,F.binds hb⟩
end
theorem aJ.new(h:H D=none):aJ H (upd H D o):=fun b u e=>by rw[aF (bK e h)];exact e
theorem aJ.on(e:aJ H H2)(h:H D=none):aJ H (upd H2 D o):=fun b u z=>by rw[aF (bK z h)];exact e b u z
abbrev one(c:Nat):Str:=⟨#[c]⟩
theorem a2X{α:Type}(xs:List α)(i:Int)(h0:0<=i)(h:i<xs.length):∃v,bV xs i=some v/\xs[i.toNat]?=some v:=by
 have e:i=(i.toNat:Int):=by omega
 have hl:i.toNat<xs.length:=by omega
 generalize i.toNat=j at e hl;subst e;exact⟨_,sO (List.getElem?_eq_getElem hl),List.getElem?_eq_getElem hl⟩
theorem uQ{i:Int}(h0:0<=i)(h:i<n):gD n i=some i.toNat:=by
 unfold gD;rw[if_pos h0,if_pos h]
theorem xW(ns:List Int)(i:Int)(h0:0<=i)(h:i<ns.length):bV (ns.map V.int) i=some (V.int (ns.getD i.toNat 0)):=by
 have e:i=(i.toNat:Int):=by omega
 have hl:i.toNat<ns.length:=by omega
 generalize i.toNat=j at e hl;subst e;refine sO ?_;rw[List.getElem?_map,List.getElem?_eq_getElem hl];simp[List.getD,hl]
theorem a5r{cs:List Nat}(h:∀c∈cs,c<128):PyData.canLay0 (.str ⟨cs.toArray⟩)=true:=by
 have:∀c∈cs,c<1114112:=fun c hc=>by have:=h c hc;omega
 simp[PyData.canLay0,PyData.strOk];exact this
theorem sl(h:n<=1000:=by simp):n<=sizeLine:=Nat.le_of_lt (dQ h)
theorem vI:bootBuiltins "all"=some (.builtin "all"):=by kernel_rfl
theorem fL:bootBuiltins "isinstance"=some (.builtin "isinstance"):=by kernel_rfl
theorem a4O:bootBuiltins "abs"=some (.builtin "abs"):=by kernel_rfl
theorem dY:bootBuiltins "len"=some (.builtin "len"):=by kernel_rfl
theorem yE:bootBuiltins "int"=some (.type "int"):=by kernel_rfl
theorem zA:bootBuiltins "bool"=some (.type "bool"):=by kernel_rfl
theorem yX:bootBuiltins "str"=some (.type "str"):=by kernel_rfl
theorem gF:bootBuiltins "list"=some (.type "list"):=by kernel_rfl
theorem uG:bootBuiltins "tuple"=some (.type "tuple"):=by kernel_rfl
theorem rM:bootBuiltins "dict"=some (.type "dict"):=by kernel_rfl
structure Flew(fs own:List Addr)(h h':Heap):Prop where
 keep:∀b o,b∉own->b∉fs->h.get? b=some o->h'.get? b=some o
 slot:∀b o,b∉own->h.get? b=some o->∃sl,h'.get? b=some {o with slots:=sl}
structure ExcK(K:Fg)(C:Addr):Prop where
 hga:W.findIn K (.ref C) "__getattribute__"=some (some (.builtin "BaseException.__getattribute__"))
 hk:W.findIn K (.ref C) "__getattr__"=some none
 hc:∃cd,W.clsIn K C=some cd
 ha:W.findIn K (.ref C) "__class__"=some (some (.builtin "object.__class__"))
 hn:W.specialIn K (.builtin "object.__class__") "__get__"=some (some (.builtin "getset_descriptor.__get__"))
 ht:W.takesIn K (.builtin "object.__class__")=some true
 hm:W.mroIn K C (.type "object")=some true
 hb:W.mroIn K C (.type "BaseException")=some true
theorem qX:∀{xs:List V} {us:List Value},us.length=xs.length->(∀(j:Nat) (x:V) (u:Value),xs[j]?=some x->us[j]?=some u->aU x u)->aS xs us
 | [],[],_,_=> .nil
 |x::xs,u::us,hl,h=> .cons (h 0 x u rfl rfl) (qX (by simpa using hl) fun j y v e1 e2=>h (j+ 1) y v (by simpa using e1) (by simpa using e2))
 | [],_::_,hl,_=>by simp at hl
 |_::_,[],hl,_=>by simp at hl
noncomputable def fO (lo:Int) (n:Nat):List V:=(List.range n).map fun(i:Nat)=>V.int (lo+ (i:Int))
theorem mH(lo:Int)(n:Nat):(fO lo n).length=n:=by unfold fO;rw[List.length_map,List.length_range]
section
theorem a5o:fJ X (.type "range") (fun xs H Q=>∃j:Int,xs= [.int j] /\∀p,H p=none->Q (.ref p) (upd H p (.rng 0 j))):=by
 intro ac s σ H xs us Q I r h;obtain⟨j,rfl,q⟩:=h;obtain⟨u,rfl,t,rfl⟩:=jQ r;refine call_range_1 ⟨.ref s.heap.objs.size,_,I.laid (a:=s.heap.objs.size) (o:=.rng 0 j) (fun _ _ q=>Heap.get?_push_of_some _ q) (Nat.le_refl _) ?_,rfl,q _ (I.hok.fresh (Nat.le_refl _))⟩;exact⟨_,_,_,Heap.get?_push_size _ rfl⟩
theorem a5d(hc:X.calm=true):fJ X (.type "list") (fun xs H Q=>∃p lo hi,xs= [.ref p] /\H p=some (.rng lo hi)/\ -(2^ 62)<=lo/\lo<2^ 62/\ -(2^ 62)<=hi/\hi<2^ 62/\(hi- lo).toNat<=2^ 24/\∀l,H l=none->Q (.ref l) (upd H l (.lst (fO lo (hi- lo).toNat)))):=by
 intro ac s σ H xs us Q I r h;obtain⟨p,lo,hi,rfl,hp,h1,h2,h3,h4,h5,q⟩:=h;obtain⟨u,rfl,rx⟩:=jQ r;cases rx;obtain⟨t,u,v,e⟩:=I.hok p _ hp
 have hn:Builtin.Range.rangeSize lo hi 1=((hi- lo).toNat:Int):=by rw[rangeSize_one];split<;>omega
 refine call_list_range (I.ok.hd hc) (show IsRange s.heap p lo hi 1 t u v from e) (small_one h1 h2 h3 h4) hn h5 fun h' tk acc c kp hD hI=> ?_
 refine⟨.ref s.heap.objs.size,_,I.laid (t':=tk) (o:=.lst (fO lo (hi- lo).toNat)) kp (Nat.le_refl _) ?_,rfl,q _ (I.hok.fresh (Nat.le_refl _))⟩;refine⟨by rw[mH,sizeLine_eq];exact h5,acc.toList,c,qX (by rw[mH,Array.length_toList];exact hI.1) fun j x u e1 e2=> ?_,by rw[Array.toArray_toList];exact hD⟩;rw[Array.getElem?_toList]at e2;obtain⟨t',rfl⟩:=hI.2 j u e2;unfold fO at e1;rw[List.getElem?_map]at e1
 cases z:(List.range (hi- lo).toNat)[j]? with
 |none=>rw[z]at e1;cases e1
 |some i=>
  rw[z]at e1
  have:i=j:=by
   have hl:j<(List.range (hi- lo).toNat).length:=(List.getElem?_eq_some_iff.mp z).1;rw[List.getElem?_eq_getElem hl,List.getElem_range]at z;exact(Option.some.inj z).symm
  subst this;cases e1;exact⟨t',by rw[Int.mul_one]⟩
theorem tO{k:aB}(h:(cP P w).is k u=true):aU (kV k) u:=by
 rcases hE h with⟨i,t,rfl,rfl⟩|⟨x,t,rfl,rfl⟩
 ·exact⟨t,rfl⟩
 ·exact⟨t,rfl⟩
theorem KV.fst{κ:Type}:∀{kvs:List (κ×V)} {vs:List (κ×Value)},KV kvs vs->kvs.map (·.1)=vs.map (·.1)
 |_,_,.nil=>rfl
 |_,_,.cons r t=>by rw[List.map_cons,List.map_cons,r.1,KV.fst t]
theorem oK(hc:X.calm=true):fJ X (.type "list") (fun xs H Q=>∃a kvs,xs= [.ref a] /\H a=some (.dK kvs)/\∀l,H l=none->Q (.ref l) (upd H l (.lst (kvs.map fun p=>kV p.1)))):=by
 intro ac s σ H xs us Q I r h;obtain⟨a,kvs,rfl,ha,q⟩:=h;obtain⟨u,rfl,rx⟩:=jQ r;cases rx;obtain⟨z,hs,vs,rel,dd⟩:=nJ I.hok ha;obtain⟨ep,hat⟩:=dd.dictAt;have hl:kvs.length=vs.length:=Paired.length rel;refine W.kdl_call (W.kdl_dict (knd:=cP X.prog X.w) (kvs:=vs) (ep:=ep) hs) (I.ok.hd hc) hat (by rw[<- hl];exact z) fun h' tk acc c kp hD hI=> ?_
 refine⟨.ref s.heap.objs.size,_,I.laid (t':=tk) (o:=.lst (kvs.map fun p=>kV p.1)) kp (Nat.le_refl _) ?_,rfl,q _ (I.hok.fresh (Nat.le_refl _))⟩;refine⟨by rw[List.length_map];exact z,acc.toList,c,qX (by rw[List.length_map,Array.length_toList,hl];exact hI.1) fun j x u e1 e2=> ?_,by rw[Array.toArray_toList];exact hD⟩;rw[Array.getElem?_toList]at e2;obtain⟨k,y,e3,e4⟩:=hI.2 j u e2
 have e5:(kvs.map (·.1))[j]?=some k:=by rw[KV.fst rel,List.getElem?_map,e3];rfl
 have e6:(kvs.map fun p=>kV p.1)[j]?=some (kV k):=by
  have:(kvs.map fun p=>kV p.1)=(kvs.map (·.1)).map kV:=by rw[List.map_map];rfl
  rw[this,List.getElem?_map,e5];rfl
 rw[e6]at e1;cases e1;exact tO e4
end
def bE(s:Stmt)(j:Nat):Stmt:=match s with
 | .ClassDef _ _ _ body _ _ _ _ _ _ _=>body.getD j (.Pass ⟨0,0,0,0⟩)
 |_=> .Pass ⟨0,0,0,0⟩
theorem a4W:bootBuiltins "range"=some (.type "range"):=by kernel_rfl
structure aL(P:Program)(w:World)(K:Fg)(mg:Str->Option Value)(ae:Heap)(CX:eE)(k:Nat)(C:Addr)(m:Str)(ps:List Str)(sp:Sp):Prop where
 ex:∃f fd,eY P w K mg ae CX k f fd ps sp/\mD K C m f/\fY K fd ps []
structure dM(P:Program)(w:World)(K:Fg)(mg:Str->Option Value)(ae:Heap)(CX:eE)(k:Nat)(C:Addr)(ps:List Str)(sp:Sp):Prop where
 ex:∃f fd,eY P w K mg ae CX k f fd ps sp/\Mk K C f/\fY K fd ps []
structure bC(K:Fg)(C:Addr)(m qual:Str)(st:Stmt):Prop where
 ex:∃f fd,iF K m qual st f fd/\W.findIn K (.ref C) m=some (some (.ref f))/\W.isFn K (.ref f)=true
section
variable{ae:Heap}
theorem bD{osl:Array (Option Value)}{kV:Value}(a:W.findIn K (.ref C) m=some (some (.ref f)))(i:W.isFn K (.ref f)=true)
 (l:K.lookup f=some ⟨oc,od,.func (W.fnOf m qual (jI st) (fK st) (aR st) .none kV doc pm an ag ct),osl⟩)(c:W.codeIn K ag qual=true)(k:W.keepIn K (.ref f)=true):bC K C m qual st:=
 ⟨f,_,vR l c k,a,i⟩
theorem bC.known{k:Nat}(D:bC K C m qual st)(S:aX N ps (aR st))
 (hb:∀(kV doc pm:Value) (an:Option Addr) (ag ct:Value) (us:List Value),us.length=ps.length->bindArgs (W.fnOf m qual (jI st) (fK st) (aR st) .none kV doc pm an ag ct) ⟨us,[]⟩=pure (ps.zip us))
 (len:∀vs H Q E,sp vs H Q E->vs.length=ps.length)
 (hbody:∀(f:Addr) (ag:Value) (A:Around) (af:List Env) (s:Shared) (H:Hp) (vs:List V) (Q:VK) (E:XK),cD k (A.deeper (envOfC qual (aR st) s.heap.objs.size f ag))->sp vs H Q E->
  ∃t,dP (eG aD P w K mg ae N qual (aR st) f ag A af s H E).nox (fK st) t/\t {nx:=fun _ H'=>Q .non H',rt:=Q} (hV N vs) H):aL P w K mg ae aD (k+ 1) C m ps sp:=by
 obtain⟨f,fd,F,ha,hi⟩:=D.ex;exact⟨f,fd,F.ok S len fun ag A af s H vs Q E hr h=>hbody f ag A af s H vs Q E hr h,⟨ha,hi,F.kp⟩,F.binds hb⟩
theorem aL.init{k:Nat}(G:aL P w K mg ae CX k C "__init__" ps sp)(mk:W.makesIn K C=true)(kc:W.keepIn K (.ref C)=true):dM P w K mg ae CX k C ps sp:=by
 obtain⟨f,fd,F,hm,hb⟩:=G.ex;exact⟨f,fd,F,⟨mk,hm.at_,hm.fn,kc⟩,hb⟩
end
section
variable{k:Nat}{E:XK}{p:Pos}{o:Expr}{t:TA}
theorem bG{pl:Sem Bool}(he:PE X o ta)(c:cX X.K C)(G:aL X.prog X.w X.K X.mg X.base CX k C m ps sp)(hr:cD k X.A)(hx:fR CX X E)(ha:PA X (e::es) t)
 (hst:starEach (e::es) X.env=(false,eval e X.env)::starEach es X.env:=by rfl)(hpl:(backTo pos (starEach es X.env)).any (·.1)=false:=by rfl)
 (ht:eval (.Call (.Attribute o m apos) (e::es) [] pos) X.env=(do
  let ov<- eval o X.env
  standAt apos.atName
  let (f,first)<- holding [ov] (getMethod ov m pl)
  callWith pos f first (backTo pos (starEach (e::es) X.env)) (backToKw pos (keywordEach [] X.env))):=by rfl):
 PE X (.Call (.Attribute o m apos) (e::es) [] pos) (kN C m sp [] E ta t):=by
 obtain⟨f,fd,F,hm,hb⟩:=G.ex;exact a4a (pl:=pl) he c hm F hr hb .nil hx ha hst hpl ht
theorem dR{pl:Sem Bool}(he:PE X o ta)(c:cX X.K C)(G:aL X.prog X.w X.K X.mg X.base CX k C m ps sp)(hr:cD k X.A)(hx:fR CX X E)
 (ht:eval (.Call (.Attribute o m apos) [] [] pos) X.env=(do
  let ov<- eval o X.env
  standAt apos.atName
  let (f,first)<- holding [ov] (getMethod ov m pl)
  callWith pos f first (backTo pos (starEach [] X.env)) (backToKw pos (keywordEach [] X.env))):=by rfl):
 PE X (.Call (.Attribute o m apos) [] [] pos) (kN C m sp [] E ta gC):=by
 obtain⟨f,fd,F,hm,hb⟩:=G.ex;exact a3Y (pl:=pl) he c hm F hr hb .nil hx ht
theorem gX(G:dM X.prog X.w X.K X.mg X.base CX k C ps sp)(hr:cD (k+ 1) X.A)(hm:X.mg x=some (.ref C))(hx:fR CX X E)
 (ha:PA X (e::es) t)(hg:Gl X x:=by rfl)(hdb:(x==("__debug__":Str))=false:=by decide)(he:starEach (e::es) X.env=(false,eval e X.env)::starEach es X.env:=by rfl)(hpl:(backTo pos (starEach es X.env)).any (·.1)=false:=by rfl):
 PE X (.Call (.Name x p) (e::es) [] pos) (pK C sp [] E t):=by
 obtain⟨f,fd,F,M,hb⟩:=G.ex;exact a33 M F hr hg hm hb .nil hx ha hdb he hpl
end
noncomputable def jF (cells:List (Str×Addr)):List (Str×NameKind)->List (Str×Addr)->List (Str×Addr)
 | [],acc=>acc
 |(n,k)::r,acc=>jF cells r (if k== .free then(n,(cells.lookup n).getD 0)::acc else acc)
theorem rY{env:Env}:∀{names:List (Str×NameKind)} {acc:List (Str×Addr)},(∀y∈names,y.2= .free->∃c,env.cells.lookup y.1=some c)->
 (forIn names acc fun(x:Str×NameKind) (cs:List (Str×Addr))=>(do
  let (name,kind):=x
  if kind==NameKind.free then(do let a<- cellOf env name;pure (ForInStep.yield ((name,a)::cs))) else pure (ForInStep.yield cs):Sem (ForInStep (List (Str×Addr)))))=pure (jF env.cells names acc)
 | [],acc,_=>rfl
 |(n,k)::r,acc,h=>by
  rw[List.forIn_cons];by_cases hk:(k==NameKind.free)=true
  ·obtain⟨c,hc⟩:=h (n,k) List.mem_cons_self (by simpa using hk)
   have e:cellOf env n=pure c:=by unfold cellOf;rw[show env.cells.lookup n=some c from hc]
   have ih:=rY (env:=env) (names:=r) (acc:=(n,c)::acc) fun y hy=>h y (List.mem_cons_of_mem _ hy)
   show(do let r<- (if k==NameKind.free then(do let a<- cellOf env n;pure (ForInStep.yield ((n,a)::acc))) else pure (ForInStep.yield acc):Sem (ForInStep (List (Str×Addr))));_)=_;rw[if_pos hk,e,pure_bind,pure_bind];refine Eq.trans ih ?_;show _=pure (jF env.cells r (if(k==NameKind.free)=true then(n,(env.cells.lookup n).getD 0)::acc else acc));rw[if_pos hk,show env.cells.lookup n=some c from hc];rfl
  ·have ih:=rY (env:=env) (names:=r) (acc:=acc) fun y hy=>h y (List.mem_cons_of_mem _ hy)
   show(do let r<- (if k==NameKind.free then(do let a<- cellOf env n;pure (ForInStep.yield ((n,a)::acc))) else pure (ForInStep.yield acc):Sem (ForInStep (List (Str×Addr))));_)=_;rw[if_neg hk,pure_bind];refine Eq.trans ih ?_;show _=pure (jF env.cells r (if(k==NameKind.free)=true then(n,(env.cells.lookup n).getD 0)::acc else acc));rw[if_neg hk]
theorem vK{cells:List (Str×Addr)}:∀{names:List (Str×NameKind)} {acc:List (Str×Addr)},(∀y∈names,y.2= .free->∃c,cells.lookup y.1=some c)->(∀x c,acc.lookup x=some c->cells.lookup x=some c)->
 ∀x c,(jF cells names acc).lookup x=some c->cells.lookup x=some c
 | [],_,_,h=>h
 |(n,k)::r,acc,hf,h=>by
  refine vK (names:=r) (fun y hy=>hf y (List.mem_cons_of_mem _ hy)) ?_;intro x c e;by_cases hk:(k==NameKind.free)=true
  ·obtain⟨c',hc⟩:=hf (n,k) List.mem_cons_self (by simpa using hk)
   have hc':cells.lookup n=some c':=hc;rw[if_pos hk,hc',List.lookup_cons]at e;by_cases hx:(x==n)=true
   ·rw[hx]at e
    cases e
    have:x=n:=by simpa using hx
    rw[this];exact hc'
   ·rw[show (x==n)=false by simpa using hx]at e
    exact h x c e
  ·rw[if_neg hk]at e
   exact h x c e
theorem a0j{cells:List (Str×Addr)}:∀{names:List (Str×NameKind)} {acc:List (Str×Addr)} {x:Str},(∃c,acc.lookup x=some c)->∃c,(jF cells names acc).lookup x=some c
 | [],_,_,h=>h
 |(n,k)::r,acc,x,⟨c,h⟩=>by
  refine a0j (names:=r) ?_;by_cases hk:(k==NameKind.free)=true
  ·rw[if_pos hk,List.lookup_cons]
   cases hx:x==n with
   |true=>exact⟨_,rfl⟩
   |false=>exact⟨c,h⟩
  ·rw[if_neg hk]
   exact⟨c,h⟩
theorem qW{cells:List (Str×Addr)}:∀{names:List (Str×NameKind)} {acc:List (Str×Addr)} {x:Str},(x,NameKind.free)∈names->∃c,(jF cells names acc).lookup x=some c
 |(n,k)::r,acc,x,h=>by
  rcases List.mem_cons.mp h with e|h
  ·cases e
   refine a0j (names:=r) ⟨(cells.lookup n).getD 0,?_⟩;rw[if_pos (by rfl),List.lookup_cons,beq_self_eq_true]
  ·exact qW (names:=r) h
theorem a0q{env:Env}:∀{names:List (Str×NameKind)} {x:Str},names.lookup x=some .free->
 (names.map fun(n,k)=>if(k==NameKind.free&&env.scope.kind== .function&&env.kindOf n==some .cell) then(n,NameKind.cell) else(n,k)).lookup x=some .cell\/
 (names.map fun(n,k)=>if(k==NameKind.free&&env.scope.kind== .function&&env.kindOf n==some .cell) then(n,NameKind.cell) else(n,k)).lookup x=some .free
 | [],_,h=>by simp at h
 |(n,k)::r,x,h=>by
  have ih:= @a0q env r x;rw[List.lookup_cons]at h;rw[List.map_cons]
  cases hx:x==n with
  |true=>
   rw[hx]at h;cases h;by_cases hc:(NameKind.free==NameKind.free&&env.scope.kind== .function&&env.kindOf n==some .cell)=true
   ·simp only[hc,if_true,List.lookup_cons,hx]
    exact .inl trivial
   ·simp only[hc,if_false,List.lookup_cons,hx,Bool.false_eq_true]
    exact .inr trivial
  |false=>
   rw[hx]at h;by_cases hc:(k==NameKind.free&&env.scope.kind== .function&&env.kindOf n==some .cell)=true
   ·simp only[hc,if_true,List.lookup_cons,hx]
    exact ih h
   ·simp only[hc,if_false,List.lookup_cons,hx,Bool.false_eq_true]
    exact ih h
theorem nY{sc:Scope}(hcell:∀x,X.env.scope.names.lookup x=some .cell->∃c,X.env.cells.lookup x=some c)(hs:X.env.scope=sc:=by rfl)(hN:X.N=N:=by rfl)
 (kind:ah.kind= .function:=by rfl)(plain:∀y∈ah.names,y.2≠ .cell:=by decide)(names:∀y∈ah.names,y.2= .local->ah.names.lookup y.1=some .local:=by decide+kernel)
 (free:∀y∈ah.names,y.2= .free->sc.names.lookup y.1=some .cell:=by decide+kernel)(at':∀p∈cp,N[p.1]?=some p.2/\sc.names.lookup p.2=some .cell/\ah.names.lookup p.2=some .free:=by decide+kernel):
 kD X ah (jF X.env.cells ah.names []) cp:=by
 subst hs hN;have hf:∀y∈ah.names,y.2= .free->∃c,X.env.cells.lookup y.1=some c:=fun y hy e=>hcell _ (free y hy e)
 refine⟨kind,plain,names,?_,vK hf (fun x c e=>by cases e),fun x h=> ?_,fun p hp=> ?_⟩
 ·show closureFor ah X.env=_
  simp only[closureFor];have:=rY (env:=X.env) (acc:=[]) hf;exact(congrArg (fun z=>z>>=fun r=>pure r) this).trans (pure_bind _ _)
 ·have hm:∀k,(relabel ah X.env).names.lookup x=some k->(k= .cell\/ k= .free)->(x,NameKind.free)∈ah.names:=fun k e hk=>by
   have m:=PySem.mem_of_lookup e;unfold relabel at m;obtain⟨⟨n,k'⟩,hy,e'⟩:=List.mem_map.mp m;have nc:=plain _ hy;by_cases hc:(k'==NameKind.free&&X.env.scope.kind== .function&&X.env.kindOf n==some .cell)=true
   ·simp only[hc,if_true]at e'
    have e1:n=x:=congrArg (·.1) e'
    have:k'= .free:=by simp only[Bool.and_eq_true,beq_iff_eq]at hc;exact hc.1.1
    subst e1 this;exact hy
   ·simp only[hc,if_false,Bool.false_eq_true]at e'
    have e1:n=x:=congrArg (·.1) e';have e2:k'=k:=congrArg (·.2) e';subst e1 e2
    rcases hk with z|z
    ·exact absurd z nc
    ·subst z;exact hy
  rcases h with h|h
  ·exact qW (hm _ h (.inl rfl))
  ·exact qW (hm _ h (.inr rfl))
 ·obtain⟨h1,h2,h3⟩:=at' p hp
  exact⟨h1,.inl h2,a0q h3⟩
def hZ(X:Cx)(d:Addr):Prop:=(∀xs,X.H₀ d≠some (.tup xs))/\(∀o u,X.H₀ d≠some (.frz o u))/\∀ps,X.H₀ d≠some (.tbl ps)
section
variable{s:Shared}{d:Addr}
theorem aC.retag{u u':HO}(I:aC X ac σ H s)(e:H d=some u)(nf:hZ X d)(no:∀x,u≠ .own x)(nt:∀xs,u≠ .tup xs)(new:cI X.prog X.w (upd H d u') s.heap d u'):aC X ac σ (upd H d u') s:=by
 have hn:∀b,H b=none->upd H d u' b=none:=fun b n=>by rw[aF (bK e n).symm];exact n
 refine⟨I.ok,I.os,I.bare,⟨I.base.keep,I.base.slot,fun b o q n hx=>hn b (I.base.free b o q n hx),I.base.there,fun b xs q=> ?_,fun b o v q=> ?_,fun b ps q=> ?_⟩,I.loc,I.cell,hn _ I.free,fun x c q=>hn _ (I.freeC x c q),fun p hp=> ?_,fun b v q=> ?_,I.len⟩
 ·have:b≠d:=fun z=>nf.1 xs (z▸q)
  rw[aF this];exact I.base.tups b xs q
 ·have:b≠d:=fun z=>nf.2.1 o v (z▸q)
  rw[aF this];exact I.base.frzs b o v q
 ·have:b≠d:=fun z=>nf.2.2 ps (z▸q)
  rw[aF this];exact I.base.tbls b ps q
 ·obtain⟨a1,a2,a3,a4,a5⟩:=I.pin p hp
  exact⟨a1,hn _ a2,a3,a4,a5⟩
 ·by_cases hb:b=d
  ·subst hb
   rw[aK]at q;cases q;exact new
  ·rw[aF hb]at q
   refine(I.hok b v q).stay (fun _ _ _ r=>r) (fun c r=> ?_) fun c xs r=> ?_
   ·rw[aF (eR r e (fun z=>no _ z.symm))]
    exact r
   ·rw[aF (eR r e (fun z=>nt _ z.symm))]
    exact r
theorem aC.nof{u:HO}(I:aC X ac σ H s)(e:H d=some u)(h1:∀xs,u≠ .tup xs)(h2:∀o v,u≠ .frz o v)(h3:∀ps,u≠ .tbl ps):hZ X d:=by
 refine⟨fun xs q=> ?_,fun o v q=> ?_,fun ps q=> ?_⟩
 ·have:=(I.base.tups d xs q).symm.trans e
  exact h1 xs (Option.some.inj this).symm
 ·have:=(I.base.frzs d o v q).symm.trans e
  exact h2 o v (Option.some.inj this).symm
 ·obtain⟨m,q'⟩:=I.base.tbls d ps q
  have:=q'.symm.trans e;exact h3 _ (Option.some.inj this).symm
theorem aC.freeze(I:aC X ac σ H s)(e:H d=some (.dK kvs)):hZ X d/\∃o,s.heap.get? d=some o/\aC X ac σ (upd H d (.frz o (.dK kvs))) s:=by
 have nf:hZ X d:=I.nof e (by intro _ z;cases z) (by intro _ _ z;cases z) (by intro _ z;cases z);have ok:cI X.prog X.w H s.heap d (.dK kvs):=I.hok d _ e;obtain⟨z,hs,vs,rel,o,es,ep,ho,r⟩:=id ok;exact⟨nf,o,ho,I.retag e nf (by intro _ z;cases z) (by intro _ z;cases z) ⟨ho,z,hs,vs,rel,o,es,ep,ho,r⟩⟩
theorem aC.thaw{o:Obj}(I:aC X ac σ H s)(nf:hZ X d)(e:H d=some (.frz o (.dK kvs))):aC X ac σ (upd H d (.dK kvs)) s:=by
 obtain⟨_,q⟩:=(show cI X.prog X.w H s.heap d (.frz o (.dK kvs)) from I.hok d _ e);exact I.retag e nf (by intro _ z;cases z) (by intro _ z;cases z) q
end
noncomputable def kP (a:Addr) (o:Obj) (kvs:List (aB×V)):It:=
 ⟨fun i H=>H a=some (.frz o (.dK kvs))/\i<kvs.length,fun i H x H'=>H'=H/\∃p,kvs[i]?=some p/\x=kV p.1,fun i H=>H a=some (.frz o (.dK kvs))/\kvs.length<=i⟩
theorem nT{o:Obj}{es:Array DictEntry}{ep:Nat}(ok:cO P w H h)(e:H a=some (.frz o (.dK kvs)))(ho:o.data= .dict es ep):
 (a==sysModules)=false/\∃vs,KV kvs vs/\h.DictAt (cP P w) a vs ep:=by
 obtain⟨e1,z,hs,vs,rel,o',es',ep',ho',r1,r2,r3⟩:=(show cI P w H h a (.frz o (.dK kvs)) from ok a _ e);rw[e1]at ho';cases ho';have:=r2.symm.trans ho;cases this;exact⟨hs,vs,rel,o,_,e1,r1,r2,r3⟩
theorem a0X(a it:Addr)(o:Obj)(kvs:List (aB×V)){es:Array DictEntry}{ep:Nat}(hod:o.data= .dict es ep):jZ P w K tg (kP a o kvs) [it] it (fun i h=>h.IsKeyIter it a i kvs.length ep) where
 mem:=by simp
 obj:=fun i h st b hb=>by
  have e:b=it:=by simpa using hb
  subst e;obtain⟨o,e,c,d⟩:=st;exact⟨o,e,fun v z=>by rw[d]at z;cases z⟩
 keep:=fun i h h' st k=>st.at fun o e=>k it (by simp) o e
 item:=by
  intro X hP hw hK hc i ac s σ H E I hf st hg;subst hP hw hK;obtain⟨ha,hi⟩:=hg;obtain⟨_,vs,rel,dat⟩:=nT I.hok ha hod;have hl:kvs.length=vs.length:=Paired.length rel;obtain⟨⟨k,x⟩,hx⟩:∃p,vs[i]?=some p:=⟨vs[i]'(by omega),by simp⟩;obtain⟨f0,f1,f2,f3,f4,f5⟩:=hf it (by simp);rw[hl]at st;refine wpAny_pyNext_dict_item st dat hx fun u h' hu st' sb=> ?_
  have I1:aC X ac σ H {s with heap:=h'}:=I.turned (t':=s.toks) (fun b o hb e=>sb.extBut b o hb e) f0 f1 f3 f4 f5;obtain⟨o1,e1,c1,d1⟩:=id st';refine⟨u,rfl,pN (s:={s with heap:=h'}) e1 c1 d1 (by decide) ⟨kV k,H,I1,tO hu,⟨rfl,?_⟩,by rw[hl];exact st',fun b hb=>(hf b hb).1⟩⟩;refine⟨kvs[i],by simp[hi],?_⟩
  have e5:(kvs.map (·.1))[i]?=some k:=by rw[KV.fst rel,List.getElem?_map,hx];rfl
  rw[List.getElem?_map,List.getElem?_eq_getElem hi]at e5;rw[<- Option.some.inj e5]
 done:=by
  intro X hP hw hK hc i ac s σ H E I hf st hg;subst hP hw hK;obtain⟨ha,hi⟩:=hg;obtain⟨_,vs,rel,dat⟩:=nT I.hok ha hod;have hl:kvs.length=vs.length:=Paired.length rel;obtain⟨f0,f1,f2,f3,f4,f5⟩:=hf it (by simp);rw[hl]at st;exact wpAny_pyNext_dict_end (I.ok.hd hc) st dat (by simp;omega) fun h' eb=>⟨rfl,I.turned (t':=s.toks) (fun b o hb e=>eb b o hb e) f0 f1 f3 f4 f5⟩
 self:=fun _ _ _ _ _ st h=>wpAny_pyIter_keyiter st h
section
def zK(X:Cx)(tl:TE):TI:=fun σ H R=>tl σ H fun x H1=>∃a kvs,x= .ref a/\H1 a=some (.dK kvs)/\(hZ X a->∀o,R (kP a o kvs) (upd H1 a (.frz o (.dK kvs))))
theorem zP{l:Expr}(hl:PE X l tl):PI X tg l (zK X tl):=by
 intro ac s σ H R I h;refine aP (hl ac s σ H _ I h) ?_;rintro v s1 ⟨x,H1,I1,r1,q1⟩;refine ?_;obtain⟨a,kvs,e,ha,q⟩:=q1;subst e;cases r1;obtain⟨nf,o,ho,I2⟩:=I1.freeze ha;obtain⟨z,hs,vs,rel,o',es,ep,ho',r1,r2,r3⟩:=(show cI X.prog X.w H1 s1.heap a (.dK kvs) from I1.hok a _ ha);rw[ho]at ho';cases ho';have hl:kvs.length=vs.length:=Paired.length rel;have dat:s1.heap.DictAt (cP X.prog X.w) a vs ep:=⟨o,es,ho,r1,r2,r3⟩;refine wpAny_pyIter_dict hs dat ?_;refine⟨s1.heap.objs.size,[s1.heap.objs.size],_,_,_,rfl,I2.kept (t':=s1.toks) fun b o e=>Heap.get?_push_of_some _ e,a0X a _ o kvs r2,⟨_,Heap.get?_push_size _ rfl,rfl,by rw[hl];rfl⟩,fun b hb=> ?_,q nf o⟩
 have e:b=s1.heap.objs.size:=by simpa using hb
 subst e;exact I2.fpOk (Nat.le_refl _) (I2.hok.fresh (Nat.le_refl _))
noncomputable def nU (X:Cx) (D:gM):gM where
 nx:=fun σ H=>∃a o kvs,hZ X a/\H a=some (.frz o (.dK kvs))/\D.nx σ (upd H a (.dK kvs))
 rt:=fun v H=>∃a o kvs,hZ X a/\H a=some (.frz o (.dK kvs))/\D.rt v (upd H a (.dK kvs))
 bk:=D.bk
 ct:=D.ct
def a4t(X:Cx)(tl:TE)(g:TG)(tb:TS):TS:=fun D σ H=>uS (zK X tl) g tb (nU X D) σ H
theorem a2h(hp:PassesOwn (model X.prog X.w) X.A X.env X.xe)(hc:X.calm=true)(hl:PE X iter tl)(hg:PG X tg g)(hb:dP X body tb)
 (hs:∀x,foldedSetIterable iter X.env x=pure x:=by intro _;rfl):PS X (.For tg iter body [] pos) (a4t X tl g tb):=by
 intro ac s σ H D I h;refine aP (hW hp hc (zP hl) hg hb hs ac s σ H (nU X D) I h) fun f s' q=> ?_
 cases f with
 |next=>obtain⟨σ',H',I',a,o,kvs,nf,e,q⟩:=q;exact⟨σ',_,I'.thaw nf e,q⟩
 |cont=>exact q
 |brk=>exact q
 |ret v=>obtain⟨x,σ',H',I',r,a,o,kvs,nf,e,q⟩:=q;exact⟨x,σ',_,I'.thaw nf e,r,q⟩
end
theorem a1i{D:gM}(Pv:Nat->St->Hp->Prop)(h0:Pv 0 σ H)(hl:∀i σ H,i<=kvs.length->Pv i σ H->H a=some (.frz ob (.dK kvs)))
 (hs:∀i p σ H,kvs[i]?=some p->Pv i σ H->g (kV p.1) σ H fun σ2 H2=>tb {D with nx:=Pv (i+ 1),ct:=Pv (i+ 1),bk:=D.nx} σ2 H2)(hd:∀σ H,Pv kvs.length σ H->D.nx σ H):
 ∃W:Nat->Nat->St->Hp->Prop,(∃m,W 0 m σ H)/\∀i m σ H,W i m σ H->
  ((kP a ob kvs).stop i H/\D.nx σ H)\/ ((kP a ob kvs).go i H/\∃N:St->Hp->Prop,(∀σ' H',N σ' H'->∃m',m'<m/\W (i+ 1) m' σ' H')/\∀x H',(kP a ob kvs).yld i H x H'->g x σ H' fun σ2 H2=>tb {D with nx:=N,ct:=N,bk:=D.nx} σ2 H2):=by
 refine⟨fun i m σ H=>m=kvs.length- i/\i<=kvs.length/\Pv i σ H,⟨kvs.length,by simp,Nat.zero_le _,h0⟩,?_⟩;rintro i m σ H ⟨rfl,hi,p⟩;have q:=hl i σ H hi p;by_cases hlt:i<kvs.length
 ·refine .inr ⟨⟨q,hlt⟩,Pv (i+ 1),fun σ' H' p'=>⟨kvs.length- (i+ 1),by omega,rfl,hlt,p'⟩,fun x H' y=> ?_⟩
  obtain⟨e,pr,hp,ex⟩:=y;subst e ex;exact hs i pr σ _ hp p
 ·have e:i=kvs.length:=by omega
  subst e;exact .inl ⟨⟨q,Nat.le_refl _⟩,hd σ H p⟩
theorem aJ.thaw{d:Addr}{o:Obj}{u:HO}(e:H d=some u)(s:aJ (upd H d (.frz o u)) H2):aJ H (upd H2 d u):=fun b v q=>by
 by_cases hb:b=d
 ·subst hb
  rw[aK];exact e.symm.trans q
 ·rw[aF hb]
  exact s b v (by rw[aF hb];exact q)
def cS{α:Type}(xs:List α)(k:Nat)(y:α):List α:=xs.take k++ y::xs.drop k
theorem mZ{α:Type}(xs:List α)(k:Nat)(y:α):(cS xs k y).length=xs.length+ 1:=by
 unfold cS;rw[List.length_append,List.length_cons,List.length_take,List.length_drop];omega
def a4x:V->List V->Hp->VK->Prop:=fun x vs H Q=>∃l xs i y,x= .ref l/\vs= [.int i,y] /\H l=some (.lst xs)/\0<=i/\i<=xs.length/\xs.length<sizeLine/\Q .non (upd H l (.lst (cS xs i.toNat y)))
section
theorem rQ:lH X "list.insert" a4x:=by
 intro ac s σ H x vs v us Q I rx rv h;obtain⟨l,xs,i,y,rfl,rfl,hH,h0,h1,hz,q⟩:=h;cases rx
 cases rv with
 | @cons _ u1 _ us' r1 rr=>
  cases rr with
  | @cons _ u2 _ us'' r2 rr=>
   cases rr;obtain⟨t,rfl⟩:=r1;obtain⟨z,its,n,r,hl,e⟩:=I.lstM hH;have h63:=kL;have hfit:Builtin.List.listFitsIndex i=true:=fitsIndex_both (by omega) (by omega);refine call_meets F.slot_list_insert ⟨_,e,rfl⟩ F.entry_list_insert (F.args_list_insert_3 _ _ _) (PySem.AutoSeq1.list_insert_list_int_val_1 l its.toArray n i t u2 (by rw[hfit];decide) (by rw[List.size_toArray];omega)) ⟨e,?_⟩;refine⟨.non,_,I.lset (its':=its.take i.toNat++ u2::its.drop i.toNat) hH e ?_ ((r.take i.toNat).append (.cons r2 (r.drop i.toNat))) ?_,rfl,q⟩
   ·show(its.toArray.extract 0 (if i<0 then(i+ (its.toArray.size:Int)).toNat else min i.toNat its.toArray.size)).push u2++ its.toArray.extract (if i<0 then(i+ (its.toArray.size:Int)).toNat else min i.toNat its.toArray.size)=_
    rw[W.kl_ins_eq,List.size_toArray,if_neg (by omega),Nat.min_eq_left (by omega)]
   ·have:=mZ xs i.toNat y
    unfold cS at this;omega
theorem a4e:fJ X (.type "dict") (fun xs H Q=>∃a kvs,xs= [.ref a] /\Rd H a (.dK kvs)/\∀d,H d=none->Q (.ref d) (upd H d (.dK kvs))):=by
 intro ac s σ H xs us Q I r h;obtain⟨a,kvs,rfl,ha,q⟩:=h;obtain⟨u,rfl,rx⟩:=jQ r;cases rx;obtain⟨z,hs,vs,rel,dd⟩:=iB I.hok ha;have hl:kvs.length=vs.length:=Paired.length rel;refine kt_call_dict hs dd (by rw[<- hl];exact z) fun h' hm sb=> ?_
 refine⟨.ref s.heap.objs.size,_,I.laid (t':=s.toks) (o:=.dK kvs) (fun b o e=>sb.extBut b o (Nat.ne_of_lt (Heap.lt_size e)) (Heap.get?_push_of_some _ e)) (Nat.le_refl _) ?_,rfl,q _ (I.hok.fresh (Nat.le_refl _))⟩;refine⟨z,?_,vs,rel,hm⟩;exact beq_eq_false_iff_ne.mpr (Nat.ne_of_gt I.big)
def xI:V->Prop
 | .int _=>True
 | .ref _=>True
 |_=>False
theorem KV.hits{A:Around}{s:Shared}{kvs:List (aB×V)}{vb:List (aB×Value)}:∀{l:List (aB×V)} {va:List (aB×Value)},KV l va->(∀p∈l,xI p.2/\aO kvs p.1=some p.2)->KV kvs vb->W.KeqHits A s vb va true
 |_,_,.nil,_,_=> .nil
 |(k,x)::l,(k',v)::va,.cons r t,h,rb=>by
  obtain⟨hk,hx⟩:=r;have hk:k=k':=hk;have hx:aU x v:=hx;subst hk;obtain⟨hn,hv⟩:=h (k,x) List.mem_cons_self;have ho:eC (aO kvs k) (valueAt vb k):=rb.val k;rw[hv]at ho;obtain⟨y,hy,ry⟩:=eC.some_of (v:=x) (o:=valueAt vb k) ho;have ih:=KV.hits (A:=A) (s:=s) t (fun p hp=>h p (List.mem_cons_of_mem _ hp)) rb
  have heq:PySem.SeqAt.EqAt A s v y true:=by
   cases x with
   |int i=>
    obtain⟨t1,rfl⟩:=hx;obtain⟨t2,rfl⟩:=ry;have:=PySem.SeqAt.EqAt.int_int (A:=A) (s:=s) i t1 i t2;simpa using this
   |ref p=>
    cases hx;cases ry;exact PySem.SeqAt.EqAt.same _
   |_=>exact False.elim hn
  exact W.KeqHits.hit (e:=true) (b:=true) hy heq ih
theorem a2j(hu:X.A.units<cLine):cM X (compareOp .NotEq) (fun x y H Q=>∃a b kvs,x= .ref a/\y= .ref b/\Rd H a (.dK kvs)/\Rd H b (.dK kvs)/\(∀p∈kvs,xI p.2/\aO kvs p.1=some p.2)/\Q (.bl false) H):=by
 intro ac s σ H x y v u Q I rx ry h;obtain⟨a,b,kvs,rfl,rfl,ha,hb,hv,q⟩:=h;cases rx;cases ry;obtain⟨z1,hs1,va,ra,da⟩:=iB I.hok ha;obtain⟨z2,hs2,vb,rb,db⟩:=iB I.hok hb;have hla:kvs.length=va.length:=Paired.length ra;have hlb:kvs.length=vb.length:=Paired.length rb;refine W.keq_ne hs1 hs2 da db hu (fun _=>ra.hits hv rb) ?_;rw[<- hla,<- hlb];exact⟨.bl false,H,I,by simp;rfl,q⟩
end
noncomputable def nB (a:Addr) (o:Obj) (kvs:List (aB×V)):It:=
 ⟨fun i H=>H a=some (.frz o (.dK kvs))/\i<kvs.length,fun i H x H'=>∃p q,kvs[i]?=some q/\H p=none/\x= .ref p/\H'=upd H p (.tup [kV q.1,q.2]),fun i H=>H a=some (.frz o (.dK kvs))/\kvs.length<=i⟩
theorem KV.at{vs:List (aB×Value)}:KV kvs vs->∀(i:Nat) (k:aB) (v:Value),vs[i]?=some (k,v)->∃x,kvs[i]?=some (k,x)/\aU x v:=by
 intro r
 induction r with
 |nil=>intro i k v h;simp at h
 | @cons p q ps qs hq t ih=>
  intro i k v h
  cases i with
  |zero=>
   simp at h;subst h;exact⟨p.2,by simp;exact Prod.ext hq.1 rfl,hq.2⟩
  |succ i=>simpa using ih i k v (by simpa using h)
theorem a2p{elts:List Expr}{x1:Nat}(a it:Addr)(o:Obj)(kvs:List (aB×V)){es:Array DictEntry}{ep:Nat}(hod:o.data= .dict es ep):jZ P w K (.Tuple elts x1 tpos) (nB a o kvs) [it] it (fun i h=>∃ok ov,IsItemIter h it a i kvs.length ep ok ov) where
 mem:=by simp
 obj:=fun i h st b hb=>by
  have e:b=it:=by simpa using hb
  subst e;obtain⟨ok,ov,e⟩:=st
  exact⟨_,e,fun v z=>by
   have z':Data.fields _=Data.cell v:=z
   cases z'⟩
 keep:=fun i h h' st k=>by
  obtain⟨ok,ov,e⟩:=st;exact⟨ok,ov,k it (by simp) _ e⟩
 item:=by
  intro X hP hw hK hc i ac s σ H E I hf st hg;subst hP hw hK;obtain⟨ha,hi⟩:=hg;obtain⟨ok,ov,st⟩:=st;obtain⟨_,vs,rel,dat⟩:=nT I.hok ha hod;have hl:kvs.length=vs.length:=Paired.length rel;obtain⟨⟨k,x⟩,hx⟩:∃p,vs[i]?=some p:=⟨vs[i]'(by omega),by simp⟩;obtain⟨f0,f1,f2,f3,f4,f5⟩:=hf it (by simp);rw[hl]at st;obtain⟨y,hy,ry⟩:=KV.at rel i k x hx;have hpn:H s.heap.objs.size=none:=I.hok.fresh (Nat.le_refl _);have hit:it≠s.heap.objs.size:=Nat.ne_of_lt (Heap.lt_size st);refine wpAny_pyNext_items_item st dat hx fun u h' hu st' htup hsz kk=> ?_
  have I1:aC X ac σ (upd H s.heap.objs.size (.tup [kV k,y])) {s with heap:=s.heap.push {cls:=.type "tuple",data:=.seq #[u,x]}}:=by
   refine I.laid (t':=s.toks) (o:=.tup [kV k,y]) (fun b ob q=>Heap.get?_push_of_some _ q) (Nat.le_refl _) ?_;refine⟨by show 2<=sizeLine;exact sl,[u,x],.cons (tO hu) (.cons ry .nil),_,Heap.get?_push_size _ rfl,rfl,0,rfl⟩
  have g0:upd H s.heap.objs.size (.tup [kV k,y]) it=none:=by rw[aF hit];exact f0
  have I2:aC X ac σ (upd H s.heap.objs.size (.tup [kV k,y])) {s with heap:=h'}:=by
   have kp:∀b ob,b≠it->(s.heap.push {cls:=.type "tuple",data:=.seq #[u,x]}).get? b=some ob->h'.get? b=some ob:=fun b ob hb e=>by
    rcases Heap.get?_push_cases e with⟨rfl,rfl⟩|e
    ·exact htup
    ·exact kk b ob hb e
   have I2:=aC.turned (s:={s with heap:=s.heap.push {cls:=.type "tuple",data:=.seq #[u,x]}}) (h':=h') (t':=s.toks) (it:=it) I1 kp g0 f1 f3 f4 f5;exact I2
  refine⟨_,rfl,wpAny_letOwnedTupleGo_items (s:={s with heap:=h'}) st' fun h'' st'' sb=> ?_⟩
  have I3:aC X ac σ (upd H s.heap.objs.size (.tup [kV k,y])) {s with heap:=h''}:=by
   have I3:=aC.turned (s:={s with heap:=h'}) (h':=h'') (t':=s.toks) (it:=it) I2 (fun b ob hb e=>sb.extBut b ob hb e) g0 f1 f3 f4 f5;exact I3
  refine⟨.ref s.heap.objs.size,_,I3,rfl,⟨s.heap.objs.size,(k,y),hy,hpn,rfl,rfl⟩,⟨_,_,by rw[hl];exact st''⟩,fun b hb=> ?_⟩
  have e:b=it:=by simpa using hb
  subst e;exact g0
 done:=by
  intro X hP hw hK hc i ac s σ H E I hf st hg;subst hP hw hK;obtain⟨ha,hi⟩:=hg;obtain⟨ok,ov,st⟩:=st;obtain⟨_,vs,rel,dat⟩:=nT I.hok ha hod;have hl:kvs.length=vs.length:=Paired.length rel;obtain⟨f0,f1,f2,f3,f4,f5⟩:=hf it (by simp);rw[hl]at st;exact wpAny_pyNext_items_end (I.ok.hd hc) st dat (by simp;omega) fun h' eb=>⟨rfl,I.turned (t':=s.toks) (fun b o hb e=>eb b o hb e) f0 f1 f3 f4 f5⟩
 self:=fun A i s Q E st h=>by
  obtain⟨ok,ov,st⟩:=st;exact W.kcp_self st h
section
variable{elts:List Expr}{x1:Nat}
def wE(X:Cx)(tl:TE):TI:=fun σ H R=>tl σ H fun x H1=>∃a kvs,x= .ref a/\H1 a=some (.dK kvs)/\(hZ X a->∀o,R (nB a o kvs) (upd H1 a (.frz o (.dK kvs))))
theorem a4X{l:Expr}(hl:PE X l tl)(hbase:attributeBase l "items" X.env (eval l X.env)=eval l X.env:=by rfl)(hline:(apos.endLine==pos.line)=true:=by rfl):
 PI X (.Tuple elts x1 tpos) (.Call (.Attribute l "items" apos) [] [] pos) (wE X tl):=by
 intro ac s σ H R I h;refine wpAny_Call_method0_late hbase hline (aP (hl ac s σ H _ I h) ?_);rintro v s1 ⟨x,H1,I1,r1,q1⟩;refine ?_;obtain⟨a,kvs,e,ha,q⟩:=q1;subst e;cases r1;obtain⟨t1,t2,_⟩:=vM I1 (.inl ⟨kvs,.inl ha⟩);obtain⟨nf,o,ho,I2⟩:=I1.freeze ha;obtain⟨z,hs,vs,rel,o',es,ep,ho',r1,r2,r3⟩:=(show cI X.prog X.w H1 s1.heap a (.dK kvs) from I1.hok a _ ha);rw[ho]at ho';cases ho';have hl:kvs.length=vs.length:=Paired.length rel;have dat:s1.heap.DictAt (cP X.prog X.w) a vs ep:=⟨o,es,ho,r1,r2,r3⟩;refine⟨"dict",_,F.plainAttrs_dict,F.slot_dict_items,F.type_dict_items,t1,t2,Calls.callWith_builtin rfl (PySem.evalArgs_none ?_)⟩;refine call_meetsIn F.slot_dict_items dat.dictOf.typeIs F.entry_dict_items (F.args_dict_items_1 _) (meets_dict_items (cP X.prog X.w) a hs) ⟨⟨vs,dat.dictOf⟩,?_⟩;refine wpAny_pyIter_items ⟨_,Heap.get?_push_size _ rfl,rfl,rfl⟩ (dat.push _) ?_;have I3:aC X ac σ (upd H1 a (.frz o (.dK kvs))) {s1 with heap:=s1.heap.push {cls:=.type "dict_items",data:=.fields #[.ref a]}}:=I2.kept (t':=s1.toks) fun b o e=>Heap.get?_push_of_some _ e
 refine⟨_,[_],_,_,_,rfl,I3.kept (t':=s1.toks) fun b o e=>Heap.get?_push_of_some _ e,a2p a _ o kvs r2,⟨.none,.none,?_⟩,fun b hb=> ?_,q nf o⟩
 ·rw[hl]
  exact Heap.get?_push_size _ rfl
 ·have e:b=(s1.heap.push {cls:=.type "dict_items",data:=.fields #[.ref a]}).objs.size:=by simpa using hb
  subst e;exact I3.fpOk (Nat.le_refl _) (I3.hok.fresh (Nat.le_refl _))
def a23(X:Cx)(tl:TE)(g:TG)(tb:TS):TS:=fun D σ H=>uS (wE X tl) g tb (nU X D) σ H
theorem a4c{l:Expr}{fpos:Pos}(hp:PassesOwn (model X.prog X.w) X.A X.env X.xe)(hc:X.calm=true)(hl:PE X l tl)(hg:PG X (.Tuple elts x1 tpos) g)(hb:dP X body tb)
 (hbase:attributeBase l "items" X.env (eval l X.env)=eval l X.env:=by rfl)(hline:(apos.endLine==pos.line)=true:=by rfl)
 (hs:∀x,foldedSetIterable (.Call (.Attribute l "items" apos) [] [] pos) X.env x=pure x:=by intro _;rfl):PS X (.For (.Tuple elts x1 tpos) (.Call (.Attribute l "items" apos) [] [] pos) body [] fpos) (a23 X tl g tb):=by
 intro ac s σ H D I h;refine aP (hW hp hc (a4X hl hbase hline) hg hb hs ac s σ H (nU X D) I h) fun f s' q=> ?_
 cases f with
 |next=>obtain⟨σ',H',I',a,o,kvs,nf,e,q⟩:=q;exact⟨σ',_,I'.thaw nf e,q⟩
 |cont=>exact q
 |brk=>exact q
 |ret v=>obtain⟨x,σ',H',I',r,a,o,kvs,nf,e,q⟩:=q;exact⟨x,σ',_,I'.thaw nf e,r,q⟩
end
theorem a5a{D:gM}(Pv:Nat->St->Hp->Prop)(h0:Pv 0 σ H)(hl:∀i σ H,i<=kvs.length->Pv i σ H->H a=some (.frz ob (.dK kvs)))
 (hs:∀i q σ H p,kvs[i]?=some q->Pv i σ H->H p=none->g (.ref p) σ (upd H p (.tup [kV q.1,q.2])) fun σ2 H2=>tb {D with nx:=Pv (i+ 1),ct:=Pv (i+ 1),bk:=D.nx} σ2 H2)(hd:∀σ H,Pv kvs.length σ H->D.nx σ H):
 ∃W:Nat->Nat->St->Hp->Prop,(∃m,W 0 m σ H)/\∀i m σ H,W i m σ H->
  ((nB a ob kvs).stop i H/\D.nx σ H)\/ ((nB a ob kvs).go i H/\∃N:St->Hp->Prop,(∀σ' H',N σ' H'->∃m',m'<m/\W (i+ 1) m' σ' H')/\∀x H',(nB a ob kvs).yld i H x H'->g x σ H' fun σ2 H2=>tb {D with nx:=N,ct:=N,bk:=D.nx} σ2 H2):=by
 refine⟨fun i m σ H=>m=kvs.length- i/\i<=kvs.length/\Pv i σ H,⟨kvs.length,by simp,Nat.zero_le _,h0⟩,?_⟩;rintro i m σ H ⟨rfl,hi,p⟩;have q:=hl i σ H hi p;by_cases hlt:i<kvs.length
 ·refine .inr ⟨⟨q,hlt⟩,Pv (i+ 1),fun σ' H' p'=>⟨kvs.length- (i+ 1),by omega,rfl,hlt,p'⟩,fun x H' y=> ?_⟩
  obtain⟨pa,pr,hp,hn,ex,eh⟩:=y;subst eh ex;exact hs i pr σ _ pa hp p hn
 ·have e:i=kvs.length:=by omega
  subst e;exact .inl ⟨⟨q,Nat.le_refl _⟩,hd σ H p⟩
section
variable{st:Expr}{ts:TO}{p2:Pos}
theorem bT{st:Stmt}:PS X st (fun _ _ _=>False):=fun _ _ _ _ _ _ h=>h.elim
end
structure Maker(mg:Str->Option Value)(ae:Heap)(c P:Addr):Prop where
 hd:W.CodeHd ae c P
 bt:ae.BuiltinsAt mg P
theorem a2M(h:H a=some o):upd H a o=H:=by
 funext b;unfold upd;split
 ·rename_i e;subst e;exact h.symm
 ·rfl
structure TabOf(q:Program)(K:Fg)(z:Addr×Addr):Prop where
 ex:∃x:Str,((recsOf q).find? (fun e=>e.name==x)).isSome=true/\W.tabIn K x=some z
structure ClsM(K:Fg)(C:Addr)(m:Str):Prop where
 ga:W.specialIn K (.ref C) "__getattribute__"=some (some (.builtin "type.__getattribute__"))
 ex:∃(mc:Value) (f:Addr),W.readsIn K C mc=true/\W.findCls K (.ref C) mc m=some (.val (.ref f))/\W.findIn K (.ref C) m=some (some (.ref f))
structure DefT(K:Fg)(mg:Str->Option Value)(x:Str)(st:Stmt)(z:Addr×Addr):Prop where
 ex:∃f fd,iF K x x st f fd/\mg x=some (.ref f)/\fd.code= .ref z.1
 tab:W.tabIn K x=some z
def Fz(o:Obj):HO:=.frz o (.ext fun _=>True)
abbrev yK:=Addr->Option Obj
structure Lent(X:Cx)(σ:St)(H:Hp)(f:yK):Prop where
 free:∀b o,f b=some o->H b=none
 cell:∀x c,X.env.cells.lookup x=some c->∃o v,f c=some o/\o.data= .cell v
 val:∀(i:Nat) x v,X.N[i]?=some x->σ[i]?=some (some v)->X.env.scope.names.lookup x=some .cell->∃c o u,X.env.cells.lookup x=some c/\f c=some o/\o.data= .cell (some u)/\aU v u
 inj:∀x y c,X.env.cells.lookup x=some c->X.env.cells.lookup y=some c->x=y
structure LamFn(P:Program)(w:World)(K:Fg)(mg:Str->Option Value)(ae:Heap)(k:Nat)(fa:Addr)(sp:Sp):Prop where
 fn:∀vs H Q E,sp vs H Q E->∃c d fd sl,H fa=some (Fz ⟨c,d,.func fd,sl⟩)
 run:∀(A:Around) (af:List Env) (s:Shared) (H:Hp) (us:List Value) (vs:List V) (Q:VK) (E:XK),cD k A->iT P w K mg ae A af s H->aS vs us->sp vs H Q E->
  codeAny (model P w) A (.call (.ref fa) ⟨us,[]⟩) (CR aD af P w H s Q E) s
structure a0P where
 nx:St->Hp->Prop
 rt:V->St->Hp->Prop
abbrev TSR:=a0P->St->Hp->Prop
structure PEw(X:Cx)(e:Expr)(t:TE):Prop where
 run:PE X e t
structure PAw(X:Cx)(es:List Expr)(t:TA):Prop where
 run:PA X es t
structure PTw(X:Cx)(e:Expr)(t:TT):Prop where
 run:PT X e t
structure PSw(X:Cx)(st:Stmt)(t:TS):Prop where
 run:PS X st t
structure PSsw(X:Cx)(st:List Stmt)(t:TS):Prop where
 run:dP X st t
def a2Q(R:Addr->Sp->Prop)(m:Str)(E:XK)(ta:TE)(t:TA):TE:=fun σ H Q=>ta σ H fun x H1=>∃C sp a dx fs,R C sp/\x= .ref a/\H1 a=some (.ins C dx fs)/\fs.lookup m=none/\t σ H1 fun vs H2=>sp (x::vs) H2 Q E
section
variable{k:Nat}{R:Addr->Sp->Prop}{E:XK}{o:Expr}{t:TA}
theorem a2T{pl:Sem Bool}(he:PE X o ta)(hR:∀C sp,R C sp->cX X.K C/\aL X.prog X.w X.K X.mg X.base CX k C m ps sp)(hr:cD k X.A)(hx:fR CX X E)(ha:PA X (e::es) t)
 (hst:starEach (e::es) X.env=(false,eval e X.env)::starEach es X.env:=by rfl)(hpl:(backTo pos (starEach es X.env)).any (·.1)=false:=by rfl)
 (ht:eval (.Call (.Attribute o m apos) (e::es) [] pos) X.env=(do
  let ov<- eval o X.env
  standAt apos.atName
  let (f,first)<- holding [ov] (getMethod ov m pl)
  callWith pos f first (backTo pos (starEach (e::es) X.env)) (backToKw pos (keywordEach [] X.env))):=by rfl):
 PE X (.Call (.Attribute o m apos) (e::es) [] pos) (a2Q R m E ta t):=by
 intro ac s σ H Q I h;refine W.methodCall_KW (pl:=pl) (aP (he ac s σ H _ I h) ?_) ht;rintro u s1 ⟨x,H1,I1,rx,C,sp,a,dx,fs,hC,ex,ea,l,q⟩;refine ?_;obtain⟨c,G⟩:=hR C sp hC;obtain⟨f,fd,F,hm,hb⟩:=G.ex;subst ex;obtain rfl:u=Value.ref a:=rx;refine oO I1 ea c hm l ?_;refine W.callWith_K (first:=[.ref a]) (h₀:=X.base) I.ok.mod.kin hm.kp (aP (ha pos ac s1 σ H1 _ I1 q) ?_) hst hpl;rintro us s2 ⟨vs,H2,I2,r,q2⟩;refine⟨I2.kIn,?_⟩;exact nV (us:=.ref a::us) (vs:=.ref a::vs) F hr hb .nil hx I2 (.cons rfl r) (by rw[List.append_nil];exact q2)
end
structure PPw(X:Cx)(pos:Pos)(keys:List (Option Expr))(values:List Expr)(trs:List (TE×TE)):Prop where
 run:PPs X pos keys values trs
theorem yG:entryFor table "dict.update.loop"=some Builtin.«dict.update.loop» :=entryFor_of_tree (by kernel_rfl)
theorem pF:plainId "dict.update.loop"=true:=by decide+kernel
structure KDict(P:Params)(K:Fg)(p:Addr):Prop where
 ex:∃(es:Array DictEntry) (n:Nat),K.lookup p=some ⟨.type "dict",none,.dict es n,#[]⟩ /\W.KeysLit P es.toList
 lo:(p==sysModules)=false
structure FnV(P:Program)(w:World)(K:Fg)(mg:Str->Option Value)(ae:Heap)(k:Nat)(fa:Addr)(sp:Sp):Prop where
 kp:W.keepIn K (.ref fa)=true
 run:∀(A:Around) (af:List Env) (s:Shared) (H:Hp) (us:List Value) (vs:List V) (Q:VK) (E:XK),cD k A->iT P w K mg ae A af s H->K.In s.heap->aS vs us->sp vs H Q E->
  codeAny (model P w) A (.call (.ref fa) ⟨us,[]⟩) (CR aD af P w H s Q E) s
theorem gK(z:Str):∀zs:List Str,dL (.str z) (zs.map V.str)=decide (z∈zs)
 | []=>rfl
 |y::r=>by
  have ih:=gK z r
  unfold dL at ih|-
  rw[List.map_cons,List.any_cons,ih]
  have e:gZ (.str y) (.str z)=decide (y=z):=by
   by_cases h:y=z<;>simp[gZ,h]
  rw[e,<- Bool.decide_or];congr 1;rw[List.mem_cons];exact propext ⟨fun h=>h.imp Eq.symm id,fun h=>h.imp Eq.symm id⟩
theorem gG:∀zs:List Str,(zs.map V.str).all iP=true
 | []=>rfl
 |y::r=>by
  rw[List.map_cons,List.all_cons,gG r];rfl
structure MthT(K:Fg)(mg:Str->Option Value)(cls m qual:Str)(st:Stmt)(z:Addr×Addr):Prop where
 ex:∃C f fd,mg cls=some (.ref C)/\iF K m qual st f fd/\W.findIn K (.ref C) m=some (some (.ref f))/\W.isFn K (.ref f)=true/\fd.code= .ref z.1
 hd:W.codeHdIn K z.1 z.2=true
theorem rA:fJ X (.builtin "isinstance") (fun xs H Q=>∃x T t k,xs= [x,.ty T] /\fX X.K H x t/\W.kitOne X.K t (.type T)=some k/\Q (.bl k) H):=by
 intro ac s σ H xs us Q I r h;obtain⟨x,T,t,k,rfl,ty,e,q⟩:=h
 cases r with
 |cons r1 rr=>
  cases rr with
  |cons r2 rr=>
   cases rr;cases r2;exact a4j I r1 ty e fun tk=>⟨.bl k,H,I.tok tk,rfl,q⟩
structure LentC(X:Cx)(σ:St)(H:Hp)(f:yK):Prop extends Lent X σ H f where
 only:∀b o,f b=some o->∃v,o.data= .cell v
section
variable{k:Nat}{p:Pos}{o:Expr}{t:TA}{E:XK}
theorem a15(G:dM X.prog X.w X.K X.mg X.base CX k C ps sp)(hr:cD (k+ 1) X.A)(hm:X.mg x=some (.ref C))(hx:fR CX X E)(hg:Gl X x:=by rfl)(hdb:(x==("__debug__":Str))=false:=by decide):
 PE X (.Call (.Name x p) [] [] pos) (pK C sp [] E gC):=by
 obtain⟨f,fd,F,M,hb⟩:=G.ex;exact a2y M F hr hg hm hb .nil hx hdb
end
def a2L(r r' r'':R2)(ta tb tc td:TE):TE:=fun σ H Q=>ta σ H fun x H1=>tb σ H1 fun y H2=>r x y H2 fun z H3=>∃k,z= .bl k/\
 (if k=true then tc σ H3 fun w' H4=>r' y w' H4 fun z H5=>∃k,z= .bl k/\(if k=true then td σ H5 fun v' H6=>r'' w' v' H6 Q else Q (.bl false) H5) else Q (.bl false) H3)
section
variable{a b c d:Expr}{tb td:TE}
theorem a14{op op' op'':CmpOp}{r' r'':R2}(ho:cM X (compareOp op) r)(ho':cM X (compareOp op') r')(ho'':cM X (compareOp op'') r'')(ha:PE X a ta)(hb:PE X b tb)(hc:PE X c tc)(hd:PE X d td)
 (hm:lastMarks [op,op',op''] [b,c,d]=false:=by with_unfolding_all rfl):PT X (.Compare a [op,op',op''] [b,c,d] pos) (uE (a2L r r' r'' ta tb tc td)):=by
 intro ac s σ H Q I h;refine isTrue_chain (aP (ha ac s σ H _ I h) fun v s1 h1=> ?_) hm;obtain⟨x,H1,I1,r1,q1⟩:=h1;refine test_link (aP (hb ac s1 σ H1 _ I1 q1) fun u s2 h2=> ?_);obtain⟨y,H2,I2,r2,q2⟩:=h2;refine aP (ho ac s2 σ H2 x y v u _ I2 r1 r2 q2) fun e s3 h3=> ?_
 obtain⟨z,H3,I3,r3,k,ek,q3⟩:=h3;subst ek;cases r3;refine wpAny_truthy_bool ?_
 cases k with
 |false=>
  obtain⟨k',e',q'⟩:=q3;cases e';exact ite_ff ⟨H3,I3,q'⟩
 |true=>
  refine ite_tt (test_link (aP (hc ac s3 σ H3 _ I3 q3) fun w' s4 h4=> ?_));obtain⟨z',H4,I4,r4,q4⟩:=h4;refine aP (ho' ac s4 σ H4 y z' u w' _ I4 r2 r4 q4) fun d' s5 h5=> ?_
  obtain⟨z2,H5,I5,r5,k2,e2,q5⟩:=h5;subst e2;cases r5;refine wpAny_truthy_bool ?_
  cases k2 with
  |false=>
   obtain⟨k',e',q'⟩:=q5;cases e';exact ite_ff ⟨H5,I5,q'⟩
  |true=>
   refine ite_tt (test_last (aP (hd ac s5 σ H5 _ I5 q5) ?_));rintro w'' s6 ⟨z'',H6,I6,r6,q6⟩;refine aP (ho'' ac s6 σ H6 z' z'' w' w'' _ I6 r4 r6 q6) ?_;rintro d'' s7 ⟨z3,H7,I7,r7,k3,e3,q7⟩;refine ?_;subst e3;cases r7;exact wpAny_truthy_bool ⟨H7,I7,q7⟩
end
def SetO(P:Program)(w:World)(D:Addr)(S:Str->Bool)(n:Nat):HO:=.ext fun h=>h.SetOf (strKind P w) D S n
end L2
namespace L2
open PySem PySem.W PyProof.Rows
noncomputable def zH {α:Type} (lt:Nat->Nat->Bool):KasT α->α
 | .ret a=>a
 | .ask i j k=>zH lt (k (lt i j))
def fZ{α:Type}(n:Nat)(R:α->Prop):KasT α->Prop
 | .ret a=>R a
 | .ask i j k=>i<n/\j<n/\∀b,fZ n R (k b)
theorem fZ.bind{α β:Type}{n:Nat}{f:α->KasT β}{R:α->Prop}{R':β->Prop}:∀{t:KasT α},fZ n R t->(∀a,R a->fZ n R' (f a))->fZ n R' (t.bind f)
 | .ret a,h,hf=>hf a h
 | .ask i j k,⟨h1,h2,h3⟩,hf=>⟨h1,h2,fun b=>fZ.bind (h3 b) hf⟩
theorem fZ.wp{α:Type}{n:Nat}{R:α->Prop}{lt:Nat->Nat->Bool}{cmp:Nat->Nat->(Bool->Shared->Prop)->Shared->Prop}{J:Shared->Prop}(hc:∀i j C s,i<n->j<n->J s->(∀s',J s'->C (lt i j) s')->cmp i j C s){Q:α->Shared->Prop}:∀{t:KasT α} {s:Shared},fZ n R t->J s->(∀s',J s'->Q (zH lt t) s')->t.kasWp cmp Q s
 | .ret a,s,_,j,q=>q s j
 | .ask i j k,s,⟨h1,h2,h3⟩,js,q=>hc i j _ s h1 h2 js fun s' js'=>fZ.wp hc (h3 _) js' q
where fZ.mono {α:Type} {n:Nat} {R R':α->Prop} (hR:∀a,R a->R' a):∀{t:KasT α},fZ n R t->fZ n R' t
 | .ret a,h=>hR a h
 | .ask i j k,⟨h1,h2,h3⟩=>⟨h1,h2,fun b=>fZ.mono hR (h3 b)⟩
section
variable{lt:Nat->Nat->Bool}
structure Swo(lt:Nat->Nat->Bool):Prop where
 as:∀{i j},lt i j=true->lt j i=false
 tr:∀{i j k},lt j i=false->lt k j=false->lt k i=false
def SK(lt:Nat->Nat->Bool)(i j:Nat):Prop:=lt j i=false/\(lt i j=true\/ i<j)
structure Pf(n:Nat)(p:Array Nat)(a:Nat):Prop where
 sz:p.size=n
 pm:p.Perm (List.toArray (List.range n))
 un:∀k,a<=k->k<n->p.getD k 0=k
 pr:∀k,k<a->p.getD k 0<a
def Dd(lt:Nat->Nat->Bool)(p:Array Nat)(a:Nat):Prop:=∀i j,i<j->j<a->SK lt (p.getD j 0) (p.getD i 0)
structure Dn(lt:Nat->Nat->Bool)(n:Nat)(p:Array Nat)(m q:Nat):Prop where
 qm:q+ 1<=m
 mn:m<=n
 f:Pf n p (m- (q+ 1))
 d:Dd lt p (m- q)
 e:∀k,m- q<=k->k<m->lt k (k- 1)=false/\lt (k- 1) k=false
end
end L2
namespace L2
open PySem PySem.Spec PySem.W PyProof.Rows
section
variable{s:Shared}
structure Cmp(prog:Program)(w:World)(A:Around)(s:Shared)(vs:List Value)(κ:SortKind)(lt:Nat->Nat->Bool):Prop where
 kind:2<=vs.length->∀(h':Heap) (tk:Nat),(∀b o,s.heap.get? b=some o->h'.get? b=some o)->∀Q':SortKind->Shared->Prop,(∀tk',Q' κ {s with heap:=h',toks:=tk'})->wpAny (model prog w) A (keyKind' vs.toArray) Q' (fun _ _=>False) {s with heap:=h',toks:=tk}
 ask:∀(h':Heap) (tk:Nat),(∀b o,s.heap.get? b=some o->h'.get? b=some o)->∀(i j:Nat) (C:Bool->Shared->Prop),i<vs.length->j<vs.length->(∀tk',C (lt i j) {s with heap:=h',toks:=tk'})->kas_ask prog w A κ vs i j C {s with heap:=h',toks:=tk}
end
end L2
namespace L2
open PySem PySem.Spec PyProof.Rows
theorem a43:typeLookup (.type "list") "keys"=pure none:=by rw[typeLookup_type,builtinLookup_eq_fast];kernel_rfl
theorem a2q{s:Shared}{xs:Array Value}{k:Nat}{sl:Array (Option Value)}{Q:Option Value->Shared->Prop}(hA:A.handled=none)(ho:s.heap.get? a=some {cls:=.type "list",dict:=none,data:=.seq xs k,slots:=sl})
 (h:∀h' tk,(∀b o,s.heap.get? b=some o->h'.get? b=some o)->Q none {s with heap:=h',toks:=tk}):wpAny (model prog w) A (getAttr? (.ref a) "keys") Q E s:=by
 obtain⟨hp,g,d,tk,os⟩:=s;have hT:(⟨hp,g,d,tk,os⟩:Shared).TypeIs (.ref a) "list":=⟨_,ho,rfl⟩;have hT1:∀t',(⟨hp,g,d,t',os⟩:Shared).TypeIs (.ref a) "list":=fun t'=>⟨_,ho,rfl⟩
 have f1:=sub_AttributeError;have f3:=F.slot_list_getattribute.lookup;have f4:=F.slot_list_getattribute.bind (.ref a);have f5:=am_list_getattr_none;unfold getAttr? getAttrBy? getAttrBy
 repeat (any_goals (first|assumption|exact hT1 _|((with_reducible show wpAny _ _ (call (Value.builtin "list.__getattribute__") _ _) _ _ _);refine call_meets F.slot_list_getattribute (hT1 _) am_entry_list_getattribute (F.args_list_getattribute_2 _ _) (meets_getattribute_miss_list a xs k sl "keys" _ a43 (by decide+kernel)) ⟨ho,hA,fun h' tk' e hx=> ?_⟩)|wp_step))
 obtain⟨t',u',he⟩:=hx.there;show wpAny _ _ (getattributeRaised _ _ _ _ _ _ _) _ _ _;unfold getattributeRaised
 repeat (any_goals (first|assumption|wp_step))
 exact h h' tk' hx.keeps
noncomputable def fU {α:Type} (ps:List (Str×α)) (n:Nat):List (aB×α):=(ps.take n).map fun p=>((.inr p.1:aB),p.2)
theorem a18{α:Type}{ps:List (Str×α)}{p:Str×α}(h:ps[n]?=some p):fU ps (n+ 1)=fU ps n++ [((.inr p.1:aB),p.2)]:=by
 unfold fU;rw[List.take_add_one,h,List.map_append];rfl
theorem a32{α:Type}{ps:List (Str×α)}{p:Str×α}(nd:(ps.map (·.1)).Nodup)(h:ps[n]?=some p):∀kv∈fU ps n,kv.1≠(.inr p.1:aB):=fun kv hk e=>by
 obtain⟨q,hq,rfl⟩:=List.mem_map.mp hk;obtain⟨j,hj⟩:=List.getElem?_of_mem hq;rw[List.getElem?_take]at hj;split at hj
 ·have e:q.1=p.1:=Sum.inr.inj e
  have e1:(ps.map (·.1))[j]?=some p.1:=by rw[List.getElem?_map,hj,<- e];rfl
  have e2:(ps.map (·.1))[n]?=some p.1:=by rw[List.getElem?_map,h];rfl
  have:=(List.getElem?_inj (List.getElem?_eq_some_iff.mp e1).1 nd).mp (e1.trans e2.symm);omega
 ·cases hj
def a1n(h:Heap)(d it:Addr)(items:List Value)(ps:List (Str×Value)):Prop:=items.length=ps.length/\∀(i:Nat) (p:Str×Value),ps[i]?=some p->∃(a:Addr) (o:Obj) (t:Tok) (n:Nat),items[i]?=some (.ref a)/\a≠d/\a≠it/\h.get? a=some o/\o.cls= .type "tuple" /\o.data= .seq #[.str p.1 t,p.2] n
section
variable{R:Result->Shared->Prop}
theorem a13(hh:A.handled=none){d:Addr}{items:List Value}{ps:List (Str×Value)}(hli:l≠it)(hld:l≠d)(hdi:d≠it)(hsz:items.length<=sizeLine)(nd:(ps.map (·.1)).Nodup):
 ∀(k i:Nat) (s:Shared),items.length- i=k->i<=items.length->s.heap.IsListIter it l i->s.heap.IsList l items.toArray->a1n s.heap d it items ps->s.heap.DictOf (cP prog w) d (fU ps i)->
  (∀h' tk,h'.DictOf (cP prog w) d (fU ps ps.length)->(∀b o,b≠it->b≠d->s.heap.get? b=some o->h'.get? b=some o)->R (.ok (.ret .none)) {s with heap:=h',toks:=tk})->
  codeAny (model prog w) A (.builtin "dict.update.loop" ⟨[.ref d,.ref it,rawInt i,.none],[]⟩) R s:=by
 intro k
 induction k with
 |zero=>
  intro i s hk hi hit hl hp hd hR
  have hin:i=items.length:=by omega
  subst hin;refine codeAny_builtin yG ?_;rw[Around.under_plainId pF _];show wpAny _ A.in1 (pyNext (.ref it)>>=_) _ _ s;refine wpAny_bind (wpAny_pyNext_list_end hh hit hl (by simp) fun h' hx=> ?_);show wpAny _ A.in1 (Builtin.Dict.addKeywords d []>>=_) _ _ _;refine wpAny_bind (wpAny_pure ?_);rw[hp.1]at hd;refine wpAny_pure (hR h' s.toks ?_ fun b o hb _ x=>hx b o hb x);obtain⟨o,es,ep,ho,r⟩:=hd;exact⟨o,es,ep,hx d o hdi ho,r⟩
 |succ k ih=>
  intro i s hk hi hit hl hp hd hR
  have hlt:i<items.length:=by omega
  obtain⟨p,hpi⟩:∃p,ps[i]?=some p:=⟨_,List.getElem?_eq_getElem (by rw[<- hp.1];exact hlt)⟩;obtain⟨a,o,t,n,hx,nad,nai,ho,hc,hda⟩:=hp.2 i p hpi;refine codeAny_builtin yG ?_;rw[Around.under_plainId pF _];show wpAny _ A.in1 (pyNext (.ref it)>>=_) _ _ s;refine wpAny_bind (wpAny_pyNext_list_item hit hl (by simpa using hx) fun h' hit' sb=> ?_);have ho':h'.get? a=some o:=(sb.2 a nai).trans ho;show wpAny _ A.in1 (holding [Value.ref a] _>>=_) _ _ _;refine wpAny_bind (wpAny_holding ?_);refine wpAny_bind (wpAny_tryCatch ?_);unfold Builtin.Dict.pairItems;refine wpAny_bind (wpAny_typeOf (T:= "tuple") (s:={s with heap:=h'}) ⟨_,ho',hc⟩ ?_);rw[if_pos (by decide)];refine wpAny_bind (wpAny_seqItems (s:={s with heap:=h'}) ho' hda ?_);refine wpAny_pure ?_;show wpAny _ A.in1 (holding [Value.str p.1 t,p.2] (dictSet d (Value.str p.1 t) p.2)) _ _ _
  have hd':h'.DictOf (cP prog w) d (fU ps i):=by
   obtain⟨o,es,ep,ho,r⟩:=hd;exact⟨o,es,ep,(sb.2 d hdi).trans ho,r⟩
  refine wpAny_holding (wpAny_dictSet_pairs (s:={s with heap:=h'}) (hsz:=by unfold fU;rw[List.length_map,List.length_take];have:=hp.1;omega) (knd:=cP prog w) (k:=(.inr p.1:aB)) (jT (k:=(.inr p.1:aB)) ⟨t,rfl⟩) hd' fun h2 hd2 hs2=> ?_)
  have e1:stored (fU ps i) (.inr p.1:aB) p.2=fU ps (i+ 1):=by
   rw[a18 hpi];unfold stored;rw[if_neg];intro hany;obtain⟨kv,h1,h2⟩:=List.any_eq_true.mp hany;exact a32 nd hpi kv h1 (of_decide_eq_true h2)
  rw[e1]at hd2;have oth:∀b o,b≠it->b≠d->s.heap.get? b=some o->h2.get? b=some o:=fun b o h2 h3 x=>(hs2.2 b h3).trans ((sb.2 b h2).trans x)
  have hc':((i:Int)+ 1)=((i+ 1:Nat):Int):=by push_cast;rfl
  show wpAny _ A.in1 (again _) _ _ _;refine wpAny_pure ⟨plainId_quiet pF _,?_⟩;show codeAny _ A (.builtin "dict.update.loop" ⟨[.ref d,.ref it,rawInt ((i:Int)+ 1),.none],[]⟩) R _;rw[hc'];refine ih (i+ 1) _ (by omega) hlt (hit'.at fun o x=>(hs2.2 it hdi.symm).trans x) (hl.at fun o x=>oth l o hli hld x) ⟨hp.1,fun j pj hj=> ?_⟩ hd2 fun h3 tk3 hd3 hk3=>hR h3 tk3 hd3 fun b o h2 h3' x=>hk3 b o h2 h3' (oth b o h2 h3' x)
  obtain⟨a',o',t',n',g1,g2,g3,g4,g5,g6⟩:=hp.2 j pj hj;exact⟨a',o',t',n',g1,g2,g3,oth a' o' g3 g2 g4,g5,g6⟩
end
section
variable{s:Shared}
theorem a1B(hh:A.handled=none){items:List Value}{ps:List (Str×Value)}{sl:Array (Option Value)}(hl:s.heap.get? l=some {cls:=.type "list",dict:=none,data:=.seq items.toArray n,slots:=sl})(hsz:items.length<=sizeLine)(nd:(ps.map (·.1)).Nodup)
 (hp:items.length=ps.length/\∀(i:Nat) (p:Str×Value),ps[i]?=some p->∃(a:Addr) (o:Obj) (t:Tok) (n:Nat),items[i]?=some (.ref a)/\s.heap.get? a=some o/\o.cls= .type "tuple" /\o.data= .seq #[.str p.1 t,p.2] n)
 (hQ:∀h' tk,h'.DictOf (cP prog w) s.heap.objs.size (fU ps ps.length)->(∀b o,s.heap.get? b=some o->h'.get? b=some o)->Q (.ref s.heap.objs.size) {s with heap:=h',toks:=tk}):
 wpAny (model prog w) A (call (.type "dict") [.ref l]) Q E s:=by
 refine callType_codes (Q₁:=fun obj s₁=>obj= .ref s.heap.objs.size/\s₁={s with heap:=s.heap.push {cls:=.type "dict",data:=.dict #[]}}) F.kt_called_dict (F.kt_typeCall_dict_1 _) F.entry_dict_init (kt_code_dict_new _ ⟨rfl,rfl⟩) ?_;rintro obj s₁ ⟨rfl,rfl⟩;have hnew:(s.heap.push {cls:=.type "dict",data:=.dict #[]}).DictOf (cP prog w) s.heap.objs.size []:=Heap.DictOf.new s.heap;have hl1:(s.heap.push {cls:=.type "dict",data:=.dict #[]}).get? l=some {cls:=.type "list",dict:=none,data:=.seq items.toArray n,slots:=sl}:=Heap.get?_push_of_some _ hl;have ltl:l<s.heap.objs.size:=Heap.lt_size hl;refine⟨hnew.typeIs,F.args_dict_init_2 _ _,?_⟩;unfold Builtin.«dict.__init__»;refine wpAny_bind ?_;unfold Builtin.Dict.selfAndRest;refine wpAny_bind (wpAny_notOrdered_dict hnew.typeIs ?_);show wpAny _ _ (pure (s.heap.objs.size,[Value.ref l])) _ _ _;refine wpAny_pure ?_;show wpAny _ _ (Builtin.Dict.updateFrom "dict.__init__" s.heap.objs.size (.ref l) [] .none) _ _ _;unfold Builtin.Dict.updateFrom;refine wpAny_bind (wpAny_typeOf (T:= "list") ⟨_,hl1,rfl⟩ ?_);rw[if_pos (by decide)];refine wpAny_bind (a2q (s:={s with heap:=s.heap.push {cls:=.type "dict",data:=.dict #[]}}) hh hl1 fun h1 tk1 hk1=> ?_);rw[if_pos (by decide)];refine wpAny_bind (wpAny_rule ?_);have hl2:=hk1 _ _ hl1;have hk2:∀b o,s.heap.get? b=some o->h1.get? b=some o:=fun b o x=>hk1 b o (Heap.get?_push_of_some _ x)
 have il:h1.IsList l items.toArray:=⟨_,hl2,rfl,_,rfl⟩
 have hd1:h1.DictOf (cP prog w) s.heap.objs.size (fU ps 0):=by
  obtain⟨o,es,ep,ho,r⟩:=hnew;exact⟨o,es,ep,hk1 _ _ ho,r⟩
 have ltd:s.heap.objs.size<h1.objs.size:=let ⟨_,_,_,ho,_⟩:=hd1;Heap.lt_size ho;refine wpAny_bind (wpAny_pyIter_list (s:={s with heap:=h1,toks:=tk1}) il ?_);refine wpAny_pure ⟨plainId_quiet pF _,?_⟩;have kp:∀b o,h1.get? b=some o->(h1.push {cls:=.type "list_iterator",data:=.fields #[.ref l,.int 0 0]}).get? b=some o:=fun b o x=>Heap.get?_push_of_some _ x
 refine a13 (A:=A.in1) hh (it:=h1.objs.size) (Nat.ne_of_lt (Heap.lt_size hl2)) (Nat.ne_of_lt ltl) (Nat.ne_of_lt ltd) hsz nd items.length 0 {s with heap:=h1.push {cls:=.type "list_iterator",data:=.fields #[.ref l,.int 0 0]},toks:=tk1} rfl (Nat.zero_le _) ⟨_,Heap.get?_push_size _ rfl,rfl,rfl⟩ (il.push _) ⟨hp.1,fun i p hpi=> ?_⟩ ?_ fun h3 tk3 hd3 hk3=> ?_
 ·obtain⟨a,o,t,n',g1,g2,g3,g4⟩:=hp.2 i p hpi
  exact⟨a,o,t,n',g1,Nat.ne_of_lt (Heap.lt_size g2),Nat.ne_of_lt (Heap.lt_size (hk2 _ _ g2)),kp _ _ (hk2 _ _ g2),g3,g4⟩
 ·obtain⟨o,es,ep,ho,r⟩:=hd1
  exact⟨o,es,ep,kp _ _ ho,r⟩
 ·exact⟨rfl,hQ h3 tk3 hd3 fun b o x=>hk3 b o (Nat.ne_of_lt (Heap.lt_size (hk2 b o x))) (Nat.ne_of_lt (Heap.lt_size x)) (kp _ _ (hk2 b o x))⟩
end
def jN(K:Fg)(H:Hp):List V->List (Str×V)->Prop:=Paired fun x p=>∃a,x= .ref a/\dG K H a [.str p.1,p.2]
section
theorem a4y(hc:X.calm=true):fJ X (.type "dict") (fun xs H Q=>∃(l:Addr) (ys:List V) (ps:List (Str×V)),xs= [.ref l] /\aN X.K H l ys/\jN X.K H ys ps/\(ps.map (·.1)).Nodup/\∀d,H d=none->Q (.ref d) (upd H d (.dK (ps.map fun p=>((.inr p.1:aB),p.2))))):=by
 intro ac s σ H xs us Q I r h;obtain⟨l,ys,ps,rfl,hq,hp,nd,q⟩:=h;obtain⟨u,rfl,ru⟩:=r.one;cases ru;obtain⟨its,rv,pl,hz⟩:=I.list hq;have hl:ys.length=its.length:=rv.length;have hlp:ys.length=ps.length:=Paired.length hp
 have ex:∃qs:List (Str×Value),KV (ps.map fun p=>((.inr p.1:aB),p.2)) (qs.map fun p=>((.inr p.1:aB),p.2))/\qs.map (·.1)=ps.map (·.1)/\its.length=qs.length/\∀(i:Nat) (p:Str×Value),qs[i]?=some p->∃(a:Addr) (o:Obj) (t:Tok) (n:Nat),its[i]?=some (.ref a)/\s.heap.get? a=some o/\o.cls= .type "tuple" /\o.data= .seq #[.str p.1 t,p.2] n:=by
  clear nd hlp hl hz pl hq q r
  induction hp generalizing its with
  |nil=>cases rv;exact⟨[],.nil,rfl,rfl,fun i p h=>by simp at h⟩
  |cons h t ih=>
   cases rv with
   |cons r1 rr=>
    obtain⟨a,rfl,h⟩:=h;cases r1;obtain⟨its2,rv2,⟨o,ho,hc,n,hd⟩,_⟩:=I.tuple h;obtain⟨p1,u,rfl,rp,ru⟩:=rv2.two;obtain⟨t',rfl⟩:=rp;obtain⟨qs,k1,k2,k3,k4⟩:=ih _ rr;refine⟨(_,u)::qs,.cons ⟨rfl,ru⟩ k1,by rw[List.map_cons,List.map_cons,k2],by rw[List.length_cons,List.length_cons,k3],fun i p hi=> ?_⟩
    cases i with
    |zero=>cases hi;exact⟨a,o,t',n,rfl,ho,hc,hd⟩
    |succ i=>simpa using k4 i p (by simpa using hi)
 obtain⟨qs,k1,k2,k3,k4⟩:=ex;obtain⟨o,n,e,h1,h2,h3⟩:=pl;obtain⟨c,dct,dat,sl'⟩:=o;simp only at h1 h2 h3;subst h1 h2 h3;refine a1B (I.ok.hd hc) e (by omega) (by rw[k2];exact nd) ⟨k3,k4⟩ fun h' tk hd hk=> ?_
 obtain⟨od,es,ep,hod,hrest⟩:=hd;refine⟨.ref s.heap.objs.size,_,I.laid (t':=tk) (a:=s.heap.objs.size) (o:=.dK (ps.map fun p=>((.inr p.1:aB),p.2))) hk (Nat.le_refl _) ?_,rfl,q _ (I.hok.fresh (Nat.le_refl _))⟩;have e0:fU qs qs.length=qs.map fun p=>((.inr p.1:aB),p.2):=by unfold fU;rw[List.take_length]
 rw[e0]at hrest;exact⟨by rw[List.length_map];omega,beq_eq_false_iff_ne.mpr (Nat.ne_of_gt I.big),_,k1,od,es,ep,hod,hrest⟩
end
section
variable{t:TE}
def a2F(X:Cx)(t:TE):TE:=fun σ H Q=>t σ H fun v H'=>∃a o kvs,hZ X a/\H' a=some (.frz o (.dK kvs))/\Q v (upd H' a (.dK kvs))
theorem a24(h:PE X e t):PE X e (a2F X t):=fun ac s σ H Q I hq=>aP (h ac s σ H _ I hq) fun u s' ⟨v,H',I',r,a,o,kvs,nf,e,q⟩=>⟨v,_,I'.thaw nf e,r,q⟩
end
theorem a3X{Q:VK}(Pv:Nat->List V->Hp->Prop)(h0:Pv 0 [] (upd H1 D (.lst [])))
 (hl:∀i ys H,H D=some (.lst ys)->Pv i ys H->H a=some (.frz ob (.dK kvs)))
 (hs:∀i p ys H,kvs[i]?=some p->H D=some (.lst ys)->Pv i ys H->te (some (kV p.1)::fI cp σ) H (kR D Pv i ys))
 (hd:∀ys H,H D=some (.lst ys)->Pv kvs.length ys H->Q (.ref D) H):jP cp lD te σ (kP a ob kvs) D Q H1:=
 pY (n:=kvs.length) Pv h0 (fun i ys H hD p=>⟨fun h=>⟨hl i ys H hD p,h⟩,fun h=>by subst h;exact⟨hl _ ys H hD p,Nat.le_refl _⟩⟩) (fun i ys H v H' hi hD p y=>by
  obtain⟨e,pr,hp,ex⟩:=y;subst e ex
  exact hs i pr ys _ hp hD p) hd
end L2
open PySem
namespace L2
open PyProof.Rows
section
noncomputable def gLst(K:Fg)(n:Nat)(t:iH):TG:=fun v σ H Q=>∃a xs,v= .ref a/\aN K H a xs/\xs.length=n/\t xs σ H Q
theorem nW{k:Nat}{t:iH}(hc:X.calm=true)(h:nC X es t)
 (hn:(assignEach es X.env).length=n:=by rfl)(hst:(assignEach es X.env).findIdx? (·.1)=none:=by rfl):PG X (.Tuple es k pos) (gLst X.K n t):=by
 intro ac s σ H v u Q I r hw;obtain⟨a,xs,e1,hq,hl,hw⟩:=hw;subst e1;cases r;obtain⟨its,rv,ht,hz⟩:=I.list hq;rw[assign_Tuple];unfold PySem.unpack;refine wpAny_bind (wpAny_standAt ?_)
 have e:(assignEach es X.env).length=its.toArray.size:=by simp[hn,<- hl,rv.length]
 rw[hst];refine wpAny_bind ?_;rw[e];refine wpAny_holding (W.kun_itemsOf (I.ok.hd hc) ht.isList fun h' hx=> ?_);have I1:aC X ac σ H {s with heap:=h'}:=I.kept (t':=s.toks) fun b o e=>hx b o (Nat.ne_of_lt (Heap.lt_size e)) e
 exact h ac _ σ H xs _ Q I1 (by simpa using rv) hw
def a0W:V->List V->Hp->VK->Prop:=fun x vs H Q=>∃a kvs,x= .ref a/\vs= [] /\H a=some (.dK kvs)/\Q .non (upd H a (.dK []))
theorem a2A:tJ X "dict.clear" a0W:=by
 intro ac s σ H x vs v us Q I rx rv h;obtain⟨a,kvs,rfl,rfl,e,q⟩:=h;cases rx;cases rv;exact a4V I e fun s' I'=>⟨.non,_,I',rfl,q⟩
end
end L2
namespace L2
open PySem PySem.Spec PyProof.Rows
section
theorem na{a:Str}(h:W.findIn K (.ref C) a=some none):bU K C a:=h
theorem a1d{a b:Str}{t0 t1:Tok}{m:Nat}{sl':Array (Option Value)}(X:K.In h)(G:h.Ns mainGlobals mg)(i:W.nsIn K mainGlobals x=some (some (.ref p)))(j:K.lookup p=some ⟨.type "tuple",od,.seq #[Value.str a t0,Value.str b t1] m,sl'⟩):∃p,mg x=some (.ref p)/\∀H,dG K H p [V.str a,V.str b]:=
 ⟨p,W.mg_of X G i,fun H=> .inr ⟨_,_,_,j,rfl,rfl,sl (by simp),.cons ⟨_,rfl⟩ (.cons ⟨_,rfl⟩ .nil)⟩⟩
end
end L2
namespace My
open PySem L2
def aV(i:Nat):Stmt:=PySem.Challenge.pw_lazycols_k24_given_columns.main.body.getD i (.Pass ⟨0,0,0,0⟩)
abbrev vY:Stmt:=aV 15
abbrev vW:Stmt:=aV 16
abbrev zT:Stmt:=aV 17
abbrev yR:Stmt:=aV 18
abbrev a0L:Stmt:=aV 19
abbrev zF:Stmt:=aV 23
abbrev xL:Stmt:=aV 24
abbrev yB:Stmt:=aV 25
abbrev wZ:Stmt:=aV 26
abbrev xK:Stmt:=aV 27
abbrev a3h:Stmt:=aV 37
abbrev a1o:Stmt:=aV 38
abbrev lI:Stmt:=aV 46
abbrev wI:Stmt:=aV 47
abbrev mX:Stmt:=aV 48
abbrev tI:Stmt:=aV 49
abbrev a0i:Stmt:=aV 50
abbrev xA:Stmt:=aV 51
abbrev a0a:Stmt:=aV 52
abbrev rK:Stmt:=aV 53
abbrev zC:Stmt:=bE (aV 28) 0
abbrev zI:Stmt:=bE (aV 28) 1
abbrev a0u:Stmt:=bE (aV 28) 3
abbrev oT:Stmt:=bE (aV 28) 4
abbrev a0n:Stmt:=bE (aV 28) 5
abbrev a0d:Stmt:=bE (aV 28) 6
abbrev zG:Stmt:=bE (aV 28) 7
abbrev vO:Stmt:=bE (aV 28) 8
abbrev a0w:Stmt:=bE (aV 28) 9
abbrev xB:Stmt:=bE (aV 28) 10
abbrev a0x:Stmt:=bE (aV 28) 11
abbrev nN:Stmt:=bE (aV 28) 12
abbrev xD:Stmt:=bE (aV 28) 13
abbrev vA:Stmt:=bE (aV 30) 0
abbrev a0B:Stmt:=bE (aV 30) 1
abbrev mV:Stmt:=bE (aV 30) 2
abbrev zU:Stmt:=bE (aV 30) 3
abbrev a0K:Stmt:=bE (aV 30) 4
abbrev a1C:Stmt:=bE (aV 30) 5
abbrev wW:Stmt:=bE (aV 31) 0
abbrev wS:Stmt:=bE (aV 31) 1
abbrev zQ:Stmt:=bE (aV 32) 0
abbrev yH:Stmt:=bE (aV 32) 1
abbrev wU:Stmt:=bE (aV 33) 0
abbrev a0I:Stmt:=bE (aV 33) 1
abbrev yJ:Stmt:=bE (aV 34) 0
abbrev a0f:Stmt:=bE (aV 34) 1
abbrev a0D:Stmt:=bE (aV 35) 0
abbrev uX:Stmt:=bE (aV 35) 1
abbrev a3F:Stmt:=bE (aV 42) 0
abbrev a1Q:Stmt:=bE (aV 42) 1
abbrev a0e:Stmt:=bE (aV 43) 0
abbrev yS:Stmt:=bE (aV 43) 1
abbrev vP:Stmt:=bE (aV 43) 2
abbrev a0R:Stmt:=bE (aV 43) 3
abbrev a30:Stmt:=bE (aV 43) 4
abbrev yP:Stmt:=bE (aV 43) 5
abbrev zM:Stmt:=bE (aV 44) 0
abbrev zE:Stmt:=bE (aV 44) 1
abbrev vV:Stmt:=bE (aV 44) 2
abbrev a5n:Stmt:=bE (aV 44) 3
abbrev zB:Stmt:=bE (aV 44) 4
abbrev zL:Stmt:=bE (aV 44) 5
abbrev wC:Stmt:=bE (aV 44) 6
abbrev a0r:Stmt:=bE (aV 44) 8
abbrev xX:Stmt:=bE (aV 44) 9
abbrev a0M:Stmt:=bE (aV 44) 10
abbrev xS:Stmt:=bE (aV 44) 11
abbrev wB:Stmt:=bE (aV 44) 12
abbrev mL:Stmt:=bE (aV 44) 13
abbrev yD:Stmt:=bE (aV 44) 16
abbrev yC:Stmt:=bE (aV 44) 17
abbrev zX:Stmt:=bE (aV 44) 18
abbrev wD:Stmt:=bE (aV 44) 19
abbrev yL:Stmt:=bE (aV 44) 20
abbrev a2G:Stmt:=bE (aV 44) 21
abbrev a2f:Stmt:=bE (aV 44) 22
structure bX(K:Fg)(mg:Str->Option Value)(C:Addr):Prop where
 c:mg "Table"=some (.ref C)
 cl:cX K C
 mks:W.makesIn K C=true
 kc:W.keepIn K (.ref C)=true
 hc:W.findIn K (.ref C) "__class__"=some (some (.builtin "object.__class__"))
 n_row_numbers:bU K C "row_numbers"
 n_fresh_number:bU K C "fresh_number"
 n_kept:bU K C "kept"
 m_init:bC K C "__init__" "Table.__init__" zC
 m_many:bC K C "many" "Table.many" zI
 m_columns:bC K C "columns" "Table.columns" a0u
 m_give:bC K C "give" "Table.give" oT
 m_drop:bC K C "drop" "Table.drop" a0n
 m_put:bC K C "put" "Table.put" a0d
 m_at:bC K C "at" "Table.at" zG
 m_put_in:bC K C "put_in" "Table.put_in" vO
 m_take_out:bC K C "take_out" "Table.take_out" a0w
 m_stand:bC K C "stand" "Table.stand" xB
 m_number_at:bC K C "number_at" "Table.number_at" a0x
 m_row_at:bC K C "row_at" "Table.row_at" nN
 m_check_column:bC K C "check_column" "Table.check_column" xD
structure cF(K:Fg)(mg:Str->Option Value)(C:Addr):Prop where
 c:mg "Board"=some (.ref C)
 cl:cX K C
 mks:W.makesIn K C=true
 kc:W.keepIn K (.ref C)=true
 hc:W.findIn K (.ref C) "__class__"=some (some (.builtin "object.__class__"))
 n_given:bU K C "given"
 n_rules:bU K C "rules"
 n_memory:bU K C "memory"
 n_order:bU K C "order"
 m_init:bC K C "__init__" "Board.__init__" vA
 m_has_column:bC K C "has_column" "Board.has_column" a0B
 m_content:bC K C "content" "Board.content" mV
 m_set_column:bC K C "set_column" "Board.set_column" zU
 m_empty_column:bC K C "empty_column" "Board.empty_column" a0K
 m_outcome:bC K C "outcome" "Board.outcome" a1C
structure qM(K:Fg)(mg:Str->Option Value)(C:Addr):Prop where
 c:mg "TableTold"=some (.ref C)
 cl:cX K C
 mks:W.makesIn K C=true
 kc:W.keepIn K (.ref C)=true
 hc:W.findIn K (.ref C) "__class__"=some (some (.builtin "object.__class__"))
 n_boards:bU K C "boards"
 n_name:bU K C "name"
 n_size:bU K C "size"
 m_init:bC K C "__init__" "TableTold.__init__" wW
 m_take:bC K C "take" "TableTold.take" wS
structure jH(K:Fg)(mg:Str->Option Value)(C:Addr):Prop where
 c:mg "ColumnSet"=some (.ref C)
 cl:cX K C
 mks:W.makesIn K C=true
 kc:W.keepIn K (.ref C)=true
 hc:W.findIn K (.ref C) "__class__"=some (some (.builtin "object.__class__"))
 n_board:bU K C "board"
 n_column:bU K C "column"
 n_after:bU K C "after"
 n_before:bU K C "before"
 m_init:bC K C "__init__" "ColumnSet.__init__" zQ
 m_take:bC K C "take" "ColumnSet.take" yH
structure nH(K:Fg)(mg:Str->Option Value)(C:Addr):Prop where
 c:mg "ValuePut"=some (.ref C)
 cl:cX K C
 mks:W.makesIn K C=true
 kc:W.keepIn K (.ref C)=true
 hc:W.findIn K (.ref C) "__class__"=some (some (.builtin "object.__class__"))
 n_board:bU K C "board"
 n_column:bU K C "column"
 n_place:bU K C "place"
 n_after:bU K C "after"
 n_before:bU K C "before"
 m_init:bC K C "__init__" "ValuePut.__init__" wU
 m_take:bC K C "take" "ValuePut.take" a0I
structure lN(K:Fg)(mg:Str->Option Value)(C:Addr):Prop where
 c:mg "RowPutIn"=some (.ref C)
 cl:cX K C
 mks:W.makesIn K C=true
 kc:W.keepIn K (.ref C)=true
 hc:W.findIn K (.ref C) "__class__"=some (some (.builtin "object.__class__"))
 n_board:bU K C "board"
 n_place:bU K C "place"
 n_after:bU K C "after"
 m_init:bC K C "__init__" "RowPutIn.__init__" yJ
 m_take:bC K C "take" "RowPutIn.take" a0f
structure lY(K:Fg)(mg:Str->Option Value)(C:Addr):Prop where
 c:mg "RowTakenOut"=some (.ref C)
 cl:cX K C
 mks:W.makesIn K C=true
 kc:W.keepIn K (.ref C)=true
 hc:W.findIn K (.ref C) "__class__"=some (some (.builtin "object.__class__"))
 n_board:bU K C "board"
 n_place:bU K C "place"
 n_number:bU K C "number"
 n_before:bU K C "before"
 m_init:bC K C "__init__" "RowTakenOut.__init__" a0D
 m_take:bC K C "take" "RowTakenOut.take" uX
structure a5m(K:Fg)(mg:Str->Option Value)(C:Addr):Prop where
 c:mg "Trial"=some (.ref C)
 cl:cX K C
 mks:W.makesIn K C=true
 kc:W.keepIn K (.ref C)=true
 hc:W.findIn K (.ref C) "__class__"=some (some (.builtin "object.__class__"))
 n_finder:bU K C "finder"
 n_looked:bU K C "looked"
 n_lacking:bU K C "lacking"
 m_init:bC K C "__init__" "Trial.__init__" a3F
 m_look:bC K C "look" "Trial.look" a1Q
structure dZ(K:Fg)(mg:Str->Option Value)(C:Addr):Prop where
 c:mg "Finder"=some (.ref C)
 cl:cX K C
 mks:W.makesIn K C=true
 kc:W.keepIn K (.ref C)=true
 hc:W.findIn K (.ref C) "__class__"=some (some (.builtin "object.__class__"))
 n_boards:bU K C "boards"
 n_found:bU K C "found"
 n_looked:bU K C "looked"
 m_init:bC K C "__init__" "Finder.__init__" a0e
 m_value_of:bC K C "value_of" "Finder.value_of" yS
 m_attempt:bC K C "attempt" "Finder.attempt" vP
 m_gathered:bC K C "gathered" "Finder.gathered" a0R
 m_settle:bC K C "settle" "Finder.settle" a30
 m_knows:bC K C "knows" "Finder.knows" yP
structure dE(K:Fg)(mg:Str->Option Value)(C:Addr):Prop where
 c:mg "Sheet"=some (.ref C)
 cl:cX K C
 mks:W.makesIn K C=true
 kc:W.keepIn K (.ref C)=true
 hc:W.findIn K (.ref C) "__class__"=some (some (.builtin "object.__class__"))
 n_boards:bU K C "boards"
 n_changes:bU K C "changes"
 n_finder:bU K C "finder"
 m_init:bC K C "__init__" "Sheet.__init__" zM
 m_table:bC K C "table" "Sheet.table" zE
 m_give:bC K C "give" "Sheet.give" vV
 m_rule:bC K C "rule" "Sheet.rule" a5n
 m_put:bC K C "put" "Sheet.put" zB
 m_put_in:bC K C "put_in" "Sheet.put_in" zL
 m_take_out:bC K C "take_out" "Sheet.take_out" wC
 m_tables:bC K C "tables" "Sheet.tables" a0r
 m_columns:bC K C "columns" "Sheet.columns" xX
 m_is_ruled:bC K C "is_ruled" "Sheet.is_ruled" a0M
 m_many:bC K C "many" "Sheet.many" xS
 m_cell:bC K C "cell" "Sheet.cell" wB
 m_stretch:bC K C "stretch" "Sheet.stretch" mL
 m_make:bC K C "make" "Sheet.make" yD
 m_board_of:bC K C "board_of" "Sheet.board_of" yC
 m_board_with:bC K C "board_with" "Sheet.board_with" zX
 m_board_for:bC K C "board_for" "Sheet.board_for" wD
 m_check_cell:bC K C "check_cell" "Sheet.check_cell" yL
 m_check_leans:bC K C "check_leans" "Sheet.check_leans" a2G
 m_check_ring:bC K C "check_ring" "Sheet.check_ring" a2f
structure aW(K:Fg)(mg:Str->Option Value):Prop where
 len:mg "len"=none
 isinstance:mg "isinstance"=none
 int:mg "int"=none
 bool:mg "bool"=none
 str:mg "str"=none
 all:mg "all"=none
 range:mg "range"=none
 abs:mg "abs"=none
 list:mg "list"=none
 tuple:mg "tuple"=none
 dict:mg "dict"=none
 reversed:mg "reversed"=none
 ValueError:mg "ValueError"=none
 g_LETTERS:∃t,mg "LETTERS"=some (.str ("abcdefghijklmnopqrstuvwxyz":Str) t)
 g_MOST_LETTERS:∃t,mg "MOST_LETTERS"=some (.int 8 t)
 g_MOST_ROWS:∃t,mg "MOST_ROWS"=some (.int 30 t)
 g_MOST_COLUMNS:∃t,mg "MOST_COLUMNS"=some (.int 8 t)
 g_MOST_TABLES:∃t,mg "MOST_TABLES"=some (.int 4 t)
 g_UNKNOWN:∃p,mg "UNKNOWN"=some (.ref p)/\∀H,dG K H p [V.str ("fault":Str),V.str ("unknown":Str)]
 d_is_whole:dI K mg "is_whole" vY
 d_is_number:dI K mg "is_number" vW
 d_is_name:dI K mg "is_name" zT
 d_is_fault:dI K mg "is_fault" yR
 d_is_value:dI K mg "is_value" a0L
 d_check_size:dI K mg "check_size" zF
 d_check_place:dI K mg "check_place" xL
 d_check_value:dI K mg "check_value" yB
 d_check_values:dI K mg "check_values" wZ
 d_check_row:dI K mg "check_row" xK
 d_ring_from:dI K mg "ring_from" a3h
 d_way_to:dI K mg "way_to" a1o
 d_law_mixed:dI K mg "_law_mixed" lI
 d_law_value:dI K mg "_law_value" wI
 d_law_given:dI K mg "_law_given" mX
 d_law_put_in:dI K mg "_law_put_in" tI
 d_law_change:dI K mg "_law_change" a0i
 d_law_same:dI K mg "_law_same" xA
 d_law_right:dI K mg "_law_right" a0a
 d_law:dI K mg "law" rK
 t_Table:∃C,bX K mg C
 t_Board:∃C,cF K mg C
 t_TableTold:∃C,qM K mg C
 t_ColumnSet:∃C,jH K mg C
 t_ValuePut:∃C,nH K mg C
 t_RowPutIn:∃C,lN K mg C
 t_RowTakenOut:∃C,lY K mg C
 t_Trial:∃C,a5m K mg C
 t_Finder:∃C,dZ K mg C
 t_Sheet:∃C,dE K mg C
abbrev mU:Str:= "abcdefghijklmnopqrstuvwxyz"
noncomputable def kY (c:Nat):Bool:= !(Builtin.Str.occurrences mU ⟨#[c]⟩ 0 mU.length 1).isEmpty
noncomputable def iJ (t:Str):Bool:=decide ((1:Int)<=t.length)&&decide ((t.length:Int)<=8)&&t.cps.toList.all kY
noncomputable def kJ:PyData->Bool
 | .int _=>true
 |_=>false
def iN:PyData->Bool
 | .int i=>decide ((if i<0 then-i else i)<10^ (60:Int).toNat)
 |_=>false
noncomputable def eF:PyData->Bool
 | .str t=>iJ t
 |_=>false
noncomputable def gU:PyData->Bool
 | .tuple [.str z,d]=>decide (z= "fault")&&eF d
 |_=>false
noncomputable def lP (d:PyData):Bool:=iN d||gU d
def qN(d:PyData):Prop:=∀t,d= .str t->t.length<=1000
def nG(d:PyData):Prop:=∀ds,d= .tuple ds->∀e∈ds,qN e
theorem hJ{t:Str}(h:t.length<=1000):qN (.str t):=fun z e=>by cases e;exact h
theorem a3s(h:fQ d≠ .tup):nG d:=fun z e=>by subst e;exact absurd rfl h
theorem a01{ds:List PyData}(h:∀e∈ds,qN e):nG (.tuple ds):=fun z e=>by cases e;exact h
section
variable{ae:Heap}
inductive lC(K:Fg)(vs:List V)(H:Hp)(Q:VK)(E:XK):Prop
 |mk (x:_) (d:_):vs= [x] ->Dt K H x d->Q (.bl (kJ d)) H->lC K vs H Q E
theorem a11:aX ["thing"] ["thing"] (aR vY):={}
theorem pL(T:aW K mg):bA P w K mg ae aD 1 "is_whole" ["thing"] (lC K):=by
 refine T.d_is_whole.known a11 (fun _ _ _ _ _ _ us hl=>eJ (fun _=>rfl) us hl) (fun vs H Q E h=> ?_) (fun f ag A af s H vs Q E hr h=> ?_)
 ·obtain⟨x,a,rfl,_⟩:=h
  rfl
 ·obtain⟨x,d,rfl,hd,q⟩:=h
  refine⟨_,(aH (bM (iX (cA gL rfl T.isinstance fL (aA (pv 0) (aA (fT T.int yE) aE))) (kB (wL (cA gL rfl T.isinstance fL (aA (pv 0) (aA (fT T.bool zA) aE)))))))),?_⟩;refine⟨_,rfl,x,"int",d,_,rfl,hd,zW K _,_,rfl,?_⟩;refine dX (fun h1=> ?_) (fun h1=> ?_)
  ·refine⟨_,rfl,x,"bool",d,_,rfl,hd,xN K _,_,rfl,?_⟩
   have e:(!decide (fQ d=Kd.bl))=kJ d:=by cases d<;>simp[fQ,kJ]at h1|-
   show Q (.bl (!decide (fQ d=Kd.bl))) H;rw[e];exact q
  ·have e:false=kJ d:=by cases d<;>simp[fQ,kJ]at h1|-
   show Q (.bl false) H;rw[e];exact q
inductive gQ(K:Fg)(vs:List V)(H:Hp)(Q:VK)(E:XK):Prop
 |mk (x:_) (d:_):vs= [x] ->Dt K H x d->qN d->(∀H',aJ H H'->Q (.bl (eF d)) H')->gQ K vs H Q E
theorem a05:aX ["thing"] ["thing"] (aR zT):={}
theorem iS(T:aW K mg):bA P w K mg ae aD 1 "is_name" ["thing"] (gQ K):=by
 refine T.d_is_name.known a05 (fun _ _ _ _ _ _ us hl=>eJ (fun _=>rfl) us hl) (fun vs H Q E h=> ?_) (fun f ag A af s H vs Q E hr h=> ?_)
 ·obtain⟨x,a,rfl,_⟩:=h
  rfl
 ·obtain⟨x,d,rfl,hd,hsh,q⟩:=h
  refine⟨_,(aG (bF (PW.pt (dO (cV (cU (cA gL rfl T.isinstance fL (aA (pv 0) (aA (fT T.str yX) aE))) (fun _=>rfl))) (eM (cV (sZ jS jS aT (cA eW rfl T.len dY (aA (pv 0) aE)) (jV T.g_MOST_LETTERS)))))) (aH (bM fA)) bN)
   (aH (bM (cA (vD rfl) rfl T.all vI (aA (nA a0c rfl rfl (by decide) (a3R (pv 0)) (fun _ _ _ _ _=>lO) (fun _ _ _ _ _=>(iV a2D (pv 0) (a4F T.g_LETTERS) (by with_unfolding_all rfl)))) aE))))),?_⟩
  refine⟨_,rfl,x,"str",d,_,rfl,hd,zR K _,_,rfl,?_⟩;by_cases hk:fQ d= .str
  ·obtain⟨t,rfl⟩:∃t,d= .str t:=by cases d<;>simp[fQ]at hk|-
   cases hd;have ht:t.length<=1000:=hsh t rfl;refine bB ?_;refine⟨_,rfl,_,_,rfl,⟨sl ht,rfl⟩,_,_,rfl,rfl,_,rfl,?_⟩;refine dX (fun h1=> ?_) (fun h1=> ?_)
   ·refine⟨_,_,rfl,rfl,_,rfl,?_⟩
    refine dX (fun h2=> ?_) (fun h2=> ?_)
    ·have e:eF (.str t)=false:=by
      show iJ t=false;unfold iJ
      have:decide ((t.length:Int)<=8)=false:=by simpa using h2
      rw[this,Bool.and_false,Bool.false_and]
     rw[<- e];exact q H (aJ.refl H)
    ·have h8:t.cps.size<=8:=by
      have:(t.length:Int)<=8:=by simpa using h2
      show t.length<=8;omega
     refine⟨_,rfl,t,rfl,fun D hD=> ?_⟩;refine a1R (x:=t) (fun i ys H2=>ys=(t.cps.toList.take i).map (fun c=>V.bl (kY c))/\aJ H H2) ⟨rfl,aJ.new hD⟩ ?_ ?_
     ·rintro i c ys H2 hc h2D ⟨rfl,s2⟩
      have hi:i<t.cps.size:=(Array.getElem?_eq_some_iff.mp hc).1;refine⟨_,rfl,_,_,rfl,rfl,h2D,?_,?_,s2.on hD⟩
      ·rw[List.length_map,List.length_take,Array.length_toList]
       exact dQ (by omega)
      ·rw[List.take_add_one,List.map_append,Array.getElem?_toList,hc]
       rfl
     ·rintro ys H2 h2D ⟨rfl,s2⟩
      refine⟨D,t.cps.toList.map kY,rfl,aN.of ?_,?_⟩
      ·rw[h2D,List.take_of_length_le (by simp),List.map_map]
       rfl
      ·have e:eF (.str t)=(t.cps.toList.map kY).all id:=by
        show iJ t=_;unfold iJ;have e1:decide ((1:Int)<=t.length)=true:=h1
        have e2:decide ((t.length:Int)<=8)=true:=by simpa using h2
        rw[e1,e2,Bool.true_and,Bool.true_and,List.all_map];rfl
       rw[<- e];exact q H2 s2
   ·refine⟨_,rfl,?_⟩
    refine cZ ?_
    have e:eF (.str t)=false:=by
     show iJ t=false;unfold iJ
     have:decide ((1:Int)<=t.length)=false:=by simpa using h1
     rw[this,Bool.false_and,Bool.false_and]
    rw[<- e];exact q H (aJ.refl H)
  ·rw[decide_eq_false hk]
   refine cZ (cZ ?_)
   have e:eF d=false:=by cases d<;>simp[fQ]at hk<;>rfl
   rw[<- e];exact q H (aJ.refl H)
inductive uU(K:Fg)(vs:List V)(H:Hp)(Q:VK)(E:XK):Prop
 |mk (x:_) (d:_):vs= [x] ->Dt K H x d->Q (.bl (iN d)) H->uU K vs H Q E
theorem a2V:aX ["thing"] ["thing"] (aR vW):={}
theorem a3b(T:aW K mg):bA P w K mg ae aD 2 "is_number" ["thing"] (uU K):=by
 have G_is_whole:bA P w K mg ae aD 1 "is_whole" ["thing"] (lC K):=pL T;refine T.d_is_number.known a2V (fun _ _ _ _ _ _ us hl=>eJ (fun _=>rfl) us hl) (fun vs H Q E h=> ?_) (fun f ag A af s H vs Q E hr h=> ?_)
 ·obtain⟨x,a,rfl,_⟩:=h
  rfl
 ·obtain⟨x,d,rfl,hd,q⟩:=h
  refine⟨_,(aH (bM (iX (bJ G_is_whole hr.mn aI (aA (pv 0) aE)) (kB (iV mE (cA a2a rfl T.abs a4O (aA (pv 0) aE)) (aY tV aT aT) (cC _)))))),?_⟩;refine⟨_,rfl,x,d,rfl,hd,_,rfl,?_⟩;refine dX (fun h1=> ?_) (fun h1=> ?_)
  ·obtain⟨i,rfl⟩:∃i,d= .int i:=by cases d<;>simp[kJ]at h1|-
   cases hd;exact⟨_,rfl,i,rfl,_,_,rfl,rfl,⟨by decide,by decide,by decide⟩,_,_,rfl,rfl,q⟩
  ·have e:iN d=false:=by cases d<;>simp[kJ]at h1<;>rfl
   show Q (.bl false) H;rw[<- e];exact q
inductive rS(K:Fg)(vs:List V)(H:Hp)(Q:VK)(E:XK):Prop
 |mk (x:_) (d:_):vs= [x] ->Dt K H x d->nG d->(∀H',aJ H H'->Q (.bl (gU d)) H')->rS K vs H Q E
theorem a3v:aX ["thing"] ["thing"] (aR yR):={}
theorem a4n{ds:List PyData}(h:ds.length≠2):gU (.tuple ds)=false:=by
 match ds,h with
 | [],_=>rfl
 | [a],_=>cases a<;>rfl
 | [a,b],h=>exact absurd rfl h
 |a::b::c::r,_=>cases a<;>rfl
theorem a06{ds:List PyData}(h:cY K H xs ds)(l:xs.length=2):∃y z d1 d2,xs= [y,z] /\ds= [d1,d2] /\Dt K H y d1/\Dt K H z d2:=by
 cases h with
 |nil=>cases l
 |cons h2 t=>
  cases t with
  |nil=>cases l
  |cons h3 t2=>
   cases t2 with
   |nil=>exact⟨_,_,_,_,rfl,rfl,h2,h3⟩
   |cons _ _=>exact absurd l (by rw[List.length_cons,List.length_cons,List.length_cons];omega)
theorem a1L(T:aW K mg):bA P w K mg ae aD 2 "is_fault" ["thing"] (rS K):=by
 have G_is_name:bA P w K mg ae aD 1 "is_name" ["thing"] (gQ K):=iS T;refine T.d_is_fault.known a3v (fun _ _ _ _ _ _ us hl=>eJ (fun _=>rfl) us hl) (fun vs H Q E h=> ?_) (fun f ag A af s H vs Q E hr h=> ?_)
 ·obtain⟨x,a,rfl,_⟩:=h
  rfl
 ·obtain⟨x,d,rfl,hd,hsh,q⟩:=h
  refine⟨_,(aG (bF (PW.pt (dO (cV (cU (cA gL rfl T.isinstance fL (aA (pv 0) (aA (fT T.tuple uG) aE))) (fun _=>rfl))) (eM (bW lU (cA eW rfl T.len dY (aA (pv 0) aE)) aT (cC _))))) (aH (bM fA)) bN)
   (aH (bM (iX (cA gL rfl T.isinstance fL (aA (dH kF (pv 0) aT (fun _ _=>rfl)) (aA (fT T.str yX) aE))) (iX (iV mY (dH kF (pv 0) aT (fun _ _=>rfl)) eL (cC _)) (kB (bJ G_is_name hr.mn aI (aA (dH kF (pv 0) aT (fun _ _=>rfl)) aE)))))))),?_⟩
  refine⟨_,rfl,x,"tuple",d,_,rfl,hd,pC K _,_,rfl,?_⟩;by_cases hk:fQ d= .tup
  ·obtain⟨ds,rfl⟩:∃ds,d= .tuple ds:=by cases d<;>simp[fQ]at hk|-
   cases hd with
   | @tup a xs _ hq hall=>
    refine bB ?_;refine⟨_,rfl,_,_,rfl,.inr ⟨_,hq,rfl⟩,rfl,_,rfl,?_⟩;have hl:=hall.length;refine dX (fun h1=> ?_) (fun h1=> ?_)
    ·have h1':xs.length≠2:=by
      intro z;rw[z]at h1;exact absurd h1 (by decide)
     have e:=a4n (ds:=ds) (by rw[<- hl];exact h1');rw[<- e];exact q H (aJ.refl H)
    ·have h1':xs.length=2:=by
      have z:¬(!decide (V.int (xs.length:Int)=V.int 2))=true:=h1
      have z2:(xs.length:Int)=2:=by simpa using z
      omega
     obtain⟨y,z,d1,d2,rfl,rfl,h2,h3⟩:=a06 hall h1';have a0:bV [y,z] 0=some y:=rfl;have a1:bV [y,z] 1=some z:=rfl;refine⟨_,rfl,_,_,_,_,rfl,rfl,hq,a0,y,"str",d1,_,rfl,h2,zR K _,_,rfl,?_⟩;refine dX (fun h4=> ?_) (fun h4=> ?_)
     ·obtain⟨t,rfl⟩:∃t,d1= .str t:=by cases d1<;>simp[fQ]at h4|-
      cases h2;refine⟨_,rfl,_,_,_,_,rfl,rfl,hq,a0,rfl,_,rfl,?_⟩;refine dX (fun h5=> ?_) (fun h5=> ?_)
      ·have h5':t= "fault":=by
        have z5:V.str t=V.str "fault":=by simpa using h5
        exact V.str.inj z5
       refine⟨_,rfl,_,_,_,_,rfl,rfl,hq,a1,z,d2,rfl,h3,hsh _ rfl _ (List.mem_cons_of_mem _ List.mem_cons_self),fun H' s'=> ?_⟩
       ·have e:gU (.tuple [.str t,d2])=eF d2:=by
         show(decide (t= "fault")&&eF d2)=eF d2;rw[decide_eq_true h5',Bool.true_and]
        rw[<- e];exact q H' s'
      ·have h5':t≠ "fault":=fun z5=>h5 (by rw[z5];rfl)
       have e:gU (.tuple [.str t,d2])=false:=by
        show(decide (t= "fault")&&eF d2)=false;rw[decide_eq_false h5',Bool.false_and]
       show Q (.bl false) H;rw[<- e];exact q H (aJ.refl H)
     ·have e:gU (.tuple [d1,d2])=false:=by cases d1<;>simp[fQ]at h4<;>rfl
      show Q (.bl false) H;rw[<- e];exact q H (aJ.refl H)
  ·rw[decide_eq_false hk]
   refine cZ (cZ ?_)
   have e:gU d=false:=by cases d<;>simp[fQ]at hk<;>rfl
   rw[<- e];exact q H (aJ.refl H)
inductive pA(K:Fg)(vs:List V)(H:Hp)(Q:VK)(E:XK):Prop
 |mk (x:_) (d:_):vs= [x] ->Dt K H x d->nG d->(∀H',aJ H H'->Q (.bl (lP d)) H')->pA K vs H Q E
theorem a36:aX ["thing"] ["thing"] (aR a0L):={}
theorem xG(T:aW K mg):bA P w K mg ae aD 3 "is_value" ["thing"] (pA K):=by
 have G_is_number:bA P w K mg ae aD 2 "is_number" ["thing"] (uU K):=a3b T;have G_is_fault:bA P w K mg ae aD 2 "is_fault" ["thing"] (rS K):=a1L T;refine T.d_is_value.known a36 (fun _ _ _ _ _ _ us hl=>eJ (fun _=>rfl) us hl) (fun vs H Q E h=> ?_) (fun f ag A af s H vs Q E hr h=> ?_)
 ·obtain⟨x,a,rfl,_⟩:=h
  rfl
 ·obtain⟨x,d,rfl,hd,hsh,q⟩:=h
  refine⟨_,(aH (bM (a1r (bJ G_is_number hr.mn aI (aA (pv 0) aE)) (kB (bJ G_is_fault hr.mn aI (aA (pv 0) aE)))))),?_⟩;refine⟨_,rfl,x,d,rfl,hd,_,rfl,?_⟩;refine dX (fun h1=> ?_) (fun h1=> ?_)
  ·have e:lP d=true:=by unfold lP;rw[h1,Bool.true_or]
   show Q (.bl true) H;rw[<- e];exact q H (aJ.refl H)
  ·refine⟨_,rfl,x,d,rfl,hd,hsh,fun H' s'=> ?_⟩
   have e:lP d=gU d:=by
    unfold lP
    have:iN d=false:=by simpa using h1
    rw[this,Bool.false_or]
   rw[<- e];exact q H' s'
end
def Nl(t:Str):Prop:=1<=t.length/\t.length<=8/\∀c∈t.cps.toList,c∈mU.cps.toList
theorem Nl.name{t:Str}(h:Nl t):iJ t=true:=by
 unfold iJ
 have a1:decide ((1:Int)<=t.length)=true:=by rw[decide_eq_true_eq];have:=h.1;omega
 have a2:decide ((t.length:Int)<=8)=true:=by rw[decide_eq_true_eq];have:=h.2.1;omega
 have a3:t.cps.toList.all kY=true:=by
  rw[List.all_eq_true];intro c hc
  have:∀c∈mU.cps.toList,kY c=true:=by decide+kernel
  exact this c (h.2.2 c hc)
 rw[a1,a2,a3];rfl
theorem Nl.lay(h:Nl z):PyData.canLay0 (.str z)=true:=by
 obtain⟨⟨l⟩⟩:=z
 have:∀c∈mU.cps.toList,c<128:=by decide+kernel
 exact a5r fun c hc=>this c (h.2.2 c hc)
def fF(r:Addr)(n:Int)(d:Addr):List (Str×V):=[("row_numbers",V.ref r),("fresh_number",V.int n),("kept",V.ref d)]
theorem pM(r:Addr)(n:Int)(d:Addr):(fF r n d).lookup ("row_numbers":Str)=some (.ref r):=rfl
theorem vS(r:Addr)(n:Int)(d:Addr):(fF r n d).lookup ("fresh_number":Str)=some (.int n):=by
 show(match (("fresh_number":Str)==("row_numbers":Str))with|true=>some (V.ref r)|false=>_)=_;rw[show (("fresh_number":Str)==("row_numbers":Str))=false by decide+kernel];rfl
theorem gB(r:Addr)(n:Int)(d:Addr):(fF r n d).lookup ("kept":Str)=some (.ref d):=by
 show(match (("kept":Str)==("row_numbers":Str))with|true=>some (V.ref r)|false=>(match (("kept":Str)==("fresh_number":Str))with|true=>some (V.int n)|false=>_))=_;rw[show (("kept":Str)==("row_numbers":Str))=false by decide+kernel,show(("kept":Str)==("fresh_number":Str))=false by decide+kernel];rfl
theorem cL{r:Addr}{n:Int}{d:Addr}(h:(m==("row_numbers":Str)||m==("fresh_number":Str)||m==("kept":Str))=false:=by decide+kernel):(fF r n d).lookup m=none:=by
 simp only[Bool.or_eq_false_iff]at h;obtain⟨⟨h1,h2⟩,h3⟩:=h;show(match (m==("row_numbers":Str))with|true=>some (V.ref r)|false=>(match (m==("fresh_number":Str))with|true=>some (V.int n)|false=>(match (m==("kept":Str))with|true=>some (V.ref d)|false=>none)))=none;rw[h1,h2,h3]
theorem a1W(r:Addr)(n:Int)(d:Addr):aM "kept" (.ref d) (aM "fresh_number" (.int n) (aM "row_numbers" (.ref r) []))=fF r n d:=by
 show aM "kept" (.ref d) (if("row_numbers":Str)= "fresh_number" then _ else _)=_;rw[if_neg (by decide+kernel)];show(if("row_numbers":Str)= "kept" then _ else _::(if("fresh_number":Str)= "kept" then _ else _))=_;rw[if_neg (by decide+kernel),if_neg (by decide+kernel)];rfl
structure eB(C:Addr)(H:Hp)(p r d:Addr)(xs:List V)(n:Int)(kvs:List (aB×V)):Prop where
 at_:∃dx,H p=some (.ins C dx (fF r n d))
 rows:H r=some (.lst xs)
 kept:H d=some (.dK kvs)
theorem eB.same{r d:Addr}{n:Int}(T:eB C H p r d xs n kvs)(s:aJ H H'):eB C H' p r d xs n kvs:=by
 obtain⟨dx,h⟩:=T.at_;exact⟨⟨dx,s _ _ h⟩,s _ _ T.rows,s _ _ T.kept⟩
def Pv(K:Fg)(H:Hp)(v:V)(d:PyData):Prop:=(∃i,v= .int i/\d= .int i/\iN (.int i)=true)\/ ∃a y,v= .ref a/\H a=some (.tup [.str ("fault":Str),.str y])/\d= .tuple [.str "fault",.str y] /\Nl y
def Vd(d:PyData):Prop:=(∃i,d= .int i/\iN (.int i)=true)\/ ∃y,d= .tuple [.str "fault",.str y] /\Nl y
theorem Pv.dt(h:Pv K H v d):Dt K H v d:=by
 rcases h with⟨i,rfl,rfl,_⟩|⟨a,y,rfl,h,rfl,_⟩
 ·exact .int i
 ·exact .tup (dG.of h) (.cons (.str _) (.cons (.str _) .nil))
theorem Pv.vd(h:Pv K H v d):Vd d:=by
 rcases h with⟨i,rfl,rfl,hb⟩|⟨a,y,rfl,h,rfl,hy⟩
 ·exact .inl ⟨i,rfl,hb⟩
 ·exact .inr ⟨y,rfl,hy⟩
def bS(H H':Hp):Prop:=∀a xs,H a=some (.tup xs)->H' a=some (.tup xs)
theorem bS.of(s:aJ H H'):bS H H':=fun a xs e=>s _ _ e
theorem bS.upd{o':HO}(h:H l=some o)(n:∀xs,o≠ .tup xs):bS H (L2.upd H l o'):=fun a xs e=>by
 rw[aF (fun z=>by rw[z,h]at e;exact n _ (Option.some.inj e))];exact e
theorem Pv.keep(s:bS H H')(h:Pv K H v d):Pv K H' v d:=by
 rcases h with h|⟨a,y,rfl,h,rfl,hy⟩
 ·exact .inl h
 ·exact .inr ⟨a,y,rfl,s _ _ h,rfl,hy⟩
theorem Pv.same(h:Pv K H v d)(s:aJ H H'):Pv K H' v d:=h.keep (bS.of s)
theorem Vd.short(h:Vd d):nG d/\lP d=true:=by
 rcases h with⟨i,rfl,hb⟩|⟨y,rfl,hy⟩
 ·refine⟨a3s (by intro z;cases z),?_⟩
  show(iN (.int i)||gU (.int i))=true;rw[hb];rfl
 ·have l8:=hy.2.1
  refine⟨a01 (by
   intro e he;simp only[List.mem_cons,List.not_mem_nil,or_false]at he
   rcases he with rfl|rfl
   ·exact hJ (by decide)
   ·exact hJ (by omega)),?_⟩
  show(iN _||gU (.tuple [.str "fault",.str y]))=true
  rw[show gU (.tuple [.str "fault",.str y])=true by
   show(decide (("fault":Str)= "fault")&&eF (.str y))=true;rw[decide_eq_true rfl,Bool.true_and]
   exact Nl.name hy,Bool.or_true]
def dC(K:Fg)(H:Hp):List V->List PyData->Prop:=Paired (Pv K H)
theorem dC.keep{K:Fg}{H H':Hp}(s:bS H H'):∀{xs:List V} {ds:List PyData},dC K H xs ds->dC K H' xs ds
 |_,_,.nil=> .nil
 |_,_,.cons h t=> .cons (h.keep s) (dC.keep s t)
theorem dC.dt{K:Fg}{H:Hp}:∀{xs:List V} {ds:List PyData},dC K H xs ds->cY K H xs ds
 |_,_,.nil=> .nil
 |_,_,.cons h t=> .cons h.dt (dC.dt t)
theorem dC.vd{K:Fg}{H:Hp}:∀{xs:List V} {ds:List PyData},dC K H xs ds->∀d∈ds,Vd d
 |_,_,.nil,_,h=>by cases h
 |_,_,.cons h t,d,hd=>by
  rcases List.mem_cons.mp hd with rfl|hd
  ·exact h.vd
  ·exact dC.vd t d hd
section
variable{ae:Heap}
inductive pB(vs:List V)(H:Hp)(Q:VK)(E:XK):Prop
 |mk (m:Nat):vs= [.int (m:Int)] ->m<=30->Q .non H->pB vs H Q E
theorem a3V:aX ["many"] ["many"] (aR zF):={}
theorem wR(T:aW K mg):bA P w K mg ae aD 2 "check_size" ["many"] pB:=by
 have G_is_whole:bA P w K mg ae aD 1 "is_whole" ["thing"] (lC K):=pL T;refine T.d_check_size.known a3V (fun _ _ _ _ _ _ us hl=>eJ (fun _=>rfl) us hl) (fun vs H Q E h=> ?_) (fun f ag A af s H vs Q E hr h=> ?_)
 ·obtain⟨m,rfl,_⟩:=h
  rfl
 ·obtain⟨m,rfl,hm,q⟩:=h
  refine⟨_,(aH (bF (PW.pt (dO (cV (cU (bJ G_is_whole hr.mn aI (aA (pv 0) aE)) (fun _=>rfl))) (eM (cV (sZ jS jS aT (pv 0) (jV T.g_MOST_ROWS)))))) (aH bT) bN)),?_⟩;refine⟨_,rfl,_,.int (m:Int),rfl,.int _,_,rfl,bB ?_⟩;refine⟨_,rfl,_,_,rfl,rfl,_,rfl,?_⟩;rw[decide_eq_true (show(0:Int)<=(m:Int)by omega)];refine cZ ⟨_,_,rfl,rfl,_,rfl,?_⟩;rw[decide_eq_true (show(m:Int)<=30 by omega)];exact bB q
inductive iM(vs:List V)(H:Hp)(Q:VK)(E:XK):Prop
 |mk (p m:Nat):vs= [.int (p:Int),.int (m:Int)] ->p<m->Q .non H->iM vs H Q E
theorem a1m:aX ["place","places"] ["place","places"] (aR xL):={}
theorem kA(T:aW K mg):bA P w K mg ae aD 2 "check_place" ["place","places"] iM:=by
 have G_is_whole:bA P w K mg ae aD 1 "is_whole" ["thing"] (lC K):=pL T;refine T.d_check_place.known a1m (fun _ _ _ _ _ _ us hl=>cT (fun _ _=>rfl) us hl) (fun vs H Q E h=> ?_) (fun f ag A af s H vs Q E hr h=> ?_)
 ·obtain⟨p,m,rfl,_⟩:=h
  rfl
 ·obtain⟨p,m,rfl,hm,q⟩:=h
  refine⟨_,(aH (bF (PW.pt (dO (cV (cU (bJ G_is_whole hr.mn aI (aA (pv 0) aE)) (fun _=>rfl))) (eM (cV (sZ jS mE aT (pv 0) (pv 1)))))) (aH bT) bN)),?_⟩;refine⟨_,rfl,_,.int (p:Int),rfl,.int _,_,rfl,bB ?_⟩;refine⟨_,rfl,_,_,rfl,rfl,_,rfl,?_⟩;rw[decide_eq_true (show(0:Int)<=(p:Int)by omega)];refine cZ ⟨_,rfl,_,_,rfl,rfl,_,rfl,?_⟩;rw[decide_eq_true (show(p:Int)<(m:Int)by omega)];exact bB q
inductive qI(K:Fg)(vs:List V)(H:Hp)(Q:VK)(E:XK):Prop
 |mk (v:_) (d:_):vs= [v] ->Pv K H v d->(∀H',aJ H H'->Q .non H')->qI K vs H Q E
theorem a4T:aX ["value"] ["value"] (aR yB):={}
theorem a0s(T:aW K mg):bA P w K mg ae aD 4 "check_value" ["value"] (qI K):=by
 have G_is_value:bA P w K mg ae aD 3 "is_value" ["thing"] (pA K):=xG T;refine T.d_check_value.known a4T (fun _ _ _ _ _ _ us hl=>eJ (fun _=>rfl) us hl) (fun vs H Q E h=> ?_) (fun f ag A af s H vs Q E hr h=> ?_)
 ·obtain⟨v,d,rfl,_⟩:=h
  rfl
 ·obtain⟨v,d,rfl,hv,q⟩:=h
  refine⟨_,(aH (bF (cV (cU (bJ G_is_value hr.mn aI (aA (pv 0) aE)) (fun _=>rfl))) (aH bT) bN)),?_⟩;refine⟨_,rfl,v,d,rfl,hv.dt,hv.vd.short.1,fun H' s'=>⟨_,rfl,?_⟩⟩;rw[hv.vd.short.2];exact bB (q _ s')
inductive mM(K:Fg)(vs:List V)(H:Hp)(Q:VK)(E:XK):Prop
 |mk (a:Addr) (xs:List V) (ds:List PyData):vs= [.ref a,.int (xs.length:Int)] ->aN K H a xs->dC K H xs ds->xs.length<=1000->(∀H',aJ H H'->Q .non H')->mM K vs H Q E
theorem a4r:aX ["values","many"] ["values","many"] (aR wZ):={}
theorem tH(T:aW K mg):bA P w K mg ae aD 4 "check_values" ["values","many"] (mM K):=by
 have G_is_value:bA P w K mg ae aD 3 "is_value" ["thing"] (pA K):=xG T;refine T.d_check_values.known a4r (fun _ _ _ _ _ _ us hl=>cT (fun _ _=>rfl) us hl) (fun vs H Q E h=> ?_) (fun f ag A af s H vs Q E hr h=> ?_)
 ·obtain⟨a,xs,ds,rfl,_⟩:=h
  rfl
 ·obtain⟨a,xs,ds,rfl,hq,hp,l1000,q⟩:=h
  have hl:xs.length=ds.length:=Paired.length hp;refine⟨_,(aH (bF (PW.pt (dO (cV (cU (cA gL rfl T.isinstance fL (aA (pv 0) (aA (fT T.list gF) aE))) (fun _=>rfl))) (dO (bW lU (cA eW rfl T.len dY (aA (pv 0) aE)) (pv 1) (cC _)) (eM (cV (cU (cA (vD rfl) rfl T.all vI (aA (nA a0c rfl rfl (by decide) (mQ (pv 0)) (fun _ _ _ _ _=>lO) (fun _ _ _ _ _=>(bJ G_is_value hr.mn aI (aA (pv 0) aE)))) aE)) (fun _=>rfl))))))) (aH bT) bN)),?_⟩;refine⟨_,rfl,_,"list",.list ds,_,rfl,.lst hq hp.dt,nS K _,_,rfl,bB ?_⟩;refine⟨_,rfl,_,_,rfl,.inl ⟨_,hq,rfl⟩,_,rfl,rfl,_,rfl,?_⟩;rw[decide_eq_true rfl];refine bB ⟨_,rfl,a,rfl,⟨_,hq⟩,fun D hD=> ?_⟩;refine a41 (K:=K) (a:=a) (xs:=xs) (fun i ys H2=>ys=(List.replicate i (V.bl true))/\aJ H H2) ⟨rfl,aJ.new hD⟩ (fun i ys H2 _ ⟨_,s2⟩=>s2.seq hq) ?_ ?_
  ·rintro i v ys H2 hv h2D ⟨rfl,s2⟩
   obtain⟨e,he,hde⟩:=hp.dt.get hv;have ve:=hp.vd e (List.mem_of_getElem? he);have hi:i<xs.length:=(List.getElem?_eq_some_iff.mp hv).1;refine⟨_,rfl,v,e,rfl,hde.same s2,ve.short.1,fun H3 s3=>⟨s3 _ _ h2D,?_,?_,?_⟩⟩
   ·rw[List.length_replicate]
    exact dQ (by omega)
   ·rw[ve.short.2,List.replicate_succ']
   ·exact(s2.trans s3).on hD
  ·rintro ys H2 h2D ⟨rfl,s2⟩
   refine⟨D,List.replicate xs.length true,rfl,aN.of (by rw[h2D,List.map_replicate]),_,rfl,?_⟩;rw[show (List.replicate xs.length true).all id=true by rw[List.all_eq_true];intro b hb;exact(List.mem_replicate.mp hb).2];exact bB (q _ s2)
inductive sA(K:Fg)(C:Addr)(vs:List V)(H:Hp)(Q:VK)(E:XK):Prop
 |mk (p dx:Addr) (m:Nat):vs= [.ref p,.int (m:Int)] ->H p=some (.ins C dx [])->m<=30->(∀H' r e,eB C H' p r e (fO 0 m) (m:Int) [] ->H r=none->H e=none->r≠e->(∀b o,H b=some o->b≠p->H' b=some o)->Q .non H')->sA K C vs H Q E
theorem a5w:aX ["self","many"] ["self","many"] (aR zC):={}
theorem a5h(T:aW K mg)(Y:bX K mg C):dM P w K mg ae aD 3 C ["self","many"] (sA K C):=by
 have G_check_size:bA P w K mg ae aD 2 "check_size" ["many"] pB:=wR T;refine(Y.m_init.known a5w (fun _ _ _ _ _ _ us hl=>cT (fun _ _=>rfl) us hl) (fun vs H Q E h=> ?_) (fun f ag A af s H vs Q E hr h=> ?_)).init Y.mks Y.kc
 ·obtain⟨p,dx,m,rfl,_⟩:=h
  rfl
 ·obtain⟨p,dx,m,rfl,hp,hm,q1⟩:=h
  refine⟨_,(aG (bL (bJ G_check_size hr.mn aI (aA (pv 1) aE)))
   (aG (bY (pv 0) (gT (a5d rfl) rfl T.list gF (aA (gT a5o rfl T.range a4W (aA (pv 1) aE)) aE)) rfl)
   (aG (bY (pv 0) (cA eW rfl T.len dY (aA (aQ (pv 0) rfl) aE)) rfl)
   (aH (bY (pv 0) kE rfl))))),?_⟩
  refine⟨_,rfl,m,rfl,hm,?_⟩;refine⟨_,rfl,(m:Int),rfl,fun g hg=>⟨g,0,(m:Int),rfl,aK,by omega,by omega,by omega,by omega,by omega,fun r hr0=> ?_⟩⟩;have ngp:p≠g:=bK hp hg;have hgr:r≠g:=fun z=>by rw[z,aK]at hr0;cases hr0
  have hr':H r=none:=by rw[aF hgr]at hr0;exact hr0
  have npr:p≠r:=bK hp hr';rw[Int.sub_zero,Int.toNat_natCast];refine⟨_,rfl,p,C,dx,[],rfl,(by rw[aF npr,aF ngp];exact hp),Y.cl,Y.n_row_numbers,(by show 0<1000;decide),?_⟩;refine⟨_,rfl,p,C,dx,_,_,rfl,aK,Y.cl,Y.n_row_numbers,rfl,_,_,rfl,.inl ⟨_,aN.of (by rw[aF npr.symm,aK]),rfl⟩,?_⟩;refine⟨_,rfl,p,C,dx,_,rfl,aK,Y.cl,Y.n_fresh_number,(by show 1<1000;decide),?_⟩;intro e he;have npe:p≠e:=fun z=>by rw[<- z,aK]at he;cases he
  have nre:r≠e:=fun z=>by rw[<- z,aF npr.symm,aF npr.symm,aK]at he;cases he
  have nge:g≠e:=fun z=>by rw[<- z,aF ngp.symm,aF ngp.symm,aF hgr.symm,aK]at he;cases he
  have he':H e=none:=by rw[aF npe.symm,aF npe.symm,aF nre.symm,aF nge.symm]at he;exact he
  refine⟨_,rfl,p,C,dx,_,rfl,(by rw[aF npe];exact aK),Y.cl,Y.n_kept,(by show(aM "fresh_number" _ (aM "row_numbers" _ [])).length<1000;show(if("row_numbers":Str)= "fresh_number" then _ else _:List (Str×V)).length<1000;rw[if_neg (by decide+kernel)];show 2<1000;decide),?_⟩;refine q1 _ r e ⟨⟨dx,?_⟩,?_,?_⟩ hr' he' nre fun b o hb hbp=> ?_
  ·rw[aK]
   refine congrArg (fun l=>some (HO.ins C dx l)) ?_;have:=a1W r (fO 0 m).length e
   rw[mH]at this|-
   exact this
  ·rw[aF npr.symm,aF nre,aF npr.symm,aF npr.symm,aK]
  ·rw[aF npe.symm,aK]
  ·rw[aF hbp,aF (bK hb he'),aF hbp,aF hbp,aF (bK hb hr'),aF (bK hb hg)]
   exact hb
inductive fB(C:Addr)(vs:List V)(H:Hp)(Q:VK)(E:XK):Prop
 |mk (p:_) (r:_) (d:_) (xs:_) (n:_) (kvs:_):vs= [.ref p] ->eB C H p r d xs n kvs->Q (.int xs.length) H->fB C vs H Q E
theorem a1M:aX ["self"] ["self"] (aR zI):={}
theorem fV(T:aW K mg)(Y:bX K mg C):aL P w K mg ae aD 1 C "many" ["self"] (fB C):=by
 refine Y.m_many.known a1M (fun _ _ _ _ _ _ us hl=>eJ (fun _=>rfl) us hl) (fun vs H Q E h=> ?_) (fun f ag A af s H vs Q E hr h=> ?_)
 ·obtain⟨p,r,d,xs,n,kvs,rfl,_⟩:=h
  rfl
 ·obtain⟨p,r,d,xs,n,kvs,rfl,⟨⟨dx,hp⟩,hr',hd⟩,q⟩:=h
  refine⟨_,(aH (bM (cA eW rfl T.len dY (aA (aQ (pv 0) rfl) aE)))),?_⟩;exact⟨_,rfl,p,C,dx,_,_,rfl,hp,Y.cl,Y.n_row_numbers,pM _ _ _,_,_,rfl,.inl ⟨_,aN.of hr',rfl⟩,q⟩
inductive mR(C:Addr)(vs:List V)(H:Hp)(Q:VK)(E:XK):Prop
 |mk (p:_) (r:_) (d:_) (xs:_) (n:_) (kvs:_) (t:_) (v:_):vs= [.ref p,.str t] ->eB C H p r d xs n kvs->Nl t->aO kvs (.inr t:aB)=some v->(∀H',aJ H H'->Q .non H')->mR C vs H Q E
theorem a3a:aX ["self","column"] ["self","column"] (aR xD):={}
theorem tZ(T:aW K mg)(Y:bX K mg C):aL P w K mg ae aD 2 C "check_column" ["self","column"] (mR C):=by
 have G_is_name:bA P w K mg ae aD 1 "is_name" ["thing"] (gQ K):=iS T;refine Y.m_check_column.known a3a (fun _ _ _ _ _ _ us hl=>cT (fun _ _=>rfl) us hl) (fun vs H Q E h=> ?_) (fun f ag A af s H vs Q E hr h=> ?_)
 ·obtain⟨p,r,d,xs,n,kvs,t,v,rfl,_⟩:=h
  rfl
 ·obtain⟨p,r,d,xs,n,kvs,t,v,rfl,TA,ht,hv,q⟩:=h
  refine⟨_,(aH (bF (PW.pt (dO (cV (cU (bJ G_is_name hr.mn aI (aA (pv 1) aE)) (fun _=>rfl))) (eM (gW (mC (cR hr) (pv 1) (aQ (pv 0) rfl)))))) (aH bT) bN)),?_⟩;have h8:=ht.2.1;refine⟨_,rfl,_,.str t,rfl,.str t,hJ (by omega),fun H' s'=>⟨_,rfl,?_⟩⟩;rw[show eF (.str t)=true from ht.name];obtain⟨⟨dx,h1⟩,_,h3⟩:=TA.same s';refine bB ⟨_,rfl,_,rfl,p,C,dx,_,_,rfl,h1,Y.cl,Y.n_kept,gB _ _ _,d,_,rfl,cG.k (k:=Sum.inr t) h3,_,rfl,?_⟩;rw[hv];exact bB (q _ s')
inductive lL(C:Addr)(vs:List V)(H:Hp)(Q:VK)(E:XK):Prop
 |mk (p:_) (r:_) (d:_) (xs:_) (n:_) (kvs:_) (t:_) (l:_) (ys:_) (i:Nat) (v:V):vs= [.ref p,.str t,.int (i:Int)] ->eB C H p r d xs n kvs->Nl t->aO kvs (.inr t:aB)=some (.ref l)->H l=some (.lst ys)->i<xs.length->bV ys (i:Int)=some v->(∀H',aJ H H'->Q v H')->lL C vs H Q E
theorem a4i:aX ["self","column","place"] ["self","column","place"] (aR zG):={}
theorem tU(T:aW K mg)(Y:bX K mg C):aL P w K mg ae aD 3 C "at" ["self","column","place"] (lL C):=by
 have G_check_column:aL P w K mg ae aD 2 C "check_column" ["self","column"] (mR C):=tZ T Y;have G_check_place:bA P w K mg ae aD 2 "check_place" ["place","places"] iM:=kA T;have G_many:aL P w K mg ae aD 1 C "many" ["self"] (fB C):=fV T Y;refine Y.m_at.known a4i (fun _ _ _ _ _ _ us hl=>gA (fun _ _ _=>rfl) us hl) (fun vs H Q E h=> ?_) (fun f ag A af s H vs Q E hr h=> ?_)
 ·obtain⟨p,r,d,xs,n,kvs,t,l,ys,i,v,rfl,_⟩:=h
  rfl
 ·obtain⟨p,r,d,xs,n,kvs,t,l,ys,i,v,rfl,TA,ht,hv,hl,hi,ha,q⟩:=h
  refine⟨_,(aG (bL (bG (pv 0) Y.cl G_check_column hr.mn aI (aA (pv 1) aE)))
   (aG (bL (bJ G_check_place hr.mn aI (aA (pv 2) (aA (dR (pv 0) Y.cl G_many hr.mn aI) aE))))
   (aH (bM (dH eQ (eN (cR hr) (aQ (pv 0) rfl) (pv 1) (fun _ _=>rfl)) (pv 2) (fun _ _=>rfl)))))),?_⟩
  obtain⟨⟨dx,h1⟩,h2,h3⟩:=id TA;refine⟨_,rfl,p,dx,_,rfl,h1,cL,_,rfl,p,r,d,xs,n,kvs,t,_,rfl,TA,ht,hv,fun H1 s1=> ?_⟩;refine⟨_,rfl,_,rfl,p,dx,_,rfl,s1 _ _ h1,cL,p,r,d,xs,n,kvs,rfl,TA.same s1,i,xs.length,rfl,hi,?_⟩;exact⟨_,rfl,p,C,dx,_,_,rfl,s1 _ _ h1,Y.cl,Y.n_kept,gB _ _ _,_,rfl,d,.ref l,rfl,hv▸cG.k (k:=Sum.inr t) (s1 _ _ h3),_,rfl,l,_,_,v,rfl,rfl,aN.of (s1 _ _ hl),ha,q _ s1⟩
inductive rZ(C:Addr)(vs:List V)(H:Hp)(Q:VK)(E:XK):Prop
 |mk (p:_) (r:_) (d:_) (xs:_) (n:_) (kvs:_) (i:Nat) (v:V):vs= [.ref p,.int (i:Int)] ->eB C H p r d xs n kvs->i<xs.length->bV xs (i:Int)=some v->Q v H->rZ C vs H Q E
theorem a3S:aX ["self","place"] ["self","place"] (aR a0x):={}
theorem a3z(T:aW K mg)(Y:bX K mg C):aL P w K mg ae aD 3 C "number_at" ["self","place"] (rZ C):=by
 have G_check_place:bA P w K mg ae aD 2 "check_place" ["place","places"] iM:=kA T;have G_many:aL P w K mg ae aD 1 C "many" ["self"] (fB C):=fV T Y;refine Y.m_number_at.known a3S (fun _ _ _ _ _ _ us hl=>cT (fun _ _=>rfl) us hl) (fun vs H Q E h=> ?_) (fun f ag A af s H vs Q E hr h=> ?_)
 ·obtain⟨p,r,d,xs,n,kvs,i,v,rfl,_⟩:=h
  rfl
 ·obtain⟨p,r,d,xs,n,kvs,i,v,rfl,TA,hi,ha,q⟩:=h
  refine⟨_,(aG (bL (bJ G_check_place hr.mn aI (aA (pv 1) (aA (dR (pv 0) Y.cl G_many hr.mn aI) aE))))
   (aH (bM (dH eQ (aQ (pv 0) rfl) (pv 1) (fun _ _=>rfl))))),?_⟩
  obtain⟨⟨dx,h1⟩,h2,h3⟩:=id TA;refine⟨_,rfl,_,rfl,p,dx,_,rfl,h1,cL,p,r,d,xs,n,kvs,rfl,TA,i,xs.length,rfl,hi,?_⟩;exact⟨_,rfl,p,C,dx,_,_,rfl,h1,Y.cl,Y.n_row_numbers,pM _ _ _,_,rfl,r,_,_,v,rfl,rfl,aN.of h2,ha,q⟩
inductive rO(K:Fg)(C:Addr)(vs:List V)(H:Hp)(Q:VK)(E:XK):Prop
 |mk (p:_) (r:_) (d:_) (xs:_) (n:_) (kvs:_) (t:_) (l:_) (ys:_) (i:Nat) (v:V) (dv:PyData):vs= [.ref p,.str t,.int (i:Int),v] ->eB C H p r d xs n kvs->Nl t->aO kvs (.inr t:aB)=some (.ref l)->H l=some (.lst ys)->i<xs.length->i<ys.length->Pv K H v dv->(∀H',aJ H H'->Q .non (upd H' l (.lst (ys.set i v))))->rO K C vs H Q E
theorem a4N:aX ["self","column","place","value"] ["self","column","place","value"] (aR a0d):={}
theorem a5f(T:aW K mg)(Y:bX K mg C):aL P w K mg ae aD 5 C "put" ["self","column","place","value"] (rO K C):=by
 have G_check_column:aL P w K mg ae aD 2 C "check_column" ["self","column"] (mR C):=tZ T Y;have G_check_place:bA P w K mg ae aD 2 "check_place" ["place","places"] iM:=kA T;have G_check_value:bA P w K mg ae aD 4 "check_value" ["value"] (qI K):=a0s T;have G_many:aL P w K mg ae aD 1 C "many" ["self"] (fB C):=fV T Y;refine Y.m_put.known a4N (fun _ _ _ _ _ _ us hl=>iD (fun _ _ _ _=>rfl) us hl) (fun vs H Q E h=> ?_) (fun f ag A af s H vs Q E hr h=> ?_)
 ·obtain⟨p,r,d,xs,n,kvs,t,l,ys,i,v,dv,rfl,_⟩:=h
  rfl
 ·obtain⟨p,r,d,xs,n,kvs,t,l,ys,i,v,dv,rfl,TA,ht,hv,hl,hi,hj,hpv,q⟩:=h
  refine⟨_,(aG (bL (bG (pv 0) Y.cl G_check_column hr.mn aI (aA (pv 1) aE)))
   (aG (bL (bJ G_check_place hr.mn aI (aA (pv 2) (aA (dR (pv 0) Y.cl G_many hr.mn aI) aE))))
   (aG (bL (bJ G_check_value hr.mn aI (aA (pv 3) aE)))
   (aH (jB (pv 3) (oA (eN (cR hr) (aQ (pv 0) rfl) (pv 1) (fun _ _=>rfl)) (pv 2) qD (fun _=>rfl))))))),?_⟩
  obtain⟨⟨dx,h1⟩,h2,h3⟩:=id TA;refine⟨_,rfl,p,dx,_,rfl,h1,cL,_,rfl,p,r,d,xs,n,kvs,t,_,rfl,TA,ht,hv,fun H1 s1=> ?_⟩;refine⟨_,rfl,_,rfl,p,dx,_,rfl,s1 _ _ h1,cL,p,r,d,xs,n,kvs,rfl,TA.same s1,i,xs.length,rfl,hi,?_⟩;refine⟨_,rfl,v,dv,rfl,hpv.same s1,fun H2 s2=> ?_⟩;have s12:=s1.trans s2
  have hx:gD ys.length (i:Int)=some i:=by rw[uQ (by omega) (by omega),Int.toNat_natCast]
  exact⟨_,rfl,_,rfl,p,C,dx,_,_,rfl,s12 _ _ h1,Y.cl,Y.n_kept,gB _ _ _,_,rfl,d,.ref l,rfl,hv▸cG.k (k:=Sum.inr t) (s12 _ _ h3),_,rfl,l,ys,_,i,rfl,rfl,s12 _ _ hl,hx,q _ s12⟩
inductive oN(K:Fg)(C:Addr)(vs:List V)(H:Hp)(Q:VK)(E:XK):Prop
 |mk (p:_) (r:_) (d:_) (xs:_) (n:_) (kvs:_) (t:_) (a:_) (ys:_) (ds:_):vs= [.ref p,.str t,.ref a] ->eB C H p r d xs n kvs->Nl t->((aO kvs (.inr t:aB)).isSome=true\/ kvs.length<8)->kvs.length<=1000->aN K H a ys->dC K H ys ds->ys.length=xs.length->ys.length<=1000->(∀H' l,aJ H H'->H' l=none->Q .non (upd (upd H' l (.lst ys)) d (.dK (bH kvs (.inr t:aB) (.ref l)))))->oN K C vs H Q E
theorem a2r:aX ["self","column","values"] ["self","column","values"] (aR oT):={}
theorem yQ(T:aW K mg)(Y:bX K mg C):aL P w K mg ae aD 5 C "give" ["self","column","values"] (oN K C):=by
 have G_is_name:bA P w K mg ae aD 1 "is_name" ["thing"] (gQ K):=iS T;have G_check_values:bA P w K mg ae aD 4 "check_values" ["values","many"] (mM K):=tH T;have G_many:aL P w K mg ae aD 1 C "many" ["self"] (fB C):=fV T Y;refine Y.m_give.known a2r (fun _ _ _ _ _ _ us hl=>gA (fun _ _ _=>rfl) us hl) (fun vs H Q E h=> ?_) (fun f ag A af s H vs Q E hr h=> ?_)
 ·obtain⟨p,r,d,xs,n,kvs,t,a,ys,ds,rfl,_⟩:=h
  rfl
 ·obtain⟨p,r,d,xs,n,kvs,t,a,ys,ds,rfl,TA,ht,hc,hk,hs,hp,hl,l1000,q⟩:=h
  have dU:∃t',dP (eG aD P w K mg ae ["self","column","values"] "Table.give" (aR oT) f ag A af s H E).nox ((fK oT).drop 2) t'/\
   ∀(H1:Hp),aJ H H1->t' {nx:=fun _ H'=>Q .non H',rt:=Q} [some (.ref p),some (.str t),some (.ref a)] H1:=by
   refine⟨_,(aG (bL (bJ G_check_values hr.mn aI (aA (pv 2) (aA (dR (pv 0) Y.cl G_many hr.mn aI) aE))))
    (aH (lQ (cR hr) (aQ (pv 0) rfl) (pv 1) (gT rF rfl T.list gF (aA (pv 2) aE)) rfl))),fun H1 s1=> ?_⟩
   obtain⟨⟨dx,h1⟩,h2,h3⟩:=TA.same s1;refine⟨_,rfl,_,rfl,p,dx,_,rfl,h1,cL,p,r,d,xs,n,kvs,rfl,TA.same s1,a,ys,ds,(by rw[hl];rfl),s1.seq hs,hp.keep (bS.of s1),l1000,fun H2 s2=> ?_⟩;have s12:=s1.trans s2;refine⟨_,rfl,a,ys,rfl,.inl (s12.seq hs),fun l hl=> ?_⟩;have c1:aJ H2 (upd H2 l (.lst ys)):=aJ.new hl;refine⟨_,rfl,p,C,dx,_,_,rfl,c1 _ _ (s2 _ _ h1),Y.cl,Y.n_kept,gB _ _ _,_,rfl,d,_,rfl,iR.k (k:=Sum.inr t) (c1 _ _ (s2 _ _ h3)) (dQ hk),?_⟩;exact q H2 l s12 hl
  obtain⟨t2,ht2,r2⟩:=dU
  refine⟨_,(aG (bF (cV (cU (bJ G_is_name hr.mn aI (aA (pv 1) aE)) (fun _=>rfl))) (aH bT) bN)
   (aG (bF (PW.pt (mS (gW (mC (cR hr) (pv 1) (aQ (pv 0) rfl))) (lV (bW nI (cA qF rfl T.len dY (aA (aQ (pv 0) rfl) aE)) (jV T.g_MOST_COLUMNS) (cC _))))) (aH bT) bN)
   ht2)),?_⟩
  have h8:=ht.2.1;refine⟨_,rfl,_,.str t,rfl,.str t,hJ (by omega),fun H1 s1=>⟨_,rfl,?_⟩⟩;rw[show eF (.str t)=true from ht.name];obtain⟨⟨dx,h2⟩,_,h3⟩:=TA.same s1;refine bB ⟨_,rfl,_,rfl,p,C,dx,_,_,rfl,h2,Y.cl,Y.n_kept,gB _ _ _,d,_,rfl,cG.k (k:=Sum.inr t) h3,_,rfl,?_⟩
  cases e:aO kvs (Sum.inr t:aB)with
  |some v=>exact bB (bB (r2 H1 s1))
  |none=>
   have hc':kvs.length<8:=by
    rcases hc with hc|hc
    ·rw[e]at hc;cases hc
    ·exact hc
   refine cZ ⟨_,rfl,p,C,dx,_,_,rfl,h2,Y.cl,Y.n_kept,gB _ _ _,d,kvs,rfl,h3,_,_,rfl,rfl,_,rfl,?_⟩;rw[decide_eq_false (show¬(kvs.length:Int)>=8 by omega)];exact bB (r2 H1 s1)
end
theorem dA(s:aJ H H')(h:H' a=none):H a=none:=by
 cases e:H a with
 |none=>rfl
 |some o=>rw[s _ _ e]at h;cases h
def bI(p:Addr)(H H':Hp):Prop:=∀b o,b≠p->H b=some o->H' b=some o
theorem bI.of(s:aJ H H'):bI p H H':=fun b o _ e=>s b o e
theorem bI.trans(a:bI p H H1)(b:bI p H1 H2):bI p H H2:=fun c o n e=>b c o n (a c o n e)
theorem mK{dy:Addr}{fs gs:List (Str×V)}(h:H p=some (.ins C dx fs))(g:H b=some (.ins D dy gs))(n:fs.length≠gs.length):p≠b:=fun z=>by
 rw[z,g]at h;cases h;exact n rfl
structure BM where
 b:Addr
 g:Addr
 r:Addr
 e:Addr
 ru:Addr
 me:Addr
 od:Addr
 xs:List V
 n:Int
 kvs:List (aB×V)
 rus:List (aB×V)
 mes:List (aB×V)
 ord:List Str
variable{B:My.BM}
def fG(g ru me od:Addr):List (Str×V):=[("given",V.ref g),("rules",V.ref ru),("memory",V.ref me),("order",V.ref od)]
theorem cE(g ru me od:Addr):(fG g ru me od).lookup ("given":Str)=some (.ref g)/\(fG g ru me od).lookup ("rules":Str)=some (.ref ru)/\(fG g ru me od).lookup ("memory":Str)=some (.ref me)/\(fG g ru me od).lookup ("order":Str)=some (.ref od):=⟨rfl,rfl,rfl,rfl⟩
theorem kG{g ru me od:Addr}(h:(m==("given":Str)||m==("rules":Str)||m==("memory":Str)||m==("order":Str))=false:=by decide+kernel):(fG g ru me od).lookup m=none:=by
 simp only[Bool.or_eq_false_iff]at h;obtain⟨⟨⟨h1,h2⟩,h3⟩,h4⟩:=h;unfold fG;simp[List.lookup,h1,h2,h3,h4]
theorem a2x(g ru me od:Addr):aM "order" (.ref od) (aM "memory" (.ref me) (aM "rules" (.ref ru) (aM "given" (.ref g) [])))=fG g ru me od:=by
 rfl
structure bP(CB CT:Addr)(H:Hp)(B:BM):Prop where
 at_:∃dx,H B.b=some (.ins CB dx (fG B.g B.ru B.me B.od))
 tab:eB CT H B.g B.r B.e B.xs B.n B.kvs
 rul:H B.ru=some (.dK B.rus)
 mem:H B.me=some (.dK B.mes)
 ord:H B.od=some (.lst (B.ord.map V.str))
theorem bP.same(h:bP CB CT H B)(s:aJ H H'):bP CB CT H' B:=
 ⟨let ⟨dx,e⟩:=h.at_;⟨dx,s _ _ e⟩,h.tab.same s,s _ _ h.rul,s _ _ h.mem,s _ _ h.ord⟩
structure BM.sep(B:BM):Prop where
 ro:B.r≠B.od
 eu:B.e≠B.ru
 em:B.e≠B.me
 um:B.ru≠B.me
section
variable{ae:Heap}
inductive sB(CB CT:Addr)(vs:List V)(H:Hp)(Q:VK)(E:XK):Prop
 |mk (p dx:Addr) (m:Nat):vs= [.ref p,.int (m:Int)] ->H p=some (.ins CB dx [])->m<=30->(∀H' g r e ru me od,bP CB CT H' ⟨p,g,r,e,ru,me,od,fO 0 m,(m:Int),[],[],[],[]⟩ ->BM.sep ⟨p,g,r,e,ru,me,od,fO 0 m,(m:Int),[],[],[],[]⟩ ->(∀x∈ [g,r,e,ru,me,od],H x=none)->(∀b o,H b=some o->b≠p->H' b=some o)->Q .non H')->sB CB CT vs H Q E
theorem a1E:aX ["self","many"] ["self","many"] (aR vA):={}
theorem a1H(T:aW K mg)(Y:cF K mg CB)(Z:bX K mg CT):dM P w K mg ae aD 5 CB ["self","many"] (sB CB CT):=by
 have GI:dM P w K mg ae aD 3 CT ["self","many"] (sA K CT):=a5h T Z;refine(Y.m_init.known a1E (fun _ _ _ _ _ _ us hl=>cT (fun _ _=>rfl) us hl) (fun vs H Q E h=> ?_) (fun f ag A af s H vs Q E hr h=> ?_)).init Y.mks Y.kc
 ·obtain⟨p,dx,m,rfl,_⟩:=h
  rfl
 ·obtain⟨p,dx,m,rfl,hp,hm,q⟩:=h
  refine⟨_,(aG (bY (pv 0) (gX GI hr Z.c aI (aA (pv 1) aE)) rfl)
   (aG (bY (pv 0) kE rfl)
   (aG (bY (pv 0) kE rfl)
   (aH (bY (pv 0) (hG aE) rfl))))),?_⟩
  refine⟨_,rfl,?_⟩;intro g dg hg hdg ne;refine⟨g,dg,m,rfl,aK,hm,fun H1 r e TA hr1 he1 nre b1=>⟨rfl,?_⟩⟩;have s1:aJ H H1:=fun b o z=>b1 b o (by rw[aF (bK z hg),aF (bK z hdg)];exact z) (bK z hg)
  have npg:p≠g:=bK hp hg
  have hr0:H r=none:=by
   by_cases z:r=g
   ·rw[z];exact hg
   ·by_cases z2:r=dg
    ·rw[z2];exact hdg
    ·rw[aF z,aF z2]at hr1;exact hr1
  have he0:H e=none:=by
   by_cases z:e=g
   ·rw[z];exact hg
   ·by_cases z2:e=dg
    ·rw[z2];exact hdg
    ·rw[aF z,aF z2]at he1;exact he1
  obtain⟨⟨dt,ht⟩,hrr,hee⟩:=TA;refine⟨_,rfl,p,CB,dx,[],rfl,s1 _ _ hp,Y.cl,Y.n_given,(by show 0<1000;decide),?_⟩;have u2:∀b o,b≠p->H1 b=some o->upd H1 p (.ins CB dx (aM "given" (.ref g) [])) b=some o:=fun b o n z=>by rw[aF n];exact z
  have p2:upd H1 p (.ins CB dx (aM "given" (.ref g) [])) p=some (.ins CB dx (aM "given" (.ref g) [])):=aK;have n2:∀b,upd H1 p (.ins CB dx (aM "given" (.ref g) [])) b=none->H1 b=none/\b≠p:=fun b z=>by
   have:b≠p:=fun y=>by rw[y,aK]at z;cases z
   rw[aF this]at z;exact⟨z,this⟩
  generalize upd H1 p (.ins CB dx (aM "given" (.ref g) []))=H2 at u2 p2 n2|-
  have b1':∀b,H1 b=none->H b=none:=fun b z=>by
   cases e9:H b with
   |none=>rfl
   |some o=>rw[s1 _ _ e9]at z;cases z
  refine fun ru hru=> ?_
  have s3:=aJ.new (o:=.dK []) hru;have h3:upd H2 ru (.dK []) ru=some (.dK []):=aK;have n3:∀b,upd H2 ru (.dK []) b=none->H2 b=none/\b≠ru:=fun b z=>by
   have:b≠ru:=fun y=>by rw[y,aK]at z;cases z
   rw[aF this]at z;exact⟨z,this⟩
  refine⟨_,rfl,p,CB,dx,_,rfl,s3 _ _ p2,Y.cl,Y.n_rules,(by show 1<1000;decide),?_⟩;have hru2:=n2 _ hru
  generalize upd H2 ru (.dK [])=H3 at s3 h3 n3|-
  have u4:∀b o,b≠p->H3 b=some o->upd H3 p (.ins CB dx (aM "rules" (.ref ru) (aM "given" (.ref g) []))) b=some o:=fun b o n z=>by rw[aF n];exact z
  have p4:upd H3 p (.ins CB dx (aM "rules" (.ref ru) (aM "given" (.ref g) []))) p=some (.ins CB dx (aM "rules" (.ref ru) (aM "given" (.ref g) []))):=aK;have n4:∀b,upd H3 p (.ins CB dx (aM "rules" (.ref ru) (aM "given" (.ref g) []))) b=none->H3 b=none/\b≠p:=fun b z=>by
   have:b≠p:=fun y=>by rw[y,aK]at z;cases z
   rw[aF this]at z;exact⟨z,this⟩
  generalize upd H3 p (.ins CB dx (aM "rules" (.ref ru) (aM "given" (.ref g) [])))=H4 at u4 p4 n4|-
  refine fun me hme=> ?_
  have s5:=aJ.new (o:=.dK []) hme;have h5:upd H4 me (.dK []) me=some (.dK []):=aK;have n5:∀b,upd H4 me (.dK []) b=none->H4 b=none/\b≠me:=fun b z=>by
   have:b≠me:=fun y=>by rw[y,aK]at z;cases z
   rw[aF this]at z;exact⟨z,this⟩
  refine⟨_,rfl,p,CB,dx,_,rfl,s5 _ _ p4,Y.cl,Y.n_memory,(by show 2<1000;decide),?_⟩;have hme4:=n4 _ hme;have hme3:=n3 _ hme4.1;have hme2:=n2 _ hme3.1
  generalize upd H4 me (.dK [])=H5 at s5 h5 n5|-
  have u6:∀b o,b≠p->H5 b=some o->upd H5 p (.ins CB dx (aM "memory" (.ref me) (aM "rules" (.ref ru) (aM "given" (.ref g) [])))) b=some o:=fun b o n z=>by rw[aF n];exact z
  have p6:upd H5 p (.ins CB dx (aM "memory" (.ref me) (aM "rules" (.ref ru) (aM "given" (.ref g) [])))) p=some (.ins CB dx (aM "memory" (.ref me) (aM "rules" (.ref ru) (aM "given" (.ref g) [])))):=aK;have n6:∀b,upd H5 p (.ins CB dx (aM "memory" (.ref me) (aM "rules" (.ref ru) (aM "given" (.ref g) [])))) b=none->H5 b=none/\b≠p:=fun b z=>by
   have:b≠p:=fun y=>by rw[y,aK]at z;cases z
   rw[aF this]at z;exact⟨z,this⟩
  generalize upd H5 p (.ins CB dx (aM "memory" (.ref me) (aM "rules" (.ref ru) (aM "given" (.ref g) []))))=H6 at u6 p6 n6|-
  refine⟨sl,fun od hod=> ?_⟩;have s7:=aJ.new (o:=.lst []) hod;have h7:upd H6 od (.lst []) od=some (.lst []):=aK;refine⟨_,rfl,p,CB,dx,_,rfl,s7 _ _ p6,Y.cl,Y.n_order,(by show 3<1000;decide),?_⟩;have hod6:=n6 _ hod;have hod5:=n5 _ hod6.1;have hod4:=n4 _ hod5.1;have hod3:=n3 _ hod4.1;have hod2:=n2 _ hod3.1
  generalize upd H6 od (.lst [])=H7 at s7 h7|-
  have up:∀b o,b≠p->H1 b=some o->upd H7 p (.ins CB dx (aM "order" (.ref od) (aM "memory" (.ref me) (aM "rules" (.ref ru) (aM "given" (.ref g) []))))) b=some o:=fun b o n z=>by
   rw[aF n];exact s7 _ _ (u6 _ _ n (s5 _ _ (u4 _ _ n (s3 _ _ (u2 _ _ n z)))))
  have p9:upd H7 p (.ins CB dx (aM "order" (.ref od) (aM "memory" (.ref me) (aM "rules" (.ref ru) (aM "given" (.ref g) []))))) p=some (.ins CB dx (fG g ru me od)):=by rw[aK,a2x]
  have npr:r≠p:=fun z=>by rw[z,hp]at hr0;cases hr0
  have npe:e≠p:=fun z=>by rw[z,hp]at he0;cases he0
  have o7:upd H7 p (.ins CB dx (aM "order" (.ref od) (aM "memory" (.ref me) (aM "rules" (.ref ru) (aM "given" (.ref g) []))))) od=some (.lst []):=by rw[aF hod6.2];exact h7
  have m7:upd H7 p (.ins CB dx (aM "order" (.ref od) (aM "memory" (.ref me) (aM "rules" (.ref ru) (aM "given" (.ref g) []))))) me=some (.dK []):=by
   rw[aF hme4.2];exact s7 _ _ (u6 _ _ hme4.2 h5)
  have r7:upd H7 p (.ins CB dx (aM "order" (.ref od) (aM "memory" (.ref me) (aM "rules" (.ref ru) (aM "given" (.ref g) []))))) ru=some (.dK []):=by
   rw[aF hru2.2];exact s7 _ _ (u6 _ _ hru2.2 (s5 _ _ (u4 _ _ hru2.2 h3)))
  generalize upd H7 p (.ins CB dx (aM "order" (.ref od) (aM "memory" (.ref me) (aM "rules" (.ref ru) (aM "given" (.ref g) [])))))=H9 at up p9 o7 m7 r7|-
  refine q H9 g r e ru me od ⟨⟨dx,p9⟩,⟨⟨dt,up _ _ npg.symm ht⟩,up _ _ npr hrr,up _ _ npe hee⟩,r7,m7,o7⟩ ⟨?_,?_,?_,?_⟩ ?_ fun b o z n=>up _ _ n (s1 _ _ z)
  ·exact bK hrr hod2.1
  ·exact bK hee hru2.1
  ·exact bK hee hme2.1
  ·exact fun z=>hme3.2 z.symm
  ·intro x hx
   simp only[List.mem_cons,List.not_mem_nil,or_false]at hx
   rcases hx with rfl|rfl|rfl|rfl|rfl|rfl
   ·exact hg
   ·exact hr0
   ·exact he0
   ·exact b1' _ hru2.1
   ·exact b1' _ hme2.1
   ·exact b1' _ hod2.1
inductive rW(CB CT:Addr)(vs:List V)(H:Hp)(Q:VK)(E:XK):Prop
 |mk (B:BM) (t:Str):vs= [.ref B.b,.str t] ->bP CB CT H B->Nl t->(∀H',aJ H H'->Q (.bl (decide (t∈B.ord))) H')->rW CB CT vs H Q E
theorem a2u:aX ["self","column"] ["self","column"] (aR a0B):={}
theorem a48(T:aW K mg)(Y:cF K mg CB):aL P w K mg ae aD 2 CB "has_column" ["self","column"] (rW CB CT):=by
 have G_is_name:bA P w K mg ae aD 1 "is_name" ["thing"] (gQ K):=iS T;refine Y.m_has_column.known a2u (fun _ _ _ _ _ _ us hl=>cT (fun _ _=>rfl) us hl) (fun vs H Q E h=> ?_) (fun f ag A af s H vs Q E hr h=> ?_)
 ·obtain⟨B,t,rfl,_⟩:=h
  rfl
 ·obtain⟨B,t,rfl,hB,ht,q⟩:=h
  refine⟨_,(aH (bM (iX (bJ G_is_name hr.mn aI (aA (pv 1) aE)) (kB (iV nQ (pv 1) (aQ (pv 0) rfl) (by with_unfolding_all rfl)))))),?_⟩;have h8:=ht.2.1;refine⟨_,rfl,_,.str t,rfl,.str t,hJ (by omega),fun H' s'=>⟨_,rfl,?_⟩⟩;rw[show eF (.str t)=true from ht.name];obtain⟨⟨dx,h1⟩,_,_,_,h5⟩:=hB.same s';refine cZ ⟨_,rfl,_,rfl,B.b,CB,dx,_,_,rfl,h1,Y.cl,Y.n_order,(cE _ _ _ _).2.2.2,B.od,_,rfl,.inl (aN.of h5),rfl,gG _,?_⟩;rw[show (if false=true then !dL (.str t) (B.ord.map V.str) else dL (.str t) (B.ord.map V.str))=decide (t∈B.ord)by rw[if_neg Bool.false_ne_true,gK]];exact q _ s'
def oZ(B:BM)(t:Str):Prop:=aO B.rus (.inr t:aB)=none/\t∉B.ord
inductive mG(CB CT:Addr)(vs:List V)(H:Hp)(Q:VK)(E:XK):Prop
 |mk (B:BM) (t:Str):vs= [.ref B.b,.str t] ->bP CB CT H B->oZ B t->Q .non H->mG CB CT vs H Q E
theorem uV:aX ["self","column"] ["self","column"] (aR mV):={}
theorem a5B(T:aW K mg)(Y:cF K mg CB):aL P w K mg ae aD 2 CB "content" ["self","column"] (mG CB CT):=by
 refine Y.m_content.known uV (fun _ _ _ _ _ _ us hl=>cT (fun _ _=>rfl) us hl) (fun vs H Q E h=> ?_) (fun f ag A af s H vs Q E hr h=> ?_)
 ·obtain⟨B,t,rfl,_⟩:=h
  rfl
 ·obtain⟨B,t,rfl,hB,⟨n1,n2⟩,q⟩:=h
  refine⟨_,(aG (bF (gW (jE (cR hr) (pv 1) (aQ (pv 0) rfl))) (aH bT) bN)
   (aG (bF (bW nQ (pv 1) (aQ (pv 0) rfl) (by with_unfolding_all rfl)) (aH bT) bN)
   (aH (bM fM)))),?_⟩
  obtain⟨⟨dx,h1⟩,_,h3,_,h5⟩:=id hB;refine⟨_,rfl,_,rfl,B.b,CB,dx,_,_,rfl,h1,Y.cl,Y.n_rules,(cE _ _ _ _).2.1,B.ru,_,rfl,cG.k (k:=Sum.inr t) h3,_,rfl,?_⟩;rw[n1];refine bB ⟨_,rfl,_,rfl,B.b,CB,dx,_,_,rfl,h1,Y.cl,Y.n_order,(cE _ _ _ _).2.2.2,B.od,_,rfl,.inl (aN.of h5),rfl,gG _,_,rfl,?_⟩;rw[show (if false=true then !dL (.str t) (B.ord.map V.str) else dL (.str t) (B.ord.map V.str))=false by rw[if_neg Bool.false_ne_true,gK,decide_eq_false n2]];exact bB q
theorem vG:aX ["self","column"] ["self","column"] (aR a0K):={}
theorem a4h(T:aW K mg)(Y:cF K mg CB):aL P w K mg ae aD 2 CB "empty_column" ["self","column"] (mG CB CT):=by
 refine Y.m_empty_column.known vG (fun _ _ _ _ _ _ us hl=>cT (fun _ _=>rfl) us hl) (fun vs H Q E h=> ?_) (fun f ag A af s H vs Q E hr h=> ?_)
 ·obtain⟨B,t,rfl,_⟩:=h
  rfl
 ·obtain⟨B,t,rfl,hB,⟨n1,n2⟩,q⟩:=h
  refine⟨_,(aH (bF (gW (jE (cR hr) (pv 1) (aQ (pv 0) rfl))) (aG bT (aH bT)) (aH (bF (bW nQ (pv 1) (aQ (pv 0) rfl) (by with_unfolding_all rfl)) (aH bT) bN)))),?_⟩;obtain⟨⟨dx,h1⟩,_,h3,_,h5⟩:=id hB;refine⟨_,rfl,_,rfl,B.b,CB,dx,_,_,rfl,h1,Y.cl,Y.n_rules,(cE _ _ _ _).2.1,B.ru,_,rfl,cG.k (k:=Sum.inr t) h3,_,rfl,?_⟩;rw[n1];refine bB ⟨_,rfl,_,rfl,B.b,CB,dx,_,_,rfl,h1,Y.cl,Y.n_order,(cE _ _ _ _).2.2.2,B.od,_,rfl,.inl (aN.of h5),rfl,gG _,_,rfl,?_⟩;rw[show (if false=true then !dL (.str t) (B.ord.map V.str) else dL (.str t) (B.ord.map V.str))=false by rw[if_neg Bool.false_ne_true,gK,decide_eq_false n2]];exact bB q
inductive oU(K:Fg)(CB CT:Addr)(vs:List V)(H:Hp)(Q:VK)(E:XK):Prop
 |mk (B:BM) (t:Str) (a:Addr) (ys:List V) (ds:List PyData):vs= [.ref B.b,.str t,.ref a] ->bP CB CT H B->B.sep->oZ B t->Nl t->H a=some (.lst ys)->a≠B.od->dC K H ys ds->ys.length=B.xs.length->ys.length<=30->B.kvs.length<8->B.ord.length<100->(∀H' l,H l=none->bP CB CT H' {B with kvs:=bH B.kvs (.inr t:aB) (.ref l),ord:=B.ord++ [t]} ->H' l=some (.lst ys)->(∀b o,b≠B.od->b≠B.e->H b=some o->H' b=some o)->Q .non H')->oU K CB CT vs H Q E
theorem xV:aX ["self","column","content"] ["self","column","content"] (aR zU):={}
theorem a3C(T:aW K mg)(Y:cF K mg CB)(Z:bX K mg CT):aL P w K mg ae aD 6 CB "set_column" ["self","column","content"] (oU K CB CT):=by
 have G_empty:aL P w K mg ae aD 2 CB "empty_column" ["self","column"] (mG CB CT):=a4h T Y;have G_give:aL P w K mg ae aD 5 CT "give" ["self","column","values"] (oN K CT):=yQ T Z;refine Y.m_set_column.known xV (fun _ _ _ _ _ _ us hl=>gA (fun _ _ _=>rfl) us hl) (fun vs H Q E h=> ?_) (fun f ag A af s H vs Q E hr h=> ?_)
 ·obtain⟨B,t,a,ys,ds,rfl,_⟩:=h
  rfl
 ·obtain⟨B,t,a,ys,ds,rfl,hB,sp,⟨n1,n2⟩,ht,ha,nao,hp,hl,l30,k8,o100,q⟩:=h
  refine⟨_,(aG (bL (bG (pv 0) Y.cl G_empty hr.mn aI (aA (pv 1) aE)))
   (aG (bF (bW nM (pv 2) fM (cC _)) (aG bT (aH bT)) bN)
   (aG (bF (bW lE (pv 1) (aQ (pv 0) rfl) (by with_unfolding_all rfl)) (aH (bL (gR F.plainAttrs_list F.slot_list_append F.type_list_append kZ (aQ (pv 0) rfl) (aA (pv 1) aE)))) bN)
   (aH (bF (cU (cA rA rfl T.isinstance fL (aA (pv 2) (aA (fT T.list gF) aE))) (fun _=>rfl)) (aH (bL (bG (aQ (pv 0) rfl) Z.cl G_give hr.mn aI (aA (pv 1) (aA (pv 2) aE))))) (aG bT (aH bT))))))),?_⟩
  obtain⟨⟨dx,h1⟩,tb,h3,h4,h5⟩:=id hB;refine⟨_,rfl,B.b,dx,_,rfl,h1,kG,_,rfl,B,t,rfl,hB,⟨n1,n2⟩,?_⟩;refine⟨_,rfl,rfl,_,rfl,?_⟩;rw[decide_eq_false (show¬V.ref a=V.non from fun z=>by cases z)];refine bB ⟨_,rfl,_,rfl,B.b,CB,dx,_,_,rfl,h1,Y.cl,Y.n_order,(cE _ _ _ _).2.2.2,B.od,_,rfl,.inl (aN.of h5),rfl,gG _,_,rfl,?_⟩;rw[show (if true=true then !dL (.str t) (B.ord.map V.str) else dL (.str t) (B.ord.map V.str))=true by rw[if_pos rfl,gK,decide_eq_false n2];rfl];refine cZ ⟨_,rfl,B.b,CB,dx,_,_,rfl,h1,Y.cl,Y.n_order,(cE _ _ _ _).2.2.2,.inl ⟨rfl,_,aN.of h5⟩,_,rfl,B.od,_,_,rfl,rfl,h5,dQ (by rw[List.length_map];omega),?_⟩;have u6:∀b o,b≠B.od->H b=some o->upd H B.od (.lst (B.ord.map V.str++ [.str t])) b=some o:=fun b o n z=>by rw[aF n];exact z
  have o6:upd H B.od (.lst (B.ord.map V.str++ [.str t])) B.od=some (.lst ((B.ord++ [t]).map V.str)):=by rw[aK,List.map_append];rfl
  have kt:bS H (upd H B.od (.lst (B.ord.map V.str++ [.str t]))):=bS.upd h5 (fun xs z=>by cases z);have n6:∀b,upd H B.od (.lst (B.ord.map V.str++ [.str t])) b=none->H b=none:=fun b z=>by
   have:b≠B.od:=fun y=>by rw[y,aK]at z;cases z
   rw[aF this]at z;exact z
  generalize upd H B.od (.lst (B.ord.map V.str++ [.str t]))=H6 at u6 o6 kt n6|-
  have a6:=u6 _ _ nao ha;have b6:=u6 _ _ (fun z=>by rw[z,h5]at h1;cases h1) h1;obtain⟨⟨dt,t1⟩,t2,t3⟩:=id tb;have g6:=u6 _ _ (fun z=>by rw[z,h5]at t1;cases t1) t1;have e6:=u6 _ _ (fun z=>by rw[z,h5]at t3;cases t3) t3;have tb6:eB CT H6 B.g B.r B.e B.xs B.n B.kvs:=⟨⟨dt,g6⟩,u6 _ _ sp.ro t2,e6⟩;refine⟨_,rfl,_,"list",.type "list",_,rfl,.lst a6,nS K .lst,_,rfl,cZ ?_⟩;refine⟨_,rfl,B.b,CB,dx,_,_,rfl,b6,Y.cl,Y.n_given,(cE _ _ _ _).1,B.g,dt,_,rfl,g6,cL,_,rfl,_,rfl,B.g,B.r,B.e,B.xs,B.n,B.kvs,t,a,ys,ds,rfl,tb6,ht,.inr k8,by omega,aN.of a6,hp.keep kt,hl,by omega,fun H7 l s7 hl7=> ?_⟩;have u9:∀b o,b≠B.e->H7 b=some o->upd (upd H7 l (.lst ys)) B.e (.dK (bH B.kvs (.inr t:aB) (.ref l))) b=some o:=fun b o n z=>by
   rw[aF n,aF (bK z hl7)];exact z
  have nle:l≠B.e:=fun z=>by rw[z,s7 _ _ e6]at hl7;cases hl7
  have e9:upd (upd H7 l (.lst ys)) B.e (.dK (bH B.kvs (.inr t:aB) (.ref l))) B.e=some (.dK (bH B.kvs (.inr t:aB) (.ref l))):=aK
  have l9:upd (upd H7 l (.lst ys)) B.e (.dK (bH B.kvs (.inr t:aB) (.ref l))) l=some (.lst ys):=by rw[aF nle,aK]
  generalize upd (upd H7 l (.lst ys)) B.e (.dK (bH B.kvs (.inr t:aB) (.ref l)))=H9 at u9 e9 l9|-
  have up:∀b o,b≠B.od->b≠B.e->H b=some o->H9 b=some o:=fun b o n1 n2 z=>u9 _ _ n2 (s7 _ _ (u6 _ _ n1 z))
  have ne_:∀{b:Addr} {o:HO},H6 b=some o->(∀kvs,o≠ .dK kvs)->b≠B.e:=fun z n y=>by rw[y,e6]at z;exact n _ (Option.some.inj z).symm
  refine q H9 l (n6 _ (dA s7 hl7)) ⟨⟨dx,u9 _ _ (ne_ b6 (fun kvs z=>by cases z)) (s7 _ _ b6)⟩,⟨⟨dt,u9 _ _ (ne_ g6 (fun kvs z=>by cases z)) (s7 _ _ g6)⟩,?_,e9⟩,?_,?_,?_⟩ l9 up
  ·exact up _ _ sp.ro (fun z=>by rw[z,t3]at t2;cases t2) t2
  ·exact up _ _ (fun z=>by rw[z,h5]at h3;cases h3) sp.eu.symm h3
  ·exact up _ _ (fun z=>by rw[z,h5]at h4;cases h4) sp.em.symm h4
  ·exact u9 _ _ (ne_ o6 (fun kvs z=>by cases z)) (s7 _ _ o6)
end
noncomputable def kM (bd:Addr) (nm:Str) (m:Nat):List (Str×V):=[("boards",V.ref bd),("name",V.str nm),("size",V.int (m:Int))]
theorem pV(bd:Addr)(nm:Str)(m:Nat):(kM bd nm m).lookup ("boards":Str)=some (.ref bd)/\(kM bd nm m).lookup ("name":Str)=some (.str nm)/\(kM bd nm m).lookup ("size":Str)=some (.int (m:Int))/\(kM bd nm m).lookup ("take":Str)=none:=⟨rfl,rfl,rfl,rfl⟩
noncomputable def iE (b:Addr) (t:Str) (a:Addr):List (Str×V):=[("board",V.ref b),("column",V.str t),("after",V.ref a),("before",V.non)]
theorem oP(b:Addr)(t:Str)(a:Addr):(iE b t a).lookup ("board":Str)=some (.ref b)/\(iE b t a).lookup ("column":Str)=some (.str t)/\(iE b t a).lookup ("after":Str)=some (.ref a)/\(iE b t a).lookup ("take":Str)=none/\aM "before" .non (iE b t a)=iE b t a:=⟨rfl,rfl,rfl,rfl,rfl⟩
noncomputable def eU (b:Addr) (t:Str) (p:Nat) (v u:V):List (Str×V):=[("board",V.ref b),("column",V.str t),("place",V.int (p:Int)),("after",v),("before",u)]
theorem sG(b:Addr)(t:Str)(p:Nat)(v u:V):(eU b t p v u).lookup ("board":Str)=some (.ref b)/\(eU b t p v u).lookup ("column":Str)=some (.str t)/\(eU b t p v u).lookup ("place":Str)=some (.int (p:Int))/\(eU b t p v u).lookup ("after":Str)=some v/\(eU b t p v u).lookup ("take":Str)=none/\∀u',aM "before" u' (eU b t p v u)=eU b t p v u':=⟨rfl,rfl,rfl,rfl,rfl,fun _=>rfl⟩
section
variable{ae:Heap}
inductive sN(C:Addr)(vs:List V)(H:Hp)(Q:VK)(E:XK):Prop
 |mk (p dx bd:Addr) (nm:Str) (m:Nat):vs= [.ref p,.ref bd,.str nm,.int (m:Int)] ->H p=some (.ins C dx [])->(∀H',bI p H H'->H' p=some (.ins C dx (kM bd nm m))->Q .non H')->sN C vs H Q E
theorem a3u:aX ["self","boards","name","size"] ["self","boards","name","size"] (aR wW):={}
theorem a3o(T:aW K mg)(Y:qM K mg C):dM P w K mg ae aD 1 C ["self","boards","name","size"] (sN C):=by
 refine(Y.m_init.known a3u (fun _ _ _ _ _ _ us hl=>iD (fun _ _ _ _=>rfl) us hl) (fun vs H Q E h=> ?_) (fun f ag A af s H vs Q E hr h=> ?_)).init Y.mks Y.kc
 ·obtain⟨p,dx,bd,nm,m,rfl,_⟩:=h
  rfl
 ·obtain⟨p,dx,bd,nm,m,rfl,hp,q⟩:=h
  refine⟨_,(aG (bY (pv 0) (pv 1) rfl) (aG (bY (pv 0) (pv 2) rfl) (aH (bY (pv 0) (pv 3) rfl)))),?_⟩;refine⟨_,rfl,_,rfl,p,C,dx,[],rfl,hp,Y.cl,Y.n_boards,(by show 0<1000;decide),?_⟩;refine⟨_,rfl,_,rfl,p,C,dx,_,rfl,aK,Y.cl,Y.n_name,(by show 1<1000;decide),?_⟩;refine⟨_,rfl,_,rfl,p,C,dx,_,rfl,aK,Y.cl,Y.n_size,(by show 2<1000;decide),?_⟩;exact q _ (fun b o n z=>by rw[aF n,aF n,aF n];exact z) aK
inductive oI(C:Addr)(vs:List V)(H:Hp)(Q:VK)(E:XK):Prop
 |mk (p dx b a:Addr) (t:Str):vs= [.ref p,.ref b,.str t,.ref a] ->H p=some (.ins C dx [])->(∀H',bI p H H'->H' p=some (.ins C dx (iE b t a))->Q .non H')->oI C vs H Q E
theorem a4Q:aX ["self","board","column","content"] ["self","board","column","content"] (aR zQ):={}
theorem xR(T:aW K mg)(Y:jH K mg C):dM P w K mg ae aD 1 C ["self","board","column","content"] (oI C):=by
 refine(Y.m_init.known a4Q (fun _ _ _ _ _ _ us hl=>iD (fun _ _ _ _=>rfl) us hl) (fun vs H Q E h=> ?_) (fun f ag A af s H vs Q E hr h=> ?_)).init Y.mks Y.kc
 ·obtain⟨p,dx,b,a,t,rfl,_⟩:=h
  rfl
 ·obtain⟨p,dx,b,a,t,rfl,hp,q⟩:=h
  refine⟨_,(aG (bY (pv 0) (pv 1) rfl) (aG (bY (pv 0) (pv 2) rfl) (aG (bY (pv 0) (pv 3) rfl) (aH (bY (pv 0) fM rfl))))),?_⟩;refine⟨_,rfl,_,rfl,p,C,dx,[],rfl,hp,Y.cl,Y.n_board,(by show 0<1000;decide),?_⟩;refine⟨_,rfl,_,rfl,p,C,dx,_,rfl,aK,Y.cl,Y.n_column,(by show 1<1000;decide),?_⟩;refine⟨_,rfl,_,rfl,p,C,dx,_,rfl,aK,Y.cl,Y.n_after,(by show 2<1000;decide),?_⟩;refine⟨_,rfl,p,C,dx,_,rfl,aK,Y.cl,Y.n_before,(by show 3<1000;decide),?_⟩;exact q _ (fun b o n z=>by rw[aF n,aF n,aF n,aF n];exact z) aK
inductive tD(C:Addr)(vs:List V)(H:Hp)(Q:VK)(E:XK):Prop
 |mk (p dx b:Addr) (t:Str) (i:Nat) (v:V):vs= [.ref p,.ref b,.str t,.int (i:Int),v] ->H p=some (.ins C dx [])->(∀H',bI p H H'->H' p=some (.ins C dx (eU b t i v .non))->Q .non H')->tD C vs H Q E
theorem a2n:aX ["self","board","column","place","value"] ["self","board","column","place","value"] (aR wU):={}
theorem a3A(T:aW K mg)(Y:nH K mg C):dM P w K mg ae aD 1 C ["self","board","column","place","value"] (tD C):=by
 refine(Y.m_init.known a2n (fun _ _ _ _ _ _ us hl=>lA (fun _ _ _ _ _=>rfl) us hl) (fun vs H Q E h=> ?_) (fun f ag A af s H vs Q E hr h=> ?_)).init Y.mks Y.kc
 ·obtain⟨p,dx,b,t,i,v,rfl,_⟩:=h
  rfl
 ·obtain⟨p,dx,b,t,i,v,rfl,hp,q⟩:=h
  refine⟨_,(aG (bY (pv 0) (pv 1) rfl) (aG (bY (pv 0) (pv 2) rfl) (aG (bY (pv 0) (pv 3) rfl) (aG (bY (pv 0) (pv 4) rfl) (aH (bY (pv 0) fM rfl)))))),?_⟩;refine⟨_,rfl,_,rfl,p,C,dx,[],rfl,hp,Y.cl,Y.n_board,(by show 0<1000;decide),?_⟩;refine⟨_,rfl,_,rfl,p,C,dx,_,rfl,aK,Y.cl,Y.n_column,(by show 1<1000;decide),?_⟩;refine⟨_,rfl,_,rfl,p,C,dx,_,rfl,aK,Y.cl,Y.n_place,(by show 2<1000;decide),?_⟩;refine⟨_,rfl,_,rfl,p,C,dx,_,rfl,aK,Y.cl,Y.n_after,(by show 3<1000;decide),?_⟩;refine⟨_,rfl,p,C,dx,_,rfl,aK,Y.cl,Y.n_before,(by show 4<1000;decide),?_⟩;exact q _ (fun b o n z=>by rw[aF n,aF n,aF n,aF n,aF n];exact z) aK
inductive oS(C CB CT:Addr)(vs:List V)(H:Hp)(Q:VK)(E:XK):Prop
 |mk (p dx bd:Addr) (nm:Str) (m:Nat) (kb:List (aB×V)):vs= [.ref p] ->H p=some (.ins C dx (kM bd nm m))->H bd=some (.dK kb)->kb.length<100->m<=30->(∀H' b g r e ru me od,bP CB CT H' ⟨b,g,r,e,ru,me,od,fO 0 m,(m:Int),[],[],[],[]⟩ ->BM.sep ⟨b,g,r,e,ru,me,od,fO 0 m,(m:Int),[],[],[],[]⟩ ->(∀x∈ [b,g,r,e,ru,me,od],H x=none)->H' bd=some (.dK (bH kb (.inr nm:aB) (.ref b)))->(∀x o,x≠bd->H x=some o->H' x=some o)->Q .non H')->oS C CB CT vs H Q E
theorem a1T:aX ["self"] ["self"] (aR wS):={}
theorem a3T(T:aW K mg)(Y:qM K mg C)(W:cF K mg CB)(Z:bX K mg CT):aL P w K mg ae aD 7 C "take" ["self"] (oS C CB CT):=by
 have GI:dM P w K mg ae aD 5 CB ["self","many"] (sB CB CT):=a1H T W Z;refine Y.m_take.known a1T (fun _ _ _ _ _ _ us hl=>eJ (fun _=>rfl) us hl) (fun vs H Q E h=> ?_) (fun f ag A af s H vs Q E hr h=> ?_)
 ·obtain⟨p,dx,bd,nm,m,kb,rfl,_⟩:=h
  rfl
 ·obtain⟨p,dx,bd,nm,m,kb,rfl,hp,hb,kl,hm,q⟩:=h
  refine⟨_,(aH (lQ (cR hr) (aQ (pv 0) rfl) (aQ (pv 0) rfl) (gX GI hr W.c aI (aA (aQ (pv 0) rfl) aE)) rfl)),?_⟩;refine⟨_,rfl,p,C,dx,_,_,rfl,hp,Y.cl,Y.n_size,(pV _ _ _).2.2.1,?_⟩;intro b db hb0 hdb ne;refine⟨b,db,m,rfl,aK,hm,fun H1 g r e ru me od hB sp fr fm=>⟨rfl,?_⟩⟩;have s1:aJ H H1:=fun x o z=>fm x o (by rw[aF (bK z hb0),aF (bK z hdb)];exact z) (bK z hb0)
  have fr':∀x∈ [b,g,r,e,ru,me,od],H x=none:=fun x hx=>by
   rcases List.mem_cons.mp hx with rfl|hx
   ·exact hb0
   ·have:=fr x hx
    by_cases z:x=b
    ·rw[z];exact hb0
    ·by_cases z2:x=db
     ·rw[z2];exact hdb
     ·rw[aF z,aF z2]at this;exact this
  refine⟨_,rfl,p,C,dx,_,_,rfl,s1 _ _ hp,Y.cl,Y.n_boards,(pV _ _ _).1,_,rfl,p,C,dx,_,_,rfl,s1 _ _ hp,Y.cl,Y.n_name,(pV _ _ _).2.1,bd,_,rfl,iR.k (k:=Sum.inr nm) (s1 _ _ hb) (dQ (by omega)),?_⟩;have nb:∀{x:Addr},x∈ [b,g,r,e,ru,me,od] ->x≠bd:=fun hx z=>by rw[<- z,fr' _ hx]at hb;cases hb
  have u:∀x o,x≠bd->H1 x=some o->upd H1 bd (.dK (bH kb (.inr nm:aB) (.ref b))) x=some o:=fun x o n z=>by rw[aF n];exact z
  obtain⟨⟨d1,e1⟩,⟨⟨d2,e2⟩,e3,e4⟩,e5,e6,e7⟩:=hB;exact q _ b g r e ru me od ⟨⟨d1,u _ _ (nb (by simp)) e1⟩,⟨⟨d2,u _ _ (nb (by simp)) e2⟩,u _ _ (nb (by simp)) e3,u _ _ (nb (by simp)) e4⟩,u _ _ (nb (by simp)) e5,u _ _ (nb (by simp)) e6,u _ _ (nb (by simp)) e7⟩ sp fr' aK (fun x o n z=>u _ _ n (s1 _ _ z))
inductive qG(C CB CT:Addr)(sp:Sp)(vs:List V)(H:Hp)(Q:VK)(E:XK):Prop
 |mk (p dx a:Addr) (B:BM) (t:Str):vs= [.ref p] ->H p=some (.ins C dx (iE B.b t a))->bP CB CT H B->oZ B t->(sp [.ref B.b,.str t,.ref a] H (fun _ H'=>Q .non H') E0)->qG C CB CT sp vs H Q E
theorem a0g:aX ["self"] ["self"] (aR yH):={}
theorem a1I(T:aW K mg)(Y:jH K mg C)(W:cF K mg CB)(G:aL P w K mg ae aD 6 CB "set_column" ["self","column","content"] sp):aL P w K mg ae aD 7 C "take" ["self"] (qG C CB CT sp):=by
 have G_content:aL P w K mg ae aD 2 CB "content" ["self","column"] (mG CB CT):=a5B T W;refine Y.m_take.known a0g (fun _ _ _ _ _ _ us hl=>eJ (fun _=>rfl) us hl) (fun vs H Q E h=> ?_) (fun f ag A af s H vs Q E hr h=> ?_)
 ·obtain⟨p,dx,a,B,t,rfl,_⟩:=h
  rfl
 ·obtain⟨p,dx,a,B,t,rfl,hp,hB,hn,q⟩:=h
  refine⟨_,(aG (bY (pv 0) (bG (aQ (pv 0) rfl) W.cl G_content hr.mn aI (aA (aQ (pv 0) rfl) aE)) rfl)
   (aH (bL (bG (aQ (pv 0) rfl) W.cl G hr aI (aA (aQ (pv 0) rfl) (aA (aQ (pv 0) rfl) aE)))))),?_⟩
  obtain⟨c1,c2,c3,c4,c5⟩:=oP B.b t a;obtain⟨dB,h1⟩:=hB.at_;refine⟨_,rfl,p,C,dx,_,_,rfl,hp,Y.cl,Y.n_board,c1,B.b,dB,_,rfl,h1,kG,_,rfl,p,C,dx,_,_,rfl,hp,Y.cl,Y.n_column,c2,B,t,rfl,hB,hn,?_⟩;refine⟨_,rfl,p,C,dx,_,rfl,hp,Y.cl,Y.n_before,(by show 4<1000;decide),?_⟩;rw[c5,a2M hp];exact⟨_,rfl,p,C,dx,_,_,rfl,hp,Y.cl,Y.n_board,c1,B.b,dB,_,rfl,h1,kG,_,rfl,p,C,dx,_,_,rfl,hp,Y.cl,Y.n_column,c2,_,rfl,p,C,dx,_,_,rfl,hp,Y.cl,Y.n_after,c3,q⟩
inductive oW(K:Fg)(C CB CT:Addr)(vs:List V)(H:Hp)(Q:VK)(E:XK):Prop
 |mk (p dx l:Addr) (B:BM) (t:Str) (i:Nat) (v u:V) (d:PyData) (ys:List V):vs= [.ref p] ->H p=some (.ins C dx (eU B.b t i v u))->bP CB CT H B->Nl t->aO B.kvs (.inr t:aB)=some (.ref l)->H l=some (.lst ys)->i<B.xs.length->ys.length=B.xs.length->Pv K H v d->(∀H',(∀x o,x≠p->x≠l->H x=some o->H' x=some o)->H' l=some (.lst (ys.set i v))->Q .non H')->oW K C CB CT vs H Q E
theorem a1P:aX ["self"] ["self"] (aR a0I):={}
theorem a1x(T:aW K mg)(Y:nH K mg C)(W:cF K mg CB)(Z:bX K mg CT):aL P w K mg ae aD 7 C "take" ["self"] (oW K C CB CT):=by
 have G_at:aL P w K mg ae aD 3 CT "at" ["self","column","place"] (lL CT):=tU T Z;have G_put:aL P w K mg ae aD 5 CT "put" ["self","column","place","value"] (rO K CT):=a5f T Z;refine Y.m_take.known a1P (fun _ _ _ _ _ _ us hl=>eJ (fun _=>rfl) us hl) (fun vs H Q E h=> ?_) (fun f ag A af s H vs Q E hr h=> ?_)
 ·obtain⟨p,dx,l,B,t,i,v,u,d,ys,rfl,_⟩:=h
  rfl
 ·obtain⟨p,dx,l,B,t,i,v,u,d,ys,rfl,hp,hB,ht,hv,hl,hi,ly,hpv,q⟩:=h
  refine⟨_,(aG (bY (pv 0) (bG (aQ (aQ (pv 0) rfl) rfl) Z.cl G_at hr.mn aI (aA (aQ (pv 0) rfl) (aA (aQ (pv 0) rfl) aE))) rfl)
   (aH (bL (bG (aQ (aQ (pv 0) rfl) rfl) Z.cl G_put hr.mn aI (aA (aQ (pv 0) rfl) (aA (aQ (pv 0) rfl) (aA (aQ (pv 0) rfl) aE))))))),?_⟩
  obtain⟨c1,c2,c3,c4,c5,c6⟩:=sG B.b t i v u;obtain⟨⟨dB,h1⟩,tb,_,_,_⟩:=id hB;obtain⟨⟨dT,t1⟩,_,_⟩:=id tb
  obtain⟨x0,hx0⟩:∃x0,bV ys (i:Int)=some x0:=by
   obtain⟨x0,e1,_⟩:=a2X ys (i:Int) (by omega) (by omega);exact⟨x0,e1⟩
  refine⟨_,rfl,p,C,dx,_,_,rfl,hp,Y.cl,Y.n_board,c1,B.b,CB,dB,_,_,rfl,h1,W.cl,W.n_given,(cE _ _ _ _).1,B.g,dT,_,rfl,t1,cL,_,rfl,p,C,dx,_,_,rfl,hp,Y.cl,Y.n_column,c2,_,rfl,p,C,dx,_,_,rfl,hp,Y.cl,Y.n_place,c3,B.g,B.r,B.e,B.xs,B.n,B.kvs,t,l,ys,i,x0,rfl,tb,ht,hv,hl,hi,hx0,fun H1 s1=> ?_⟩;refine⟨_,rfl,p,C,dx,_,rfl,s1 _ _ hp,Y.cl,Y.n_before,(by show 5<1000;decide),?_⟩;rw[c6];obtain⟨c1,c2,c3,c4,c5,c6⟩:=sG B.b t i v x0;have u2:∀x o,x≠p->H1 x=some o->upd H1 p (.ins C dx (eU B.b t i v x0)) x=some o:=fun x o n z=>by rw[aF n];exact z
  have p2:upd H1 p (.ins C dx (eU B.b t i v x0)) p=some (.ins C dx (eU B.b t i v x0)):=aK;have kt:bS H1 (upd H1 p (.ins C dx (eU B.b t i v x0))):=bS.upd (s1 _ _ hp) (fun xs z=>by cases z)
  generalize upd H1 p (.ins C dx (eU B.b t i v x0))=H2 at u2 p2 kt|-
  have npb:B.b≠p:=(mK hp h1 (by simp[eU,fG,fF])).symm;have npg:B.g≠p:=(mK hp t1 (by simp[eU,fG,fF])).symm;have np:∀{x:Addr} {o:HO},H x=some o->(∀C dx fs,o≠ .ins C dx fs)->x≠p:=fun z n y=>by rw[y,hp]at z;exact n _ _ _ (Option.some.inj z).symm
  have b2:=u2 _ _ npb (s1 _ _ h1);have g2:=u2 _ _ npg (s1 _ _ t1);obtain⟨_,tr,te⟩:=id tb;have tb2:eB CT H2 B.g B.r B.e B.xs B.n B.kvs:=⟨⟨dT,g2⟩,u2 _ _ (np tr (fun _ _ _ z=>by cases z)) (s1 _ _ tr),u2 _ _ (np te (fun _ _ _ z=>by cases z)) (s1 _ _ te)⟩;refine⟨_,rfl,p,C,dx,_,_,rfl,p2,Y.cl,Y.n_board,c1,B.b,CB,dB,_,_,rfl,b2,W.cl,W.n_given,(cE _ _ _ _).1,B.g,dT,_,rfl,g2,cL,_,rfl,p,C,dx,_,_,rfl,p2,Y.cl,Y.n_column,c2,_,rfl,p,C,dx,_,_,rfl,p2,Y.cl,Y.n_place,c3,_,rfl,p,C,dx,_,_,rfl,p2,Y.cl,Y.n_after,c4,B.g,B.r,B.e,B.xs,B.n,B.kvs,t,l,ys,i,v,d,rfl,tb2,ht,hv,u2 _ _ (np hl (fun _ _ _ z=>by cases z)) (s1 _ _ hl),hi,by omega,(hpv.same s1).keep kt,fun H3 s3=> ?_⟩;exact q _ (fun x o n1 n2 z=>by rw[aF n2];exact s3 _ _ (u2 _ _ n1 (s1 _ _ z))) aK
end
def cQ(bd ch fi:Addr):List (Str×V):=[("boards",V.ref bd),("changes",V.ref ch),("finder",V.ref fi)]
theorem jX(bd ch fi:Addr):(cQ bd ch fi).lookup ("boards":Str)=some (.ref bd)/\(cQ bd ch fi).lookup ("changes":Str)=some (.ref ch)/\(cQ bd ch fi).lookup ("finder":Str)=some (.ref fi)/\∀fi',aM "finder" (.ref fi') (cQ bd ch fi)=cQ bd ch fi':=⟨rfl,rfl,rfl,fun _=>rfl⟩
theorem cK{ch:Addr}(h:(m==("boards":Str)||m==("changes":Str)||m==("finder":Str))=false:=by decide+kernel):(cQ bd ch fi).lookup m=none:=by
 simp only[Bool.or_eq_false_iff]at h;obtain⟨⟨h1,h2⟩,h3⟩:=h;unfold cQ;simp[List.lookup,h1,h2,h3]
def eT(bd fd lk:Addr):List (Str×V):=[("boards",V.ref bd),("found",V.ref fd),("looked",V.ref lk)]
theorem vC(bd fd lk:Addr):(eT bd fd lk).lookup ("boards":Str)=some (.ref bd)/\(eT bd fd lk).lookup ("found":Str)=some (.ref fd)/\(eT bd fd lk).lookup ("looked":Str)=some (.ref lk):=⟨rfl,rfl,rfl⟩
theorem pR(h:(m==("boards":Str)||m==("found":Str)||m==("looked":Str))=false:=by decide+kernel):(eT bd fd lk).lookup m=none:=by
 simp only[Bool.or_eq_false_iff]at h;obtain⟨⟨h1,h2⟩,h3⟩:=h;unfold eT;simp[List.lookup,h1,h2,h3]
section
variable{ae:Heap}
inductive oF(C:Addr)(vs:List V)(H:Hp)(Q:VK)(E:XK):Prop
 |mk (p dx bd:Addr):vs= [.ref p,.ref bd] ->H p=some (.ins C dx [])->(∀H' fd lk,H fd=none->H lk=none->fd≠lk->H' p=some (.ins C dx (eT bd fd lk))->H' fd=some (.dT [])->H' lk=some (.dT [])->bI p H H'->Q .non H')->oF C vs H Q E
theorem a4v:aX ["self","boards"] ["self","boards"] (aR a0e):={}
theorem zS(T:aW K mg)(Y:dZ K mg C):dM P w K mg ae aD 1 C ["self","boards"] (oF C):=by
 refine(Y.m_init.known a4v (fun _ _ _ _ _ _ us hl=>cT (fun _ _=>rfl) us hl) (fun vs H Q E h=> ?_) (fun f ag A af s H vs Q E hr h=> ?_)).init Y.mks Y.kc
 ·obtain⟨p,dx,bd,rfl,_⟩:=h
  rfl
 ·obtain⟨p,dx,bd,rfl,hp,q⟩:=h
  refine⟨_,(aG (bY (pv 0) (pv 1) rfl) (aG (bY (pv 0) vU rfl) (aH (bY (pv 0) vU rfl)))),?_⟩;refine⟨_,rfl,_,rfl,p,C,dx,[],rfl,hp,Y.cl,Y.n_boards,(by show 0<1000;decide),?_⟩;have u1:∀b o,b≠p->H b=some o->upd H p (.ins C dx (aM "boards" (.ref bd) [])) b=some o:=fun b o n z=>by rw[aF n];exact z
  have p1:upd H p (.ins C dx (aM "boards" (.ref bd) [])) p=some (.ins C dx (aM "boards" (.ref bd) [])):=aK;have n1:∀b,upd H p (.ins C dx (aM "boards" (.ref bd) [])) b=none->H b=none/\b≠p:=fun b z=>by
   have:b≠p:=fun y=>by rw[y,aK]at z;cases z
   rw[aF this]at z;exact⟨z,this⟩
  generalize upd H p (.ins C dx (aM "boards" (.ref bd) []))=H1 at u1 p1 n1|-
  refine fun fd hfd=> ?_
  have s2:=aJ.new (o:=.dT []) hfd;have h2:upd H1 fd (.dT []) fd=some (.dT []):=aK;have n2:∀b,upd H1 fd (.dT []) b=none->H1 b=none/\b≠fd:=fun b z=>by
   have:b≠fd:=fun y=>by rw[y,aK]at z;cases z
   rw[aF this]at z;exact⟨z,this⟩
  refine⟨_,rfl,p,C,dx,_,rfl,s2 _ _ p1,Y.cl,Y.n_found,(by show 1<1000;decide),?_⟩;have hf:=n1 _ hfd
  generalize upd H1 fd (.dT [])=H2 at s2 h2 n2|-
  have u3:∀b o,b≠p->H2 b=some o->upd H2 p (.ins C dx (aM "found" (.ref fd) (aM "boards" (.ref bd) []))) b=some o:=fun b o n z=>by rw[aF n];exact z
  have p3:upd H2 p (.ins C dx (aM "found" (.ref fd) (aM "boards" (.ref bd) []))) p=some (.ins C dx (aM "found" (.ref fd) (aM "boards" (.ref bd) []))):=aK;have n3:∀b,upd H2 p (.ins C dx (aM "found" (.ref fd) (aM "boards" (.ref bd) []))) b=none->H2 b=none/\b≠p:=fun b z=>by
   have:b≠p:=fun y=>by rw[y,aK]at z;cases z
   rw[aF this]at z;exact⟨z,this⟩
  generalize upd H2 p (.ins C dx (aM "found" (.ref fd) (aM "boards" (.ref bd) [])))=H3 at u3 p3 n3|-
  refine fun lk hlk=> ?_
  have s4:=aJ.new (o:=.dT []) hlk;have h4:upd H3 lk (.dT []) lk=some (.dT []):=aK;refine⟨_,rfl,p,C,dx,_,rfl,s4 _ _ p3,Y.cl,Y.n_looked,(by show 2<1000;decide),?_⟩;have k3:=n3 _ hlk;have k2:=n2 _ k3.1;have k1:=n1 _ k2.1
  generalize upd H3 lk (.dT [])=H4 at s4 h4|-
  exact q _ fd lk hf.1 k1.1 k2.2.symm aK (by rw[aF hf.2];exact s4 _ _ (u3 _ _ hf.2 h2)) (by rw[aF k1.2];exact h4) (fun b o n z=>by rw[aF n];exact s4 _ _ (u3 _ _ n (s2 _ _ (u1 _ _ n z))))
inductive jD(CS CF C:Addr)(sp:Sp)(vs:List V)(H:Hp)(Q:VK)(E:XK):Prop
 |mk (s c bd ch fi dx dc:Addr) (cs:List V) (fs:List (Str×V)):vs= [.ref s,.ref c] ->H c=some (.ins C dc fs)->fs.lookup ("take":Str)=none->(sp [.ref c] H (fun _ H1=>H1 s=some (.ins CS dx (cQ bd ch fi))/\H1 ch=some (.lst cs)/\cs.length<900/\∀H2 fi' fd lk df,H1 fi'=none->H1 fd=none->H1 lk=none->fd≠lk->H2 s=some (.ins CS dx (cQ bd ch fi'))->H2 ch=some (.lst (cs++ [.ref c]))->H2 fi'=some (.ins CF df (eT bd fd lk))->H2 fd=some (.dT [])->H2 lk=some (.dT [])->
  (∀x o,x≠s->x≠ch->H1 x=some o->H2 x=some o)->Q .non H2) E0)->jD CS CF C sp vs H Q E
theorem a3n:aX ["self","change"] ["self","change"] (aR yD):={}
def fW(sp:Sp):Prop:=∀vs H (Q Q':VK),(∀v H',Q v H'->Q' v H')->sp vs H Q E0->sp vs H Q' E0
theorem lJ(T:aW K mg)(Y:dE K mg CS)(Z:dZ K mg CF)(cl:cX K C)(mono:fW sp)(G:aL P w K mg ae aD 7 C "take" ["self"] sp):aL P w K mg ae aD 8 CS "make" ["self","change"] (jD CS CF C sp):=by
 have GI:dM P w K mg ae aD 1 CF ["self","boards"] (oF CF):=zS T Z;refine Y.m_make.known a3n (fun _ _ _ _ _ _ us hl=>cT (fun _ _=>rfl) us hl) (fun vs H Q E h=> ?_) (fun f ag A af s H vs Q E hr h=> ?_)
 ·obtain⟨s',c,bd,ch,fi,dx,dc,cs,fs,rfl,_⟩:=h
  rfl
 ·obtain⟨s',c,bd,ch,fi,dx,dc,cs,fs,rfl,hc,hf,q⟩:=h
  refine⟨_,(aG (bL (dR (pv 1) cl G hr aI))
   (aG (bL (gR F.plainAttrs_list F.slot_list_append F.type_list_append kZ (aQ (pv 0) rfl) (aA (pv 1) aE)))
   (aH (bY (pv 0) (gX GI hr.mn Z.c aI (aA (aQ (pv 0) rfl) aE)) rfl)))),?_⟩
  refine⟨_,rfl,c,dc,fs,rfl,hc,hf,?_⟩;refine mono _ _ _ _ (fun v0 H1 hQ=> ?_) q;obtain⟨h1,h2,l9,qq⟩:=hQ;obtain⟨a1,a2,a3,a4⟩:=jX bd ch fi;refine⟨_,rfl,s',CS,dx,_,_,rfl,h1,Y.cl,Y.n_changes,a2,.inl ⟨rfl,_,aN.of h2⟩,_,rfl,ch,_,_,rfl,rfl,h2,dQ (by omega),?_⟩;have nsc:s'≠ch:=fun z=>by rw[z,h2]at h1;cases h1
  have u2:∀x o,x≠ch->H1 x=some o->upd H1 ch (.lst (cs++ [.ref c])) x=some o:=fun x o n z=>by rw[aF n];exact z
  have c2:upd H1 ch (.lst (cs++ [.ref c])) ch=some (.lst (cs++ [.ref c])):=aK;have n2:∀b,upd H1 ch (.lst (cs++ [.ref c])) b=none->H1 b=none/\b≠ch:=fun b z=>by
   have:b≠ch:=fun y=>by rw[y,aK]at z;cases z
   rw[aF this]at z;exact⟨z,this⟩
  generalize upd H1 ch (.lst (cs++ [.ref c]))=H2 at u2 c2 n2|-
  have s2:=u2 _ _ nsc h1;refine⟨_,rfl,s',CS,dx,_,_,rfl,s2,Y.cl,Y.n_boards,a1,?_⟩;intro fi' df hfi hdf ne;refine⟨fi',df,bd,rfl,aK,fun H3 fd lk hfd hlk nfl g1 g2 g3 b3=>⟨rfl,?_⟩⟩;have s3:aJ H2 H3:=fun b o z=>b3 b o (bK z hfi) (by rw[aF (bK z hfi),aF (bK z hdf)];exact z)
  have fr:∀{x:Addr},upd (upd H2 df (.own fi')) fi' (.ins CF df []) x=none->H2 x=none:=fun{x} z=>by
   by_cases z1:x=fi'
   ·rw[z1];exact hfi
   ·by_cases z2:x=df
    ·rw[z2];exact hdf
    ·rw[aF z1,aF z2]at z;exact z
  refine⟨_,rfl,s',CS,dx,_,rfl,s3 _ _ s2,Y.cl,Y.n_finder,(by show 3<1000;decide),?_⟩;rw[a4];have ns:∀{x:Addr},H2 x=none->x≠s':=fun z y=>by rw[y,s2]at z;cases z
  exact qq _ fi' fd lk df (n2 _ hfi).1 (n2 _ (fr hfd)).1 (n2 _ (fr hlk)).1 nfl aK (by rw[aF nsc.symm];exact s3 _ _ c2) (by rw[aF (ns hfi)];exact g1) (by rw[aF (ns (fr hfd))];exact g2) (by rw[aF (ns (fr hlk))];exact g3) (fun x o n1 n2' z=>by rw[aF n1];exact s3 _ _ (u2 _ _ n2' z))
inductive iO(CS CB CT:Addr)(vs:List V)(H:Hp)(Q:VK)(E:XK):Prop
 |mk (s bd ch fi dx:Addr) (kb:List (aB×V)) (nm:Str) (v:V):vs= [.ref s,.str nm] ->H s=some (.ins CS dx (cQ bd ch fi))->H bd=some (.dK kb)->Nl nm->aO kb (.inr nm:aB)=some v->(∀H',aJ H H'->Q v H')->iO CS CB CT vs H Q E
theorem a3w:aX ["self","table"] ["self","table"] (aR yC):={}
theorem kH(T:aW K mg)(Y:dE K mg CS):aL P w K mg ae aD 2 CS "board_of" ["self","table"] (iO CS CB CT):=by
 have G_is_name:bA P w K mg ae aD 1 "is_name" ["thing"] (gQ K):=iS T;refine Y.m_board_of.known a3w (fun _ _ _ _ _ _ us hl=>cT (fun _ _=>rfl) us hl) (fun vs H Q E h=> ?_) (fun f ag A af s H vs Q E hr h=> ?_)
 ·obtain⟨s',bd,ch,fi,dx,kb,nm,v,rfl,_⟩:=h
  rfl
 ·obtain⟨s',bd,ch,fi,dx,kb,nm,v,rfl,h1,h2,ht,hv,q⟩:=h
  refine⟨_,(aG (bF (PW.pt (dO (cV (cU (bJ G_is_name hr.mn aI (aA (pv 1) aE)) (fun _=>rfl))) (eM (gW (mC (cR hr) (pv 1) (aQ (pv 0) rfl)))))) (aH bT) bN)
   (aH (bM (eN (cR hr) (aQ (pv 0) rfl) (pv 1) (fun _ _=>rfl))))),?_⟩
  have h8:=ht.2.1;refine⟨_,rfl,_,.str nm,rfl,.str nm,hJ (by omega),fun H' s9=>⟨_,rfl,?_⟩⟩;rw[show eF (.str nm)=true from ht.name];refine bB ⟨_,rfl,_,rfl,s',CS,dx,_,_,rfl,s9 _ _ h1,Y.cl,Y.n_boards,(jX _ _ _).1,bd,_,rfl,cG.k (k:=Sum.inr nm) (s9 _ _ h2),_,rfl,?_⟩;rw[hv];exact bB ⟨_,rfl,s',CS,dx,_,_,rfl,s9 _ _ h1,Y.cl,Y.n_boards,(jX _ _ _).1,_,rfl,bd,v,rfl,hv▸cG.k (k:=Sum.inr nm) (s9 _ _ h2),q _ s9⟩
inductive kW(CS CB CT:Addr)(vs:List V)(H:Hp)(Q:VK)(E:XK):Prop
 |mk (s bd ch fi dx:Addr) (kb:List (aB×V)) (nm t:Str) (B:BM):vs= [.ref s,.str nm,.str t] ->H s=some (.ins CS dx (cQ bd ch fi))->H bd=some (.dK kb)->Nl nm->aO kb (.inr nm:aB)=some (.ref B.b)->bP CB CT H B->Nl t->t∈B.ord->(∀H',aJ H H'->Q (.ref B.b) H')->kW CS CB CT vs H Q E
theorem xC:aX ["self","table","column","board"] ["self","table","column"] (aR zX):={}
theorem pP(T:aW K mg)(Y:dE K mg CS)(W:cF K mg CB):aL P w K mg ae aD 3 CS "board_with" ["self","table","column"] (kW CS CB CT):=by
 have G_of:aL P w K mg ae aD 2 CS "board_of" ["self","table"] (iO CS CB CT):=kH T Y;have G_has:aL P w K mg ae aD 2 CB "has_column" ["self","column"] (rW CB CT):=a48 T W;refine Y.m_board_with.known xC (fun _ _ _ _ _ _ us hl=>gA (fun _ _ _=>rfl) us hl) (fun vs H Q E h=> ?_) (fun f ag A af s H vs Q E hr h=> ?_)
 ·obtain⟨s',bd,ch,fi,dx,kb,nm,t,B,rfl,_⟩:=h
  rfl
 ·obtain⟨s',bd,ch,fi,dx,kb,nm,t,B,rfl,h1,h2,hn,hv,hB,ht,ho,q⟩:=h
  refine⟨_,(aG (cN (i:=3) xC.nd rfl (Or.inl rfl) (bG (pv 0) Y.cl G_of hr aI (aA (pv 1) aE)))
   (aG (bF (cV (cU (bG (pv 3) W.cl G_has hr aI (aA (pv 2) aE)) (fun _=>rfl))) (aH bT) bN)
   (aH (bM (pv 3))))),?_⟩
  refine⟨_,rfl,s',dx,_,rfl,h1,cK,_,rfl,s',bd,ch,fi,dx,kb,nm,_,rfl,h1,h2,hn,hv,fun H1 s1=> ?_⟩;have hB1:=hB.same s1;obtain⟨dB,b1⟩:=hB1.at_;refine⟨_,rfl,B.b,dB,_,rfl,b1,kG,_,rfl,B,t,rfl,hB1,ht,fun H2 s2=>⟨_,rfl,?_⟩⟩;rw[decide_eq_true ho];exact bB ⟨_,rfl,q _ (s1.trans s2)⟩
inductive sJ(CS CB CT:Addr)(vs:List V)(H:Hp)(Q:VK)(E:XK):Prop
 |mk (s bd ch fi dx:Addr) (kb:List (aB×V)) (nm t:Str) (B:BM):vs= [.ref s,.str nm,.str t] ->H s=some (.ins CS dx (cQ bd ch fi))->H bd=some (.dK kb)->Nl nm->aO kb (.inr nm:aB)=some (.ref B.b)->bP CB CT H B->Nl t->B.ord.length<8->(∀H',aJ H H'->Q (.ref B.b) H')->sJ CS CB CT vs H Q E
theorem qJ:aX ["self","table","column","board"] ["self","table","column"] (aR wD):={}
theorem a3K(T:aW K mg)(Y:dE K mg CS)(W:cF K mg CB):aL P w K mg ae aD 3 CS "board_for" ["self","table","column"] (sJ CS CB CT):=by
 have G_of:aL P w K mg ae aD 2 CS "board_of" ["self","table"] (iO CS CB CT):=kH T Y;have G_is_name:bA P w K mg ae aD 1 "is_name" ["thing"] (gQ K):=iS T;refine Y.m_board_for.known qJ (fun _ _ _ _ _ _ us hl=>gA (fun _ _ _=>rfl) us hl) (fun vs H Q E h=> ?_) (fun f ag A af s H vs Q E hr h=> ?_)
 ·obtain⟨s',bd,ch,fi,dx,kb,nm,t,B,rfl,_⟩:=h
  rfl
 ·obtain⟨s',bd,ch,fi,dx,kb,nm,t,B,rfl,h1,h2,hn,hv,hB,ht,ho,q⟩:=h
  refine⟨_,(aG (cN (i:=3) qJ.nd rfl (Or.inl rfl) (bG (pv 0) Y.cl G_of hr aI (aA (pv 1) aE)))
   (aG (bF (cV (cU (bJ G_is_name hr.mn aI (aA (pv 2) aE)) (fun _=>rfl))) (aH bT) bN)
   (aG (bF (PW.pt (mS (bW lE (pv 2) (aQ (pv 3) rfl) (by with_unfolding_all rfl)) (lV (bW nI (cA eW rfl T.len dY (aA (aQ (pv 3) rfl) aE)) (jV T.g_MOST_COLUMNS) (cC _))))) (aH bT) bN)
   (aH (bM (pv 3)))))),?_⟩
  refine⟨_,rfl,s',dx,_,rfl,h1,cK,_,rfl,s',bd,ch,fi,dx,kb,nm,_,rfl,h1,h2,hn,hv,fun H1 s1=> ?_⟩;have h8:=ht.2.1;refine⟨_,rfl,_,.str t,rfl,.str t,hJ (by omega),fun H2 s2=>⟨_,rfl,?_⟩⟩;rw[show eF (.str t)=true from ht.name];obtain⟨⟨dB,b1⟩,_,_,_,o1⟩:=(hB.same s1).same s2;refine bB ⟨_,rfl,_,rfl,B.b,CB,dB,_,_,rfl,b1,W.cl,W.n_order,(cE _ _ _ _).2.2.2,B.od,_,rfl,.inl (aN.of o1),rfl,gG _,_,rfl,?_⟩;have fin:Q (.ref B.b) H2:=q _ (s1.trans s2);refine dX (fun _=> ?_) (fun _=> ?_)
  ·refine⟨_,rfl,B.b,CB,dB,_,_,rfl,b1,W.cl,W.n_order,(cE _ _ _ _).2.2.2,_,_,rfl,.inl ⟨_,aN.of o1,rfl⟩,_,_,rfl,rfl,_,rfl,?_⟩
   rw[List.length_map,decide_eq_false (show¬(B.ord.length:Int)>=8 by omega)];exact bB ⟨_,rfl,fin⟩
  ·exact bB ⟨_,rfl,fin⟩
end
abbrev Ky:=List aB
variable{kf:List (My.Ky×V)}
def bQ(t c:Str)(p:Nat):Ky:=[.inr t,.inr c,.inl (p:Int)]
structure eZ(CF CB CT:Addr)(H:Hp)(fi bd fd lk:Addr)(nm:Str)(B:BM)(kf:List (Ky×V)):Prop where
 fin:∃dx,H fi=some (.ins CF dx (eT bd fd lk))
 bds:∃kb,H bd=some (.dK kb)/\aO kb (.inr nm:aB)=some (.ref B.b)
 B:bP CB CT H B
 fnd:H fd=some (.dT kf)
 len:kf.length<900
theorem eZ.same{nm:Str}(h:eZ CF CB CT H fi bd fd lk nm B kf)(s:aJ H H'):eZ CF CB CT H' fi bd fd lk nm B kf:=
 ⟨let ⟨dx,e⟩:=h.fin;⟨dx,s _ _ e⟩,let ⟨kb,e1,e2⟩:=h.bds;⟨kb,s _ _ e1,e2⟩,h.B.same s,s _ _ h.fnd,h.len⟩
theorem eZ.put{nm:Str}{kf':List (Ky×V)}(h:eZ CF CB CT H fi bd fd lk nm B kf)(s:bI fd H H')(e:H' fd=some (.dT kf'))(l:kf'.length<900):eZ CF CB CT H' fi bd fd lk nm B kf':=by
 have u:∀{x:Addr} {o:HO},H x=some o->(∀kvs,o≠ .dT kvs)->H' x=some o:=fun z n=>s _ _ (fun y=>by rw[y,h.fnd]at z;exact n _ (Option.some.inj z).symm) z
 obtain⟨dx,e1⟩:=h.fin;obtain⟨kb,e2,e3⟩:=h.bds;obtain⟨⟨d1,b1⟩,⟨⟨d2,b2⟩,b3,b4⟩,b5,b6,b7⟩:=h.B;exact⟨⟨dx,u e1 (fun _ z=>by cases z)⟩,⟨kb,u e2 (fun _ z=>by cases z),e3⟩,⟨⟨d1,u b1 (fun _ z=>by cases z)⟩,⟨⟨d2,u b2 (fun _ z=>by cases z)⟩,u b3 (fun _ z=>by cases z),u b4 (fun _ z=>by cases z)⟩,u b5 (fun _ z=>by cases z),u b6 (fun _ z=>by cases z),u b7 (fun _ z=>by cases z)⟩,e,l⟩
section
variable{ae:Heap}
inductive uF(CF CB CT:Addr)(vs:List V)(H:Hp)(Q:VK)(E:XK):Prop
 |mk (fi bd fd lk ce l:Addr) (nm c:Str) (p:Nat) (B:BM) (kf:List (Ky×V)) (ys:List V) (v:V):vs= [.ref fi,.ref ce] ->eZ CF CB CT H fi bd fd lk nm B kf->H ce=some (.tup ((bQ nm c p).map kV))->aO B.rus (.inr c:aB)=none->Nl c->aO B.kvs (.inr c:aB)=some (.ref l)->H l=some (.lst ys)->p<B.xs.length->bV ys (p:Int)=some v->(∀v',aO kf (bQ nm c p)=some v'->v'=v)->kf.length<899->(∀H' kf',(kf'=kf\/ kf'=bH kf (bQ nm c p) v)->aO kf' (bQ nm c p)=some v->eZ CF CB CT H' fi bd fd lk nm B kf'->bI fd H H'->Q (.bl true) H')->uF CF CB CT vs H Q E
theorem yT:aX ["self","cell","board"] ["self","cell"] (aR yP):={}
theorem a4B(T:aW K mg)(Y:dZ K mg CF)(W:cF K mg CB)(Z:bX K mg CT):aL P w K mg ae aD 4 CF "knows" ["self","cell"] (uF CF CB CT):=by
 have G_at:aL P w K mg ae aD 3 CT "at" ["self","column","place"] (lL CT):=tU T Z;refine Y.m_knows.known yT (fun _ _ _ _ _ _ us hl=>cT (fun _ _=>rfl) us hl) (fun vs H Q E h=> ?_) (fun f ag A af s H vs Q E hr h=> ?_)
 ·obtain⟨fi,bd,fd,lk,ce,l,nm,c,p,B,kf,ys,v,rfl,_⟩:=h
  rfl
 ·obtain⟨fi,bd,fd,lk,ce,l,nm,c,p,B,kf,ys,v,rfl,hF,hce,hru,hc,hv,hl,hp,ha,hcon,kl,q⟩:=h
  have hu:=cR hr
  refine⟨_,(aG (cN (i:=2) yT.nd rfl (Or.inl rfl) (eN hu (aQ (pv 0) rfl) (dH kF (pv 1) aT (fun _ _=>rfl)) (fun _ _=>rfl)))
   (aG (bF (PW.pt (mS (gW (mC hu (pv 1) (aQ (pv 0) rfl))) (lV (gW (mC hu (dH kF (pv 1) aT (fun _ _=>rfl)) (aQ (pv 2) rfl)))))) (aH (lQ hu (aQ (pv 0) rfl) (pv 1) (bG (aQ (pv 2) rfl) Z.cl G_at hr aI (aA (dH kF (pv 1) aT (fun _ _=>rfl)) (aA (dH kF (pv 1) aT (fun _ _=>rfl)) aE))) rfl)) bN)
   (aH (bM (a0C (jE hu (pv 1) (aQ (pv 0) rfl)) (by with_unfolding_all rfl)))))),?_⟩
  obtain⟨dx,e1⟩:=hF.fin;obtain⟨kb,e2,e3⟩:=hF.bds;obtain⟨⟨d1,b1⟩,tb,b5,_,_⟩:=id hF.B;obtain⟨⟨d2,b2⟩,b3,b4⟩:=id tb;have e4:=hF.fnd;obtain⟨a1,a2,a3⟩:=vC bd fd lk;refine⟨_,rfl,fi,CF,dx,_,_,rfl,e1,Y.cl,Y.n_boards,a1,_,rfl,ce,_,_,_,rfl,rfl,dG.of hce,rfl,bd,_,rfl,e3▸cG.k (k:=Sum.inr nm) e2,?_⟩;have dgf:∀{H':Hp} {kf':List (Ky×V)},H' fd=some (.dT kf')->H' ce=some (.tup ((bQ nm c p).map kV))->cG H' fd (.ref ce) (aO kf' (bQ nm c p)):=fun e g=> .inr ⟨_,bQ nm c p,ce,.inl e,rfl,g,rfl⟩
  refine⟨_,rfl,_,rfl,fi,CF,dx,_,_,rfl,e1,Y.cl,Y.n_found,a2,fd,_,rfl,dgf e4 hce,_,rfl,?_⟩
  cases hk:aO kf (bQ nm c p)with
  |some v'=>
   obtain rfl:=hcon v' hk;refine bB (bB ⟨_,rfl,_,rfl,fi,CF,dx,_,_,rfl,e1,Y.cl,Y.n_found,a2,fd,_,rfl,dgf e4 hce,?_⟩);rw[hk];exact q H kf (.inl rfl) hk hF (bI.of (aJ.refl H))
  |none=>
   refine cZ ⟨_,rfl,ce,_,_,_,rfl,rfl,dG.of hce,rfl,_,rfl,B.b,CB,d1,_,_,rfl,b1,W.cl,W.n_rules,(cE _ _ _ _).2.1,B.ru,_,rfl,cG.k (k:=Sum.inr c) b5,_,rfl,?_⟩;rw[hru];refine cZ ⟨_,rfl,B.b,CB,d1,_,_,rfl,b1,W.cl,W.n_given,(cE _ _ _ _).1,B.g,d2,_,rfl,b2,cL,_,rfl,ce,_,_,_,rfl,rfl,dG.of hce,rfl,_,rfl,ce,_,_,_,rfl,rfl,dG.of hce,rfl,B.g,B.r,B.e,B.xs,B.n,B.kvs,c,l,ys,p,v,rfl,tb,hc,hv,hl,hp,ha,fun H1 s1=> ?_⟩;have F1:=hF.same s1;have c1:=s1 _ _ hce;have nce:ce≠fd:=fun z=>by rw[z,e4]at hce;cases hce
   refine⟨_,rfl,fi,CF,dx,_,_,rfl,s1 _ _ e1,Y.cl,Y.n_found,a2,_,rfl,fd,_,rfl,.inr ⟨kf,bQ nm c p,ce,F1.fnd,rfl,c1,dQ (by omega),rfl⟩,?_⟩
   have vp:aO (bH kf (bQ nm c p) v) (bQ nm c p)=some v:=by rw[lX,if_pos rfl]
   have lp:=nP kf (bQ nm c p) v;have b2':bI fd H1 (upd H1 fd (.dT (bH kf (bQ nm c p) v))):=fun b o n z=>by rw[aF n];exact z
   have F2:=F1.put b2' aK (by omega);have c2:=b2' _ _ nce c1;have f2:=F2.fnd
   generalize upd H1 fd (.dT (bH kf (bQ nm c p) v))=H2 at b2' F2 c2 f2|-
   obtain⟨dx2,e12⟩:=F2.fin;refine⟨_,rfl,_,rfl,fi,CF,dx2,_,_,rfl,e12,Y.cl,Y.n_found,a2,fd,_,rfl,dgf f2 c2,?_⟩;rw[vp];exact q H2 _ (.inr rfl) vp F2 ((bI.of s1).trans b2')
end
abbrev nD:=Str×Str×Nat
inductive GT where
 |done(t:PyData ⊕ List Int)
 |look(c:nD)(k:PyData->GT)
inductive GT.Path(val:nD->PyData)(τ:GT):List nD->GT->Prop
 |nil:GT.Path val τ [] τ
 |snoc {us:List nD} {c:nD} {k:PyData->GT} (h:GT.Path val τ us (.look c k)):GT.Path val τ (us++ [c]) (k (val c))
theorem iC(h:xs[i]?=some v):bV xs (i:Int)=some v:=by
 have hi:=(List.getElem?_eq_some_iff.mp h).1;unfold bV;rw[uQ (by omega) (by omega),Int.toNat_natCast];exact h
theorem zZ{α β:Type}{R:α->β->Prop}:∀{xs:List α} {ys:List β} {i:Nat} {x:α},Paired R xs ys->xs[i]?=some x->∃y,ys[i]?=some y/\R x y
 |_,_,_,_,.nil,e=>by simp at e
 |_,_,0,_,.cons h _,e=>by simp at e;subst e;exact⟨_,rfl,h⟩
 |_,_,i+ 1,_,.cons _ t,e=>by simpa using zZ (i:=i) t (by simpa using e)
theorem Paired.imp{α β:Type}{R R':α->β->Prop}(h:∀a b,R a b->R' a b):∀{xs:List α} {ys:List β},Paired R xs ys->Paired R' xs ys
 |_,_,.nil=> .nil
 |_,_,.cons a t=> .cons (h _ _ a) (Paired.imp h t)
theorem Paired.snoc{α β:Type}{R:α->β->Prop}{x:α}{y:β}(h:R x y):∀{xs:List α} {ys:List β},Paired R xs ys->Paired R (xs++ [x]) (ys++ [y])
 |_,_,.nil=> .cons h .nil
 |_,_,.cons a t=> .cons a (Paired.snoc h t)
section
variable{ae:Heap}
def nF(CS CB CT:Addr)(s bd ch fi:Addr)(kb:List (aB×V))(nm:Str)(B:BM)(H:Hp):Prop:=(∃dx,H s=some (.ins CS dx (cQ bd ch fi)))/\H bd=some (.dK kb)/\Nl nm/\aO kb (.inr nm:aB)=some (.ref B.b)/\bP CB CT H B
inductive tX(CS CB CT:Addr)(vs:List V)(H:Hp)(Q:VK)(E:XK):Prop
 |mk (s bd ch fi:Addr) (kb:List (aB×V)) (nm t:Str) (p:Nat) (B:BM):vs= [.ref s,.str nm,.str t,.int (p:Int)] ->nF CS CB CT s bd ch fi kb nm B H->Nl t->t∈B.ord->p<B.xs.length->(∀H',aJ H H'->Q .non H')->tX CS CB CT vs H Q E
theorem a2z:aX ["self","table","column","place"] ["self","table","column","place"] (aR yL):={}
theorem a0Q(T:aW K mg)(Y:dE K mg CS)(W:cF K mg CB)(Z:bX K mg CT):aL P w K mg ae aD 4 CS "check_cell" ["self","table","column","place"] (tX CS CB CT):=by
 have G_with:aL P w K mg ae aD 3 CS "board_with" ["self","table","column"] (kW CS CB CT):=pP T Y W;have G_pl:bA P w K mg ae aD 2 "check_place" ["place","places"] iM:=kA T;have G_many:aL P w K mg ae aD 1 CT "many" ["self"] (fB CT):=fV T Z;refine Y.m_check_cell.known a2z (fun _ _ _ _ _ _ us hl=>iD (fun _ _ _ _=>rfl) us hl) (fun vs H Q E h=> ?_) (fun f ag A af s H vs Q E hr h=> ?_)
 ·obtain⟨s',bd,ch,fi,kb,nm,t,p,B,rfl,_⟩:=h
  rfl
 ·obtain⟨s',bd,ch,fi,kb,nm,t,p,B,rfl,hS,ht,hm,hp,q⟩:=h
  refine⟨_,aH (bL (bJ G_pl hr.mn aI (aA (pv 3) (aA (dR (aQ (bG (pv 0) Y.cl G_with hr aI (aA (pv 1) (aA (pv 2) aE))) rfl) Z.cl G_many hr.mn aI) aE)))),?_⟩;obtain⟨dx,hs⟩:=hS.1;refine⟨_,rfl,_,rfl,s',dx,_,rfl,hs,cK,_,rfl,_,rfl,s',bd,ch,fi,dx,kb,nm,t,B,rfl,hs,hS.2.1,hS.2.2.1,hS.2.2.2.1,hS.2.2.2.2,ht,hm,fun H1 s1=> ?_⟩;obtain⟨dB,hb⟩:=hS.2.2.2.2.at_;obtain⟨dT,hT⟩:=hS.2.2.2.2.tab.at_;exact⟨B.b,CB,dB,_,_,rfl,s1 _ _ hb,W.cl,W.n_given,(cE _ _ _ _).1,B.g,dT,_,rfl,s1 _ _ hT,cL,B.g,B.r,B.e,B.xs,B.n,B.kvs,rfl,hS.2.2.2.2.tab.same s1,p,B.xs.length,rfl,hp,q H1 s1⟩
inductive nO(CS CF CB CT:Addr)(sp:Sp)(vs:List V)(H:Hp)(Q:VK)(E:XK):Prop
 |mk (s bd ch fi df:Addr) (kb:List (aB×V)) (nm t:Str) (p:Nat) (B:BM) (fs:List (Str×V)):vs= [.ref s,.str nm,.str t,.int (p:Int)] ->nF CS CB CT s bd ch fi kb nm B H->Nl t->t∈B.ord->p<B.xs.length->H fi=some (.ins CF df fs)->fs.lookup ("value_of":Str)=none->(∀H1 ce,H ce=none->aJ H H1->H1 ce=some (.tup ((bQ nm t p).map kV))->sp [.ref fi,.ref ce] H1 Q E0)->nO CS CF CB CT sp vs H Q E
theorem a2m:aX ["self","table","column","place"] ["self","table","column","place"] (aR wB):={}
theorem a2s(T:aW K mg)(Y:dE K mg CS)(F:dZ K mg CF)(W:cF K mg CB)(Z:bX K mg CT){k:Nat}(hk:4<=k)(G:aL P w K mg ae aD k CF "value_of" ["self","cell"] sp):aL P w K mg ae aD (k+ 1) CS "cell" ["self","table","column","place"] (nO CS CF CB CT sp):=by
 have G_chk:aL P w K mg ae aD 4 CS "check_cell" ["self","table","column","place"] (tX CS CB CT):=a0Q T Y W Z;refine Y.m_cell.known a2m (fun _ _ _ _ _ _ us hl=>iD (fun _ _ _ _=>rfl) us hl) (fun vs H Q E h=> ?_) (fun f ag A af s H vs Q E hr h=> ?_)
 ·obtain⟨s',bd,ch,fi,df,kb,nm,t,p,B,fs,rfl,_⟩:=h
  rfl
 ·obtain⟨s',bd,ch,fi,df,kb,nm,t,p,B,fs,rfl,hS,ht,hm,hp,hfi,hno,q⟩:=h
  refine⟨_,aG (bL (bG (pv 0) Y.cl G_chk (hr.mono hk) aI (aA (pv 1) (aA (pv 2) (aA (pv 3) aE)))))
   (aH (bM (bG (aQ (pv 0) rfl) F.cl G hr aI (aA (nX (aA (pv 1) (aA (pv 2) (aA (pv 3) aE)))) aE)))),?_⟩
  obtain⟨dx,hs⟩:=hS.1;refine⟨_,rfl,s',dx,_,rfl,hs,cK,_,rfl,_,rfl,_,rfl,s',bd,ch,fi,kb,nm,t,p,B,rfl,hS,ht,hm,hp,fun H1 s1=> ?_⟩;refine⟨_,rfl,s',CS,dx,_,_,rfl,s1 _ _ hs,Y.cl,Y.n_finder,(jX _ _ _).2.2.1,fi,df,fs,rfl,s1 _ _ hfi,hno,_,rfl,_,rfl,_,rfl,sl,fun ce hce=> ?_⟩;exact q _ ce (dA s1 hce) (s1.trans (aJ.new hce)) aK
end
theorem a2H:fW (oS C CB CT):=fun vs H Q Q' hQ h=>by
 obtain⟨p,dx,bd,nm,m,kb,e1,e2,e3,e4,e5,q⟩:=h;exact⟨p,dx,bd,nm,m,kb,e1,e2,e3,e4,e5,fun H' b g r e ru me od a1 a2 a3 a4 a5=>hQ _ _ (q H' b g r e ru me od a1 a2 a3 a4 a5)⟩
theorem a10:fW (oU K CB CT):=fun vs H Q Q' hQ h=>by
 obtain⟨B,t,a,ys,ds,e1,e2,e3,e4,e5,e6,e7,e8,e9,e10,e11,e12,q⟩:=h;exact⟨B,t,a,ys,ds,e1,e2,e3,e4,e5,e6,e7,e8,e9,e10,e11,e12,fun H' l a1 a2 a3 a4=>hQ _ _ (q H' l a1 a2 a3 a4)⟩
theorem a1J(h:fW sp):fW (qG C CB CT sp):=fun vs H Q Q' hQ g=>by
 obtain⟨p,dx,a,B,t,e1,e2,e3,e4,q⟩:=g;exact⟨p,dx,a,B,t,e1,e2,e3,e4,h _ _ _ _ (fun v H' z=>hQ _ _ z) q⟩
theorem a4k:fW (oW K C CB CT):=fun vs H Q Q' hQ h=>by
 obtain⟨p,dx,l,B,t,i,v,u,d,ys,e1,e2,e3,e4,e5,e6,e7,e8,e9,q⟩:=h;exact⟨p,dx,l,B,t,i,v,u,d,ys,e1,e2,e3,e4,e5,e6,e7,e8,e9,fun H' a1 a2=>hQ _ _ (q H' a1 a2)⟩
theorem gY(h:upd H a o b=none):H b=none/\b≠a:=by
 have:b≠a:=fun y=>by rw[y,aK]at h;cases h
 rw[aF this]at h;exact⟨h,this⟩
section
variable{ae:Heap}
theorem a5t(bd ch fi:Addr):aM "finder" (.ref fi) (aM "changes" (.ref ch) (aM "boards" (.ref bd) []))=cQ bd ch fi:=by
 rfl
inductive tF(CS CF:Addr)(vs:List V)(H:Hp)(Q:VK)(E:XK):Prop
 |mk (p dx:Addr):vs= [.ref p] ->H p=some (.ins CS dx [])->(∀H' bd ch fi fd lk df,(∀x∈ [bd,ch,fi,fd,lk],H x=none)->fd≠lk->H' p=some (.ins CS dx (cQ bd ch fi))->H' bd=some (.dK [])->H' ch=some (.lst [])->H' fi=some (.ins CF df (eT bd fd lk))->H' fd=some (.dT [])->H' lk=some (.dT [])->bI p H H'->Q .non H')->tF CS CF vs H Q E
theorem a0Z:aX ["self"] ["self"] (aR zM):={}
theorem a1G(T:aW K mg)(Y:dE K mg CS)(Z:dZ K mg CF):dM P w K mg ae aD 3 CS ["self"] (tF CS CF):=by
 have GI:dM P w K mg ae aD 1 CF ["self","boards"] (oF CF):=zS T Z;refine(Y.m_init.known a0Z (fun _ _ _ _ _ _ us hl=>eJ (fun _=>rfl) us hl) (fun vs H Q E h=> ?_) (fun f ag A af s H vs Q E hr h=> ?_)).init Y.mks Y.kc
 ·obtain⟨p,dx,rfl,_⟩:=h
  rfl
 ·obtain⟨p,dx,rfl,hp,q⟩:=h
  refine⟨_,(aG (bY (pv 0) kE rfl)
   (aG (bY (pv 0) (hG aE) rfl)
   (aH (bY (pv 0) (gX GI hr Z.c aI (aA (aQ (pv 0) rfl) aE)) rfl)))),?_⟩
  intro bd hbd;have s1:=aJ.new (o:=.dK []) hbd;have b1:upd H bd (.dK []) bd=some (.dK []):=aK;have n1:∀{b:Addr},upd H bd (.dK []) b=none->H b=none/\b≠bd:=gY
  generalize upd H bd (.dK [])=H1 at s1 b1 n1|-
  refine⟨_,rfl,p,CS,dx,[],rfl,s1 _ _ hp,Y.cl,Y.n_boards,(by show 0<1000;decide),?_⟩;have u2:bI p H1 (upd H1 p (.ins CS dx (aM "boards" (.ref bd) []))):=fun b o n z=>by rw[aF n];exact z
  have p2:upd H1 p (.ins CS dx (aM "boards" (.ref bd) [])) p=some (.ins CS dx (aM "boards" (.ref bd) [])):=aK;have n2:∀{b:Addr},upd H1 p (.ins CS dx (aM "boards" (.ref bd) [])) b=none->H1 b=none/\b≠p:=gY
  generalize upd H1 p (.ins CS dx (aM "boards" (.ref bd) []))=H2 at u2 p2 n2|-
  refine⟨sl,fun ch hch=> ?_⟩;have s3:=aJ.new (o:=.lst []) hch;have c3:upd H2 ch (.lst []) ch=some (.lst []):=aK;have n3:∀{b:Addr},upd H2 ch (.lst []) b=none->H2 b=none/\b≠ch:=gY
  generalize upd H2 ch (.lst [])=H3 at s3 c3 n3|-
  refine⟨_,rfl,p,CS,dx,_,rfl,s3 _ _ p2,Y.cl,Y.n_changes,(by show 1<1000;decide),?_⟩;have u4:bI p H3 (upd H3 p (.ins CS dx (aM "changes" (.ref ch) (aM "boards" (.ref bd) [])))):=fun b o n z=>by rw[aF n];exact z
  have p4:upd H3 p (.ins CS dx (aM "changes" (.ref ch) (aM "boards" (.ref bd) []))) p=some (.ins CS dx (aM "changes" (.ref ch) (aM "boards" (.ref bd) []))):=aK;have n4:∀{b:Addr},upd H3 p (.ins CS dx (aM "changes" (.ref ch) (aM "boards" (.ref bd) []))) b=none->H3 b=none/\b≠p:=gY
  generalize upd H3 p (.ins CS dx (aM "changes" (.ref ch) (aM "boards" (.ref bd) [])))=H4 at u4 p4 n4|-
  have npb:bd≠p:=fun y=>by rw[y,hp]at hbd;cases hbd
  have npc:ch≠p:=fun y=>by rw[y,p2]at hch;cases hch
  refine⟨_,rfl,p,CS,dx,_,_,rfl,p4,Y.cl,Y.n_boards,(show List.lookup ("boards":Str) (aM "changes" (V.ref ch) (aM "boards" (V.ref bd) []))=some (.ref bd) from rfl),?_⟩;intro fi df hfi hdf ne;refine⟨fi,df,bd,rfl,aK,fun H5 fd lk hfd hlk nfl g1 g2 g3 b5=>⟨rfl,?_⟩⟩;have s5:aJ H4 H5:=fun b o z=>b5 b o (bK z hfi) (by rw[aF (bK z hfi),aF (bK z hdf)];exact z)
  have fr:∀{x:Addr},upd (upd H4 df (.own fi)) fi (.ins CF df []) x=none->H4 x=none:=fun{x} z=>(gY (gY z).1).1
  refine⟨_,rfl,p,CS,dx,_,rfl,s5 _ _ p4,Y.cl,Y.n_finder,(by show 2<1000;decide),?_⟩;rw[a5t];have u6:bI p H5 (upd H5 p (.ins CS dx (cQ bd ch fi))):=fun b o n z=>by rw[aF n];exact z
  have dn:∀{x:Addr},H4 x=none->H x=none/\x≠p:=fun z=>⟨(n1 (n2 (n3 (n4 z).1).1).1).1,(n4 z).2⟩
  have fC:=dn (fr hfd);have frl:=dn (fr hlk);have frf:=dn hfi;have hc0:H ch=none:=(n1 (n2 hch).1).1;refine q _ bd ch fi fd lk df (fun x hx=> ?_) nfl aK (u6 _ _ npb (s5 _ _ (u4 _ _ npb (s3 _ _ (u2 _ _ npb b1))))) (u6 _ _ npc (s5 _ _ (u4 _ _ npc c3))) (u6 _ _ frf.2 g1) (u6 _ _ fC.2 g2) (u6 _ _ frl.2 g3) (fun b o n z=>u6 _ _ n (s5 _ _ (u4 _ _ n (s3 _ _ (u2 _ _ n (s1 _ _ z))))));simp only[List.mem_cons,List.not_mem_nil,or_false]at hx
  rcases hx with rfl|rfl|rfl|rfl|rfl
  ·exact hbd
  ·exact hc0
  ·exact frf.1
  ·exact fC.1
  ·exact frl.1
def jM(CS:Addr)(s bd ch:Addr)(cs:List V)(kb:List (aB×V))(H:Hp):Prop:=(∃dx fi,H s=some (.ins CS dx (cQ bd ch fi)))/\H ch=some (.lst cs)/\H bd=some (.dK kb)
inductive jC(CS CF:Addr)(s bd ch fi fd lk:Addr)(cs:List V)(kb:List (aB×V))(H0 H:Hp):Prop
 |mk:(∃dx,H s=some (.ins CS dx (cQ bd ch fi)))->H ch=some (.lst cs)->H bd=some (.dK kb)->(∃df,H fi=some (.ins CF df (eT bd fd lk)))->H fd=some (.dT [])->H lk=some (.dT [])->fd≠lk->H0 fi=none->H0 fd=none->H0 lk=none->jC CS CF s bd ch fi fd lk cs kb H0 H
inductive rP(CS CF CB CT:Addr)(vs:List V)(H:Hp)(Q:VK)(E:XK):Prop
 |mk (s bd ch:Addr) (cs:List V) (kb:List (aB×V)) (nm:Str) (m:Nat):vs= [.ref s,.str nm,.int (m:Int)] ->jM CS s bd ch cs kb H->cs.length<900->kb.length<4->Nl nm->aO kb (.inr nm:aB)=none->m<=30->(∀H' fi fd lk c b g r e ru me od,jC CS CF s bd ch fi fd lk (cs++ [.ref c]) (bH kb (.inr nm:aB) (.ref b)) H H'->bP CB CT H' ⟨b,g,r,e,ru,me,od,fO 0 m,(m:Int),[],[],[],[]⟩ ->BM.sep ⟨b,g,r,e,ru,me,od,fO 0 m,(m:Int),[],[],[],[]⟩ ->(∀x∈ [b,g,r,e,ru,me,od],H x=none)->(∀x o,x≠s->x≠ch->x≠bd->H x=some o->H' x=some o)->Q .non H')->rP CS CF CB CT vs H Q E
theorem a4p:aX ["self","name","many"] ["self","name","many"] (aR zE):={}
theorem a4Y(T:aW K mg)(Y:dE K mg CS)(Z:dZ K mg CF)(W:cF K mg CB)(U:bX K mg CT)(C:qM K mg CC):aL P w K mg ae aD 9 CS "table" ["self","name","many"] (rP CS CF CB CT):=by
 have G_is_name:bA P w K mg ae aD 1 "is_name" ["thing"] (gQ K):=iS T;have G_size:bA P w K mg ae aD 2 "check_size" ["many"] pB:=wR T;have GI:dM P w K mg ae aD 1 CC ["self","boards","name","size"] (sN CC):=a3o T C;have G_make:aL P w K mg ae aD 8 CS "make" ["self","change"] (jD CS CF CC (oS CC CB CT)):=lJ T Y Z C.cl a2H (a3T T C W U);refine Y.m_table.known a4p (fun _ _ _ _ _ _ us hl=>gA (fun _ _ _=>rfl) us hl) (fun vs H Q E h=> ?_) (fun f ag A af s H vs Q E hr h=> ?_)
 ·obtain⟨s',bd,ch,cs,kb,nm,m,rfl,_⟩:=h
  rfl
 ·obtain⟨s',bd,ch,cs,kb,nm,m,rfl,hS,cl,kl,hn,hv,hm,q⟩:=h
  have hu:=cR hr
  refine⟨_,(aG (bF (PW.pt (dO (cV (cU (bJ G_is_name hr.mn aI (aA (pv 1) aE)) (fun _=>rfl))) (eM (gW (jE hu (pv 1) (aQ (pv 0) rfl)))))) (aH bT) bN)
   (aG (bL (bJ G_size hr.mn aI (aA (pv 2) aE)))
   (aG (bF (bW nI (cA qF rfl T.len dY (aA (aQ (pv 0) rfl) aE)) (jV T.g_MOST_TABLES) (cC _)) (aH bT) bN)
   (aH (bL (bG (pv 0) Y.cl G_make hr aI (aA (gX GI hr.mn C.c aI (aA (aQ (pv 0) rfl) (aA (pv 1) (aA (pv 2) aE)))) aE))))))),?_⟩
  have h8:=hn.2.1;obtain⟨⟨dx,fi0,h1⟩,h2,h3⟩:=hS;obtain⟨a1,a2,a3,a4⟩:=jX bd ch fi0;refine⟨_,rfl,_,.str nm,rfl,.str nm,hJ (by omega),fun H0 s9=>⟨_,rfl,?_⟩⟩;rw[show eF (.str nm)=true from hn.name];have h1:=s9 _ _ h1;have h2':=s9 _ _ h2;have h3':=s9 _ _ h3;refine bB ⟨_,rfl,_,rfl,s',CS,dx,_,_,rfl,h1,Y.cl,Y.n_boards,a1,bd,_,rfl,cG.k (k:=Sum.inr nm) h3',_,rfl,?_⟩;rw[hv];refine bB ⟨_,rfl,m,rfl,hm,?_⟩;refine⟨_,rfl,s',CS,dx,_,_,rfl,h1,Y.cl,Y.n_boards,a1,bd,kb,rfl,h3',_,_,rfl,rfl,_,rfl,?_⟩;refine dX (fun g=>absurd (of_decide_eq_true g) (by omega)) (fun g=> ?_);refine⟨_,rfl,s',dx,_,rfl,h1,cK,_,rfl,s',CS,dx,_,_,rfl,h1,Y.cl,Y.n_boards,a1,_,rfl,_,rfl,?_⟩;intro c dc hc hdc ne;refine⟨c,dc,bd,nm,m,rfl,aK,fun H1 b1 c1=>⟨rfl,?_⟩⟩;have s1:aJ H0 H1:=fun b o z=>b1 b o (bK z hc) (by rw[aF (bK z hc),aF (bK z hdc)];exact z)
  refine⟨s',c,bd,ch,fi0,dx,dc,cs,_,rfl,c1,(pV _ _ _).2.2.2,c,dc,bd,nm,m,kb,rfl,c1,s1 _ _ h3',by omega,hm,fun H2 b g r e ru me od B2 sp2 fr2 bd2 u2=> ?_⟩;have ns:s'≠bd:=fun y=>by rw[y,h3']at h1;cases h1
  have nc:ch≠bd:=fun y=>by rw[y,h3']at h2';cases h2'
  have nsc:s'≠ch:=fun y=>by rw[y,h2']at h1;cases h1
  refine⟨u2 _ _ ns (s1 _ _ h1),u2 _ _ nc (s1 _ _ h2'),cl,fun H3 fi fd lk df f1 f2 f3 nfl g1 g2 g3 g4 g5 u3=> ?_⟩;have n0:∀{x:Addr},H2 x=none->H x=none:=fun{x} e=>by
   cases e2:H x with
   |none=>rfl
   |some o=>
    by_cases y:x=bd
    ·rw[y,bd2]at e;cases e
    ·rw[u2 _ _ y (s1 _ _ (s9 _ _ e2))]at e;cases e
  have k3:∀{x:Addr} {o:HO},H2 x=some o->x≠s'->x≠ch->H3 x=some o:=fun e n m=>u3 _ _ n m e
  have fr:∀x∈ [b,g,r,e,ru,me,od],H x=none:=fun x hx=>dA (s9.trans s1) (fr2 x hx)
  have nb:∀{x:Addr},x∈ [b,g,r,e,ru,me,od] ->x≠s'/\x≠ch:=fun hx=>⟨fun y=>by{have:=s1 _ _ h1;rw[<- y,fr2 _ hx]at this;cases this},fun y=>by{have:=s1 _ _ h2';rw[<- y,fr2 _ hx]at this;cases this}⟩
  obtain⟨⟨d1,e1⟩,⟨⟨d2,e2⟩,e3,e4⟩,e5,e6,e7⟩:=B2;have kb2:∀{x:Addr} {o:HO},x∈ [b,g,r,e,ru,me,od] ->H2 x=some o->H3 x=some o:=fun hx e=>k3 e (nb hx).1 (nb hx).2
  exact q H3 fi fd lk c b g r e ru me od ⟨⟨dx,g1⟩,g2,k3 bd2 ns.symm nc.symm,⟨df,g3⟩,g4,g5,nfl,n0 f1,n0 f2,n0 f3⟩ ⟨⟨d1,kb2 (by simp) e1⟩,⟨⟨d2,kb2 (by simp) e2⟩,kb2 (by simp) e3,kb2 (by simp) e4⟩,kb2 (by simp) e5,kb2 (by simp) e6,kb2 (by simp) e7⟩ sp2 fr (fun x o n1 n2 n3 e=>k3 (u2 _ _ n3 (s1 _ _ (s9 _ _ e))) n1 n2)
theorem a12(r:Addr)(n:Int)(d bd ch fi:Addr):fF r n d≠cQ bd ch fi:=fun h=>by
 have h1:(fF r n d).map (·.1)=(cQ bd ch fi).map (·.1):=by rw[h]
 exact absurd h1 (show¬([("row_numbers":Str),("fresh_number":Str),("kept":Str)]= [("boards":Str),("changes":Str),("finder":Str)])by decide+kernel)
theorem bP.off{s ch:Addr}(h:bP CB CT H B)(hs:∃dx bd ch' fi,H s=some (.ins CS dx (cQ bd ch' fi)))(hc:H ch=some (.lst cs))(n1:ch≠B.r)(n2:ch≠B.od)(u:∀x o,x≠s->x≠ch->H x=some o->H' x=some o):bP CB CT H' B:=by
 obtain⟨dx,bd,ch',fi,hs⟩:=hs;obtain⟨⟨d1,e1⟩,⟨⟨d2,e2⟩,e3,e4⟩,e5,e6,e7⟩:=h;have k:∀{x:Addr} {o:HO},H x=some o->(∀a b c,o≠ .ins a b c)->x≠ch->H' x=some o:=fun e n m=>u _ _ (fun y=>by rw[y,hs]at e;exact n _ _ _ (Option.some.inj e).symm) m e
 have nc:∀{x:Addr} {o:HO},H x=some o->(∀a,o≠ .lst a)->x≠ch:=fun e n y=>by rw[y,hc]at e;exact n _ (Option.some.inj e).symm
 refine⟨⟨d1,u _ _ (mK e1 hs (show 4≠3 by decide)) (nc e1 nk) e1⟩,⟨⟨d2,u _ _ (fun y=> ?_) (nc e2 nk) e2⟩,k e3 (fun _ _ _ y=>by cases y) n1.symm,k e4 (fun _ _ _ y=>by cases y) (nc e4 nk)⟩,k e5 (fun _ _ _ y=>by cases y) (nc e5 nk),k e6 (fun _ _ _ y=>by cases y) (nc e6 nk),k e7 (fun _ _ _ y=>by cases y) n2.symm⟩;rw[y,hs]at e2;cases e2
structure jW(bd ch:Addr)(B:BM):Prop where
 r:ch≠B.r
 o:ch≠B.od
 e:bd≠B.e
 u:bd≠B.ru
 m:bd≠B.me
inductive qH(K:Fg)(CS CF CB CT:Addr)(vs:List V)(H:Hp)(Q:VK)(E:XK):Prop
 |mk (s bd ch a:Addr) (cs:List V) (kb:List (aB×V)) (nm t:Str) (ys:List V) (ds:List PyData) (B:BM):vs= [.ref s,.str nm,.str t,.ref a] ->jM CS s bd ch cs kb H->cs.length<900->Nl nm->aO kb (.inr nm:aB)=some (.ref B.b)->bP CB CT H B->B.sep->jW bd ch B->oZ B t->Nl t->H a=some (.lst ys)->a≠B.od->dC K H ys ds->ys.length=B.xs.length->ys.length<=30->B.kvs.length<8->B.ord.length<8->(∀H' fi fd lk c l,jC CS CF s bd ch fi fd lk (cs++ [.ref c]) kb H H'->H l=none->bP CB CT H' {B with kvs:=bH B.kvs (.inr t:aB) (.ref l),ord:=B.ord++ [t]} ->H' l=some (.lst ys)->(∀x o,x≠s->x≠ch->x≠B.od->x≠B.e->H x=some o->H' x=some o)->Q .non H')->qH K CS CF CB CT vs H Q E
theorem oJ:aX ["self","table","column","values","board"] ["self","table","column","values"] (aR vV):={}
theorem a4J(T:aW K mg)(Y:dE K mg CS)(Z:dZ K mg CF)(W:cF K mg CB)(U:bX K mg CT)(C:jH K mg CC):aL P w K mg ae aD 9 CS "give" ["self","table","column","values"] (qH K CS CF CB CT):=by
 have G_for:aL P w K mg ae aD 3 CS "board_for" ["self","table","column"] (sJ CS CB CT):=a3K T Y W;have G_many:aL P w K mg ae aD 1 CT "many" ["self"] (fB CT):=fV T U;have G_cv:bA P w K mg ae aD 4 "check_values" ["values","many"] (mM K):=tH T;have GI:dM P w K mg ae aD 1 CC ["self","board","column","content"] (oI CC):=xR T C;have G_make:aL P w K mg ae aD 8 CS "make" ["self","change"] (jD CS CF CC (qG CC CB CT (oU K CB CT))):=lJ T Y Z C.cl (a1J a10) (a1I T C W (a3C T W U));refine Y.m_give.known oJ (fun _ _ _ _ _ _ us hl=>iD (fun _ _ _ _=>rfl) us hl) (fun vs H Q E h=> ?_) (fun f ag A af s H vs Q E hr h=> ?_)
 ·obtain⟨s',bd,ch,a,cs,kb,nm,t,ys,ds,B,rfl,_⟩:=h
  rfl
 ·obtain⟨s',bd,ch,a,cs,kb,nm,t,ys,ds,B,rfl,hS,cl,hn,hv,hB,sep,ss,new,ht,ha,nao,hp,ly,l30,k8,o8,q⟩:=h
  refine⟨_,(aG (cN (i:=4) oJ.nd rfl (Or.inl rfl) (bG (pv 0) Y.cl G_for hr.mn aI (aA (pv 1) (aA (pv 2) aE))))
   (aG (bL (bJ G_cv hr.mn aI (aA (pv 3) (aA (dR (aQ (pv 4) rfl) U.cl G_many hr.mn aI) aE))))
   (aH (bL (bG (pv 0) Y.cl G_make hr aI (aA (gX GI hr.mn C.c aI (aA (pv 4) (aA (pv 2) (aA (pv 3) aE)))) aE)))))),?_⟩
  obtain⟨⟨dx,fi0,h1⟩,h2,h3⟩:=hS;refine⟨_,rfl,s',dx,_,rfl,h1,cK,_,rfl,_,rfl,s',bd,ch,fi0,dx,kb,nm,t,B,rfl,h1,h3,hn,hv,hB,ht,o8,fun H1 s1=> ?_⟩;obtain⟨dB,b1⟩:=(hB.same s1).at_;obtain⟨dT,t1⟩:=(hB.same s1).tab.at_;refine⟨_,rfl,_,rfl,B.b,CB,dB,_,_,rfl,b1,W.cl,W.n_given,(cE _ _ _ _).1,B.g,dT,_,rfl,t1,cL,B.g,B.r,B.e,B.xs,B.n,B.kvs,rfl,(hB.same s1).tab,?_⟩;refine⟨a,ys,ds,by rw[ly];rfl,aN.of (s1 _ _ ha),hp.keep (bS.of s1),by omega,fun H2 s2=> ?_⟩;have s12:=s1.trans s2;refine⟨_,rfl,s',dx,_,rfl,s12 _ _ h1,cK,_,rfl,_,rfl,_,rfl,?_⟩;intro c dc hc hdc ne;refine⟨c,dc,B.b,a,t,rfl,aK,fun H3 b3 c3=>⟨rfl,?_⟩⟩;have s3:aJ H H3:=fun b o z=>b3 b o (bK (s12 _ _ z) hc) (by rw[aF (bK (s12 _ _ z) hc),aF (bK (s12 _ _ z) hdc)];exact s12 _ _ z)
  have hB3:=hB.same s3;refine⟨s',c,bd,ch,fi0,dx,dc,cs,_,rfl,c3,(oP _ _ _).2.2.2.1,c,dc,a,B,t,rfl,c3,hB3,new,B,t,a,ys,ds,rfl,hB3,sep,new,ht,s3 _ _ ha,nao,hp.keep (bS.of s3),ly,l30,k8,by omega,fun H4 l hl B4 l4 u4=> ?_⟩;have hB0:=hB.ord;have he0:=hB.tab.kept;have k4:∀{x:Addr} {o:HO},H x=some o->x≠B.od->x≠B.e->H4 x=some o:=fun e n m=>u4 _ _ n m (s3 _ _ e)
  have ns:s'≠B.od/\s'≠B.e:=⟨fun y=>by{rw[y,hB0]at h1;cases h1},fun y=>by{rw[y,he0]at h1;cases h1}⟩;have nce:ch≠B.e:=fun y=>by rw[y,he0]at h2;cases h2
  have nbo:bd≠B.od:=fun y=>by rw[y,hB0]at h3;cases h3
  have ns4:=k4 h1 ns.1 ns.2;have ch4:=k4 h2 ss.o nce;refine⟨ns4,ch4,cl,fun H5 fi fd lk df f1 f2 f3 nfl g1 g2 g3 g4 g5 u5=> ?_⟩;have nn:∀{x:Addr},H4 x=none->H x=none:=fun{x} e=>by
   cases e2:H x with
   |none=>rfl
   |some o=>
    by_cases y:x=B.od
    ·rw[y,B4.ord]at e;cases e
    ·by_cases y2:x=B.e
     ·rw[y2,B4.tab.kept]at e;cases e
     ·rw[k4 e2 y y2]at e;cases e
  have hl0:H l=none:=dA s3 hl;have nl:l≠s'/\l≠ch:=⟨fun y=>by{rw[y,h1]at hl0;cases hl0},fun y=>by{rw[y,h2]at hl0;cases hl0}⟩;have nb:bd≠s'/\bd≠ch:=⟨fun y=>by{rw[y,h1]at h3;cases h3},fun y=>by{rw[y,h2]at h3;cases h3}⟩;exact q H5 fi fd lk c l ⟨⟨dx,g1⟩,g2,u5 _ _ nb.1 nb.2 (k4 h3 nbo ss.e),⟨df,g3⟩,g4,g5,nfl,nn f1,nn f2,nn f3⟩ hl0 (B4.off ⟨dx,bd,ch,fi0,ns4⟩ ch4 ss.r ss.o u5) (u5 _ _ nl.1 nl.2 l4) (fun x o n1 n2 n3 n4 e=>u5 _ _ n1 n2 (k4 e n3 n4))
inductive uR(K:Fg)(CS CF CB CT:Addr)(vs:List V)(H:Hp)(Q:VK)(E:XK):Prop
 |mk (s bd ch l:Addr) (cs:List V) (kb:List (aB×V)) (nm t:Str) (p:Nat) (v:V) (d:PyData) (ys:List V) (B:BM):vs= [.ref s,.str nm,.str t,.int (p:Int),v] ->jM CS s bd ch cs kb H->cs.length<900->Nl nm->aO kb (.inr nm:aB)=some (.ref B.b)->bP CB CT H B->jW bd ch B->Nl t->t∈B.ord->aO B.rus (.inr t:aB)=none->aO B.kvs (.inr t:aB)=some (.ref l)->H l=some (.lst ys)->p<B.xs.length->ys.length=B.xs.length->Pv K H v d->l≠ch->l≠B.r->l≠B.od->(∀H' fi fd lk c,jC CS CF s bd ch fi fd lk (cs++ [.ref c]) kb H H'->bP CB CT H' B->H' l=some (.lst (ys.set p v))->(∀x o,x≠s->x≠ch->x≠l->H x=some o->H' x=some o)->Q .non H')->uR K CS CF CB CT vs H Q E
theorem a0t:aX ["self","table","column","place","value","board"] ["self","table","column","place","value"] (aR zB):={}
theorem a2c(T:aW K mg)(Y:dE K mg CS)(Z:dZ K mg CF)(W:cF K mg CB)(U:bX K mg CT)(C:nH K mg CC):aL P w K mg ae aD 9 CS "put" ["self","table","column","place","value"] (uR K CS CF CB CT):=by
 have G_with:aL P w K mg ae aD 3 CS "board_with" ["self","table","column"] (kW CS CB CT):=pP T Y W;have GI:dM P w K mg ae aD 1 CC ["self","board","column","place","value"] (tD CC):=a3A T C;have G_make:aL P w K mg ae aD 8 CS "make" ["self","change"] (jD CS CF CC (oW K CC CB CT)):=lJ T Y Z C.cl a4k (a1x T C W U);refine Y.m_put.known a0t (fun _ _ _ _ _ _ us hl=>lA (fun _ _ _ _ _=>rfl) us hl) (fun vs H Q E h=> ?_) (fun f ag A af s H vs Q E hr h=> ?_)
 ·obtain⟨s',bd,ch,l,cs,kb,nm,t,p,v,d,ys,B,rfl,_⟩:=h
  rfl
 ·obtain⟨s',bd,ch,l,cs,kb,nm,t,p,v,d,ys,B,rfl,hS,cl,hn,hv,hB,ss,ht,to,hru,hkv,hl,hp,ly,hpv,nlc,nlr,nlo,q⟩:=h
  have hu:=cR hr
  refine⟨_,(aG (cN (i:=5) a0t.nd rfl (Or.inl rfl) (bG (pv 0) Y.cl G_with hr.mn aI (aA (pv 1) (aA (pv 2) aE))))
   (aG (bF (gW (jE hu (pv 2) (aQ (pv 5) rfl))) (aH bT) bN)
   (aH (bL (bG (pv 0) Y.cl G_make hr aI (aA (gX GI hr.mn C.c aI (aA (pv 5) (aA (pv 2) (aA (pv 3) (aA (pv 4) aE))))) aE)))))),?_⟩
  obtain⟨⟨dx,fi0,h1⟩,h2,h3⟩:=hS;refine⟨_,rfl,s',dx,_,rfl,h1,cK,_,rfl,_,rfl,s',bd,ch,fi0,dx,kb,nm,t,B,rfl,h1,h3,hn,hv,hB,ht,to,fun H1 s1=> ?_⟩;obtain⟨dB,b1⟩:=(hB.same s1).at_;refine⟨_,rfl,_,rfl,B.b,CB,dB,_,_,rfl,b1,W.cl,W.n_rules,(cE _ _ _ _).2.1,B.ru,_,rfl,cG.k (k:=Sum.inr t) (hB.same s1).rul,_,rfl,?_⟩;rw[hru];refine bB ?_;refine⟨_,rfl,s',dx,_,rfl,s1 _ _ h1,cK,_,rfl,_,rfl,_,rfl,_,rfl,?_⟩;intro c dc hc hdc ne;refine⟨c,dc,B.b,t,p,v,rfl,aK,fun H3 b3 c3=>⟨rfl,?_⟩⟩;have s3:aJ H H3:=fun b o z=>b3 b o (bK (s1 _ _ z) hc) (by rw[aF (bK (s1 _ _ z) hc),aF (bK (s1 _ _ z) hdc)];exact s1 _ _ z)
  have hB3:=hB.same s3;refine⟨s',c,bd,ch,fi0,dx,dc,cs,_,rfl,c3,(sG _ _ _ _ _).2.2.2.2.1,c,dc,l,B,t,p,v,.non,d,ys,rfl,c3,hB3,ht,hkv,s3 _ _ hl,hp,ly,hpv.keep (bS.of s3),fun H4 u4 l4=> ?_⟩;have hc0:H c=none:=dA s1 hc;have k4:∀{x:Addr} {o:HO},H x=some o->x≠l->H4 x=some o:=fun e n=>u4 _ _ (fun y=>by rw[y,hc0]at e;cases e) n (s3 _ _ e)
  have nl:∀{x:Addr} {o:HO},H x=some o->(∀y,o≠ .lst y)->x≠l:=fun e n y=>by rw[y,hl]at e;exact n _ (Option.some.inj e).symm
  have ns4:=k4 h1 (nl h1 nk);have ch4:=k4 h2 nlc.symm;refine⟨ns4,ch4,cl,fun H5 fi fd lk df f1 f2 f3 nfl g1 g2 g3 g4 g5 u5=> ?_⟩;have nn:∀{x:Addr},H4 x=none->H x=none:=fun{x} e=>by
   cases e2:H x with
   |none=>rfl
   |some o=>
    by_cases y:x=l
    ·rw[y,l4]at e;cases e
    ·rw[k4 e2 y]at e;cases e
  have nb:bd≠s'/\bd≠ch:=⟨fun y=>by{rw[y,h1]at h3;cases h3},fun y=>by{rw[y,h2]at h3;cases h3}⟩;have nls:l≠s':=fun y=>by rw[y,h1]at hl;cases hl
  have B4:bP CB CT H4 B:=by
   obtain⟨⟨d1,e1⟩,⟨⟨d2,e2⟩,e3,e4⟩,e5,e6,e7⟩:=hB;exact⟨⟨d1,k4 e1 (nl e1 nk)⟩,⟨⟨d2,k4 e2 (nl e2 nk)⟩,k4 e3 nlr.symm,k4 e4 (nl e4 nk)⟩,k4 e5 (nl e5 nk),k4 e6 (nl e6 nk),k4 e7 nlo.symm⟩
  exact q H5 fi fd lk c ⟨⟨dx,g1⟩,g2,u5 _ _ nb.1 nb.2 (k4 h3 (nl h3 nk)),⟨df,g3⟩,g4,g5,nfl,nn f1,nn f2,nn f3⟩ (B4.off ⟨dx,bd,ch,fi0,ns4⟩ ch4 ss.r ss.o u5) (u5 _ _ nls nlc l4) (fun x o n1 n2 n3 e=>u5 _ _ n1 n2 (k4 e n3))
end
structure aZ where
 nm:Str
 l:Addr
 ys:List V
variable{c:My.aZ}{ts:List My.aZ}
def tk(ts:List aZ):List (aB×V):=ts.map fun c=>((Sum.inr c.nm:aB),V.ref c.l)
structure eS(C:Addr)(H:Hp)(p r e:Addr)(xs:List V)(n:Int)(ts:List aZ):Prop where
 tab:eB C H p r e xs n (tk ts)
 lst:∀c∈ts,H c.l=some (.lst c.ys)
 len:∀c∈ts,c.ys.length=xs.length
 nms:∀c∈ts,Nl c.nm
 nod:(ts.map (·.nm)).Nodup
 apt:(ts.map (·.l)).Nodup
 apr:∀c∈ts,c.l≠r
 few:ts.length<=8
theorem eS.same{r e:Addr}{n:Int}(W:eS C H p r e xs n ts)(s:aJ H H'):eS C H' p r e xs n ts:=
 ⟨W.tab.same s,fun c hc=>s _ _ (W.lst c hc),W.len,W.nms,W.nod,W.apt,W.apr,W.few⟩
theorem uL(nod:(ts.map (·.nm)).Nodup)(h:c∈ts):aO (tk ts) (.inr c.nm:aB)=some (.ref c.l):=by
 induction ts with
 |nil=>cases h
 |cons d r ih=>
  rw[List.map_cons,List.nodup_cons]at nod;by_cases hd:d.nm=c.nm
  ·rcases List.mem_cons.mp h with rfl|h
   ·exact fN rfl
   ·exact absurd (List.mem_map.mpr ⟨c,h,hd.symm⟩) nod.1
  ·rcases List.mem_cons.mp h with rfl|h
   ·exact absurd rfl hd
   ·show aO (((Sum.inr d.nm:aB),V.ref d.l)::tk r) _=_
    rw[eX (fun z=>hd (Sum.inr.inj z))];exact ih nod.2 h
theorem qS:(tk ts).map (fun p=>kV p.1)=(ts.map (·.nm)).map V.str:=by
 unfold tk;rw[List.map_map,List.map_map];rfl
theorem a4o:(tk ts).length=ts.length:=by unfold tk;rw[List.length_map]
theorem a0y(h:(ts.map (·.l)).Nodup){k:Nat}{d:aZ}(hc:ts[j]?=some c)(hd:ts[k]?=some d)(n:j≠k):c.l≠d.l:=fun z=>by
 have e1:(ts.map (·.l))[j]?=some c.l:=by rw[List.getElem?_map,hc];rfl
 have e2:(ts.map (·.l))[k]?=some c.l:=by rw[List.getElem?_map,hd,z];rfl
 have hj:j<(ts.map (·.l)).length:=(List.getElem?_eq_some_iff.mp e1).1;exact n ((List.getElem?_inj hj h).mp (e1.trans e2.symm))
theorem a3I(r:Addr)(n m:Int)(d:Addr):aM "fresh_number" (.int m) (fF r n d)=fF r m d:=by
 show(if("row_numbers":Str)= "fresh_number" then _ else _::(if("fresh_number":Str)= "fresh_number" then _ else _))=_;rw[if_neg (by decide+kernel),if_pos rfl];rfl
def xF(H H':Hp)(ts:List aZ)(g:aZ->List V):Prop:=(∀b o,H b=some o->(∀c∈ts,b≠c.l)->H' b=some o)/\∀c∈ts,H' c.l=some (.lst (g c))
section
variable{ae:Heap}
inductive nK(C:Addr)(vs:List V)(H:Hp)(Q:VK)(E:XK):Prop
 |mk (p:_) (r:_) (d:_) (xs:_) (n:_) (kvs:_):vs= [.ref p] ->eB C H p r d xs n kvs->(∀l,H l=none->Q (.ref l) (upd H l (.lst (kvs.map fun p=>kV p.1))))->nK C vs H Q E
theorem a2R:aX ["self"] ["self"] (aR a0u):={}
theorem rG(T:aW K mg)(Y:bX K mg C):aL P w K mg ae aD 1 C "columns" ["self"] (nK C):=by
 refine Y.m_columns.known a2R (fun _ _ _ _ _ _ us hl=>eJ (fun _=>rfl) us hl) (fun vs H Q E h=> ?_) (fun f ag A af s H vs Q E hr h=> ?_)
 ·obtain⟨p,r,d,xs,n,kvs,rfl,_⟩:=h
  rfl
 ·obtain⟨p,r,d,xs,n,kvs,rfl,⟨⟨dx,hp⟩,hr',hd⟩,q⟩:=h
  refine⟨_,(aH (bM (gT (oK rfl) rfl T.list gF (aA (aQ (pv 0) rfl) aE)))),?_⟩;exact⟨_,rfl,p,C,dx,_,_,rfl,hp,Y.cl,Y.n_kept,gB _ _ _,_,_,rfl,hd,q⟩
inductive uM(C:Addr)(vs:List V)(H:Hp)(Q:VK)(E:XK):Prop
 |mk (p:_) (r:_) (e:_) (xs:_) (n:_) (ts:_) (i:Nat):vs= [.ref p,.int (i:Int)] ->eS C H p r e xs n ts->i<xs.length->xs.length<=1000->(∀H',(∀b o,H b=some o->b≠r->(∀c∈ts,b≠c.l)->H' b=some o)->(∀c∈ts,H' c.l=some (.lst (c.ys.eraseIdx i)))->H' r=some (.lst (xs.eraseIdx i))->Q .non H')->uM C vs H Q E
theorem xP:aX ["self","place","column"] ["self","place"] (aR a0w):={}
theorem a29(T:aW K mg)(Y:bX K mg C):aL P w K mg ae aD 3 C "take_out" ["self","place"] (uM C):=by
 have G_check_place:bA P w K mg ae aD 2 "check_place" ["place","places"] iM:=kA T;have G_many:aL P w K mg ae aD 1 C "many" ["self"] (fB C):=fV T Y;have G_columns:aL P w K mg ae aD 1 C "columns" ["self"] (nK C):=rG T Y;refine Y.m_take_out.known xP (fun _ _ _ _ _ _ us hl=>cT (fun _ _=>rfl) us hl) (fun vs H Q E h=> ?_) (fun f ag A af s H vs Q E hr h=> ?_)
 ·obtain⟨p,r,e,xs,n,ts,i,rfl,_⟩:=h
  rfl
 ·obtain⟨p,r,e,xs,n,ts,i,rfl,W,i1,x1,q⟩:=h
  refine⟨_,(aG (bL (bJ G_check_place hr.mn aI (aA (pv 1) (aA (dR (pv 0) Y.cl G_many hr.mn aI) aE))))
   (aG (hW PassesOwn.never rfl (mQ (dR (pv 0) Y.cl G_columns hr.mn aI)) (dF (i:=2) xP.nd rfl (Or.inl rfl)) (aH (bL (gR F.plainAttrs_list F.slot_list_pop F.type_list_pop qU (eN (cR hr) (aQ (pv 0) rfl) (pv 2) (fun _ _=>rfl)) (aA (pv 1) aE)))))
   (aH (bL (gR F.plainAttrs_list F.slot_list_pop F.type_list_pop qU (aQ (pv 0) rfl) (aA (pv 1) aE)))))),?_⟩
  obtain⟨⟨dx,g1⟩,g2,g3⟩:=W.tab;refine⟨_,rfl,_,rfl,p,dx,_,rfl,g1,cL,p,r,e,xs,n,_,rfl,W.tab,i,xs.length,rfl,i1,?_⟩
  ·refine⟨_,rfl,p,dx,_,rfl,g1,cL,p,r,e,xs,n,_,rfl,W.tab,fun lc hlc=> ?_⟩
   rw[qS];have c1:aJ H (upd H lc (.lst ((ts.map (·.nm)).map V.str))):=aJ.new hlc;have hc1:upd H lc (.lst ((ts.map (·.nm)).map V.str)) lc=some (.lst ((ts.map (·.nm)).map V.str)):=aK
   generalize upd H lc (.lst ((ts.map (·.nm)).map V.str))=H1 at c1 hc1|-
   have W1:=W.same c1;have lne:∀c∈ts,lc≠c.l:=fun c hc=>(bK (W.lst c hc) hlc).symm
   refine⟨lc,rfl,⟨_,aN.of hc1⟩,?_⟩;refine qC (K:=K) (a:=lc) (xs:=(ts.map (·.nm)).map V.str) (fun j σ H2=>(∃y,σ= [some (.ref p),some (.int (i:Int)),y])/\xF H1 H2 (ts.take j) fun c=>c.ys.eraseIdx i) ⟨⟨_,rfl⟩,fun b o q _=>q,fun c hc=>by simp at hc⟩ (by rintro j σ H2 _ ⟨_,t⟩;exact aN.of (t.1 _ _ hc1 fun c hc=>lne c (List.mem_of_mem_take hc))) ?_ ?_
   ·rintro j v σ H2 hv ⟨⟨y,rfl⟩,t1,t2⟩
    obtain⟨c,hj,rfl⟩:∃c,ts[j]?=some c/\v= .str c.nm:=by
     rw[List.getElem?_map,List.getElem?_map]at hv
     cases z:ts[j]? with
     |none=>rw[z]at hv;cases hv
     |some c=>rw[z]at hv;cases hv;exact⟨c,rfl,rfl⟩
    have hc:=List.mem_of_getElem? hj;have apart:∀d∈ts.take j,c.l≠d.l:=fun d hd=>by
     obtain⟨k,hk⟩:=List.getElem?_of_mem hd;rw[List.getElem?_take]at hk;split at hk
     ·exact a0y W.apt hj hk (by omega)
     ·cases hk
    have k2:∀b o,H1 b=some o->(∀xs,o≠ .lst xs)->H2 b=some o:=fun b o q nn=>t1 b o q fun d hd=>eR q (W1.lst d (List.mem_of_mem_take hd)) (nn _)
    have hcl:H2 c.l=some (.lst c.ys):=t1 _ _ (W1.lst c hc) apart;obtain⟨⟨dx,h1⟩,h2,h3⟩:=W1.tab;have hlen:=W.len c hc
    have hk:seqIndex? (i:Int) c.ys.length=some i:=by have:=seqIndex_of (k:=(i:Int)) (n:=c.ys.length) (by omega) (by omega);simpa using this
    obtain⟨y0,hy0⟩:∃y0,c.ys[i]?=some y0:=⟨c.ys[i]'(by omega),by simp⟩;refine⟨_,rfl,p,C,dx,_,_,rfl,k2 _ _ h1 (by intro _ z;cases z),Y.cl,Y.n_kept,gB _ _ _,_,rfl,e,.ref c.l,rfl,uL W.nod hc▸cG.k (k:=Sum.inr c.nm) (k2 _ _ h3 (by intro _ z;cases z)),.inl ⟨rfl,_,aN.of hcl⟩,_,rfl,c.l,c.ys,(i:Int),i,y0,rfl,rfl,hcl,by omega,by omega,hk,hy0,?_⟩;refine⟨⟨_,rfl⟩,fun b o q nb=> ?_,fun d hd=> ?_⟩
    ·rw[aF (nb c (by rw[List.take_add_one,hj];simp))]
     exact t1 b o q fun d hd=>nb d (by rw[List.take_add_one];exact List.mem_append_left _ hd)
    ·rw[List.take_add_one,hj]at hd
     rcases List.mem_append.mp hd with hd|hd
     ·rw[aF (apart d hd).symm]
      exact t2 d hd
     ·have:d=c:=by simpa using hd
      subst this;exact aK
   ·rintro σ H2 ⟨⟨y,rfl⟩,t1,t2⟩
    have hl:((ts.map (·.nm)).map V.str).length=ts.length:=by rw[List.length_map,List.length_map]
    rw[hl,List.take_length]at t1 t2;have k2:∀b o,H1 b=some o->(∀xs,o≠ .lst xs)->H2 b=some o:=fun b o q nn=>t1 b o q fun d hd=>eR q (W1.lst d hd) (nn _)
    obtain⟨⟨dx,h1⟩,h2,h3⟩:=W1.tab;have hr2:=t1 _ _ h2 fun d hd=>(W.apr d hd).symm
    obtain⟨y0,hy0⟩:∃y0,xs[i]?=some y0:=⟨xs[i]'(by omega),by simp⟩;refine⟨_,rfl,p,C,dx,_,_,rfl,k2 _ _ h1 (by intro _ z;cases z),Y.cl,Y.n_row_numbers,pM _ _ _,.inl ⟨rfl,_,aN.of hr2⟩,_,rfl,r,xs,(i:Int),i,y0,rfl,rfl,hr2,by omega,by omega,(by have:=seqIndex_of (k:=(i:Int)) (n:=xs.length) (by omega) (by omega);simpa using this),hy0,?_⟩;refine q _ (fun b o qb nr nb=> ?_) (fun d hd=> ?_) aK
    ·rw[aF nr]
     exact t1 b o (c1 _ _ qb) nb
    ·rw[aF (W.apr d hd)]
     exact t2 d hd
inductive uB(C:Addr)(vs:List V)(H:Hp)(Q:VK)(E:XK):Prop
 |mk (p:_) (r:_) (e:_) (xs:_) (n:_) (ts:_) (i:_) (num:_) (a:_) (kvs:_) (f:aZ->V):vs= [.ref p,.int i,.int num,.ref a] ->eS C H p r e xs n ts->0<=i->i<=xs.length->xs.length<1000->H a=some (.dK kvs)->(∀c∈ts,aO kvs (.inr c.nm:aB)=some (f c))->(∀H',(∀b o,H b=some o->b≠r->(∀c∈ts,b≠c.l)->H' b=some o)->(∀c∈ts,H' c.l=some (.lst (cS c.ys i.toNat (f c))))->H' r=some (.lst (cS xs i.toNat (.int num)))->Q .non H')->uB C vs H Q E
theorem a0h:aX ["self","place","number","values","column"] ["self","place","number","values"] (aR xB):={}
theorem a4E(T:aW K mg)(Y:bX K mg C):aL P w K mg ae aD 2 C "stand" ["self","place","number","values"] (uB C):=by
 have G_columns:aL P w K mg ae aD 1 C "columns" ["self"] (nK C):=rG T Y;refine Y.m_stand.known a0h (fun _ _ _ _ _ _ us hl=>iD (fun _ _ _ _=>rfl) us hl) (fun vs H Q E h=> ?_) (fun f ag A af s H vs Q E hr h=> ?_)
 ·obtain⟨p,r,e,xs,n,ts,i,num,a,kvs,g,rfl,_⟩:=h
  rfl
 ·obtain⟨p,r,e,xs,n,ts,i,num,a,kvs,g,rfl,W,i0,i1,x1,ha,hg,q⟩:=h
  refine⟨_,(aG (hW PassesOwn.never rfl (mQ (dR (pv 0) Y.cl G_columns hr.mn aI)) (dF (i:=4) a0h.nd rfl (Or.inl rfl)) (aH (bL (gR F.plainAttrs_list F.slot_list_insert F.type_list_insert rQ (eN (cR hr) (aQ (pv 0) rfl) (pv 4) (fun _ _=>rfl)) (aA (pv 1) (aA (eN (cR hr) (pv 3) (pv 4) (fun _ _=>rfl)) aE))))))
   (aH (bL (gR F.plainAttrs_list F.slot_list_insert F.type_list_insert rQ (aQ (pv 0) rfl) (aA (pv 1) (aA (pv 2) aE)))))),?_⟩
  obtain⟨⟨dx,g1⟩,g2,g3⟩:=W.tab;refine⟨_,rfl,p,dx,_,rfl,g1,cL,p,r,e,xs,n,_,rfl,W.tab,fun lc hlc=> ?_⟩;rw[qS];have c1:aJ H (upd H lc (.lst ((ts.map (·.nm)).map V.str))):=aJ.new hlc;have hc1:upd H lc (.lst ((ts.map (·.nm)).map V.str)) lc=some (.lst ((ts.map (·.nm)).map V.str)):=aK
  generalize upd H lc (.lst ((ts.map (·.nm)).map V.str))=H1 at c1 hc1|-
  have W1:=W.same c1;have lne:∀c∈ts,lc≠c.l:=fun c hc=>(bK (W.lst c hc) hlc).symm
  refine⟨lc,rfl,⟨_,aN.of hc1⟩,?_⟩;refine qC (K:=K) (a:=lc) (xs:=(ts.map (·.nm)).map V.str) (fun j σ H2=>(∃y,σ= [some (.ref p),some (.int i),some (.int num),some (.ref a),y])/\xF H1 H2 (ts.take j) fun c=>cS c.ys i.toNat (g c)) ⟨⟨_,rfl⟩,fun b o q _=>q,fun c hc=>by simp at hc⟩ (by rintro j σ H2 _ ⟨_,t⟩;exact aN.of (t.1 _ _ hc1 fun c hc=>lne c (List.mem_of_mem_take hc))) ?_ ?_
  ·rintro j v σ H2 hv ⟨⟨y,rfl⟩,t1,t2⟩
   obtain⟨c,hj,rfl⟩:∃c,ts[j]?=some c/\v= .str c.nm:=by
    rw[List.getElem?_map,List.getElem?_map]at hv
    cases z:ts[j]? with
    |none=>rw[z]at hv;cases hv
    |some c=>rw[z]at hv;cases hv;exact⟨c,rfl,rfl⟩
   have hc:=List.mem_of_getElem? hj;have apart:∀d∈ts.take j,c.l≠d.l:=fun d hd=>by
    obtain⟨k,hk⟩:=List.getElem?_of_mem hd;rw[List.getElem?_take]at hk;split at hk
    ·exact a0y W.apt hj hk (by omega)
    ·cases hk
   have k2:∀b o,H1 b=some o->(∀xs,o≠ .lst xs)->H2 b=some o:=fun b o q nn=>t1 b o q fun d hd=>eR q (W1.lst d (List.mem_of_mem_take hd)) (nn _)
   have hcl:H2 c.l=some (.lst c.ys):=t1 _ _ (W1.lst c hc) apart;obtain⟨⟨dx,h1⟩,h2,h3⟩:=W1.tab;have hlen:=W.len c hc;refine⟨_,rfl,p,C,dx,_,_,rfl,k2 _ _ h1 (by intro _ z;cases z),Y.cl,Y.n_kept,gB _ _ _,_,rfl,e,.ref c.l,rfl,uL W.nod hc▸cG.k (k:=Sum.inr c.nm) (k2 _ _ h3 (by intro _ z;cases z)),.inl ⟨rfl,_,aN.of hcl⟩,_,rfl,_,rfl,_,rfl,a,g c,rfl,hg c hc▸cG.k (k:=Sum.inr c.nm) (k2 _ _ (c1 _ _ ha) (by intro _ z;cases z)),c.l,c.ys,i,g c,rfl,rfl,hcl,i0,by omega,dQ (by omega),?_⟩;refine⟨⟨_,rfl⟩,fun b o q nb=> ?_,fun d hd=> ?_⟩
   ·rw[aF (nb c (by rw[List.take_add_one,hj];simp))]
    exact t1 b o q fun d hd=>nb d (by rw[List.take_add_one];exact List.mem_append_left _ hd)
   ·rw[List.take_add_one,hj]at hd
    rcases List.mem_append.mp hd with hd|hd
    ·rw[aF (apart d hd).symm]
     exact t2 d hd
    ·have:d=c:=by simpa using hd
     subst this;exact aK
  ·rintro σ H2 ⟨⟨y,rfl⟩,t1,t2⟩
   have hl:((ts.map (·.nm)).map V.str).length=ts.length:=by rw[List.length_map,List.length_map]
   rw[hl,List.take_length]at t1 t2;have k2:∀b o,H1 b=some o->(∀xs,o≠ .lst xs)->H2 b=some o:=fun b o q nn=>t1 b o q fun d hd=>eR q (W1.lst d hd) (nn _)
   obtain⟨⟨dx,h1⟩,h2,h3⟩:=W1.tab;have hr2:=t1 _ _ h2 fun d hd=>(W.apr d hd).symm
   refine⟨_,rfl,p,C,dx,_,_,rfl,k2 _ _ h1 (by intro _ z;cases z),Y.cl,Y.n_row_numbers,pM _ _ _,.inl ⟨rfl,_,aN.of hr2⟩,_,rfl,_,rfl,r,xs,i,.int num,rfl,rfl,hr2,i0,i1,dQ (by omega),?_⟩;refine q _ (fun b o qb nr nb=> ?_) (fun d hd=> ?_) aK
   ·rw[aF nr]
    exact t1 b o (c1 _ _ qb) nb
   ·rw[aF (W.apr d hd)]
    exact t2 d hd
inductive sX(K:Fg)(vs:List V)(H:Hp)(Q:VK)(E:XK):Prop
 |mk (a lc:Addr) (kvs:List (aB×V)) (names:List Str):vs= [.ref a,.ref lc] ->H a=some (.dK kvs)->H lc=some (.lst (names.map V.str))->kvs.length=names.length->(∀q∈kvs,∃t d,q.1= .inr t/\t∈names/\Nl t/\Pv K H q.2 d)->(∀H',aJ H H'->Q .non H')->sX K vs H Q E
theorem qZ:aX ["values","columns","column","value"] ["values","columns"] (aR xK):={}
theorem a1f(T:aW K mg):bA P w K mg ae aD 5 "check_row" ["values","columns"] (sX K):=by
 have G_is_name:bA P w K mg ae aD 1 "is_name" ["thing"] (gQ K):=iS T;have G_check_value:bA P w K mg ae aD 4 "check_value" ["value"] (qI K):=a0s T;refine T.d_check_row.known qZ (fun _ _ _ _ _ _ us hl=>cT (fun _ _=>rfl) us hl) (fun vs H Q E h=> ?_) (fun f ag A af s H vs Q E hr h=> ?_)
 ·obtain⟨a,lc,kvs,names,rfl,_⟩:=h
  rfl
 ·obtain⟨a,lc,kvs,names,rfl,ha,hlc,hlen,hall,q⟩:=h
  refine⟨_,(aG (bF (PW.pt (dO (cV (cU (cA gL rfl T.isinstance fL (aA (pv 0) (aA (fT T.dict rM) aE))) (fun _=>rfl))) (eM (bW lU (cA qF rfl T.len dY (aA (pv 0) aE)) (cA eW rfl T.len dY (aA (pv 1) aE)) (cC _))))) (aH bT) bN)
   (aH (a4c PassesOwn.never rfl (pv 0) (a0S rfl (fP (dF (i:=2) qZ.nd rfl (Or.inl rfl)) (fP (dF (i:=3) qZ.nd rfl (Or.inl rfl)) lS))) (aG (bF (PW.pt (dO (cV (cU (bJ G_is_name hr.mn aI (aA (pv 2) aE)) (fun _=>rfl))) (eM (bW lE (pv 2) (pv 1) (by with_unfolding_all rfl))))) (aH bT) bN)
   (aH (bL (bJ G_check_value hr.mn aI (aA (pv 3) aE)))))))),?_⟩
  refine⟨_,rfl,_,"dict",_,_,rfl,Dt.dK ha,a3e K _,_,rfl,bB ?_⟩;refine⟨_,rfl,a,kvs,rfl,ha,_,rfl,_,_,rfl,.inl ⟨_,aN.of hlc,rfl⟩,?_⟩;rw[List.length_map,hlen];refine⟨rfl,_,rfl,a4A rfl ?_⟩;refine⟨_,rfl,a,kvs,rfl,ha,fun nf ob=> ?_⟩;have tup0:∀b xs,H b=some (.tup xs)->upd H a (.frz ob (.dK kvs)) b=some (.tup xs):=fun b xs qb=>by rw[aF (eR qb ha (by intro z;cases z))];exact qb
  have hlc':upd H a (.frz ob (.dK kvs)) lc=some (.lst (names.map V.str)):=by rw[aF (eR hlc ha (by intro z;cases z))];exact hlc
  refine a5a (a:=a) (ob:=ob) (kvs:=kvs) (fun i σ H2=>(∃y z,σ= [some (.ref a),some (.ref lc),y,z])/\aJ (upd H a (.frz ob (.dK kvs))) H2) ⟨⟨_,_,rfl⟩,aJ.refl _⟩ (fun i σ H2 _ ⟨_,s2⟩=>s2 _ _ aK) ?_ ?_
  ·rintro i qv σ H2 pp hq ⟨⟨y,z,rfl⟩,s2⟩ hpp
   obtain⟨t,d,e1,htn,hn1,vd⟩:=hall qv (List.mem_of_getElem? hq);have c3:aJ H2 (upd H2 pp (.tup [kV qv.1,qv.2])):=aJ.new hpp;have s3:=s2.trans c3;rw[e1];refine⟨pp,_,rfl,dG.of aK,rfl,_,_,rfl,_,_,rfl,rfl,?_⟩;rw[e1]at c3 s3;have vd3:Pv K (upd H2 pp (.tup [kV (.inr t:aB),qv.2])) qv.2 d:=vd.keep fun b xs qb=>s3 _ _ (tup0 b xs qb)
   refine⟨_,rfl,.str t,.str t,rfl,.str t,hJ (by have:=hn1.2;omega),fun H4 s4=>⟨_,rfl,?_⟩⟩;rw[show eF (.str t)=true from Nl.name hn1];refine bB ?_;refine⟨_,rfl,_,rfl,lc,_,rfl,.inl (aN.of ((s3.trans s4) _ _ hlc')),rfl,gG names,_,rfl,?_⟩;refine dX (fun zz=> ?_) (fun _=> ?_)
   ·have zz':(!dL (.str t) (names.map V.str))=true:=zz
    rw[gK,decide_eq_true htn]at zz';cases zz'
   have vd4:=vd3.keep (.of s4);exact⟨_,rfl,qv.2,d,rfl,vd4,fun H5 s5=>⟨⟨_,_,rfl⟩,s3.trans (s4.trans s5)⟩⟩
  ·rintro σ H2 ⟨⟨y,z,rfl⟩,s2⟩
   exact⟨a,ob,kvs,nf,s2 _ _ aK,q _ (aJ.thaw ha s2)⟩
inductive sL(K:Fg)(C:Addr)(vs:List V)(H:Hp)(Q:VK)(E:XK):Prop
 |mk (p:_) (r:_) (e:_) (xs:_) (n:_) (ts:_) (i:Nat) (a:Addr) (kvs:List (aB×V)) (f:aZ->V):vs= [.ref p,.int (i:Int),.ref a] ->eS C H p r e xs n ts->i<=xs.length->xs.length<30->H a=some (.dK kvs)->kvs.length=ts.length->(∀q∈kvs,∃t d,q.1= .inr t/\t∈ts.map (·.nm)/\Pv K H q.2 d)->(∀c∈ts,aO kvs (.inr c.nm:aB)=some (f c))->(∀H',(∀b o,H b=some o->b≠p->b≠r->(∀c∈ts,b≠c.l)->H' b=some o)->(∀c∈ts,H' c.l=some (.lst (cS c.ys i (f c))))->eB C H' p r e (cS xs i (.int n)) (n+ 1) (tk ts)->Q .non H')->sL K C vs H Q E
theorem a1a:aX ["self","place","values"] ["self","place","values"] (aR vO):={}
theorem a4b(T:aW K mg)(Y:bX K mg C):aL P w K mg ae aD 6 C "put_in" ["self","place","values"] (sL K C):=by
 have G_check_place:bA P w K mg ae aD 2 "check_place" ["place","places"] iM:=kA T;have G_check_row:bA P w K mg ae aD 5 "check_row" ["values","columns"] (sX K):=a1f T;have G_many:aL P w K mg ae aD 1 C "many" ["self"] (fB C):=fV T Y;have G_columns:aL P w K mg ae aD 1 C "columns" ["self"] (nK C):=rG T Y;have G_stand:aL P w K mg ae aD 2 C "stand" ["self","place","number","values"] (uB C):=a4E T Y;refine Y.m_put_in.known a1a (fun _ _ _ _ _ _ us hl=>gA (fun _ _ _=>rfl) us hl) (fun vs H Q E h=> ?_) (fun f ag A af s H vs Q E hr h=> ?_)
 ·obtain⟨p,r,e,xs,n,ts,i,a,kvs,g,rfl,_⟩:=h
  rfl
 ·obtain⟨p,r,e,xs,n,ts,i,a,kvs,g,rfl,W,i1,x1,ha,hlen,hall,hg,q⟩:=h
  refine⟨_,(aG (bL (bJ G_check_place hr.mn aI (aA (pv 1) (aA (aY cW (dR (pv 0) Y.cl G_many hr.mn aI) aT) aE))))
   (aG (bF (bW nI (dR (pv 0) Y.cl G_many hr.mn aI) (jV T.g_MOST_ROWS) (cC _)) (aH bT) bN)
   (aG (bL (bJ G_check_row hr.mn aI (aA (pv 2) (aA (dR (pv 0) Y.cl G_columns hr.mn aI) aE))))
   (aG (bL (bG (pv 0) Y.cl G_stand hr.mn aI (aA (pv 1) (aA (aQ (pv 0) rfl) (aA (pv 2) aE)))))
   (aH (bY (pv 0) (aY cW (aQ (pv 0) rfl) aT) rfl)))))),?_⟩
  obtain⟨⟨dx,g1⟩,g2,g3⟩:=W.tab;refine⟨_,rfl,_,rfl,p,dx,_,rfl,g1,cL,p,r,e,xs,n,_,rfl,W.tab,_,_,rfl,rfl,i,xs.length+ 1,rfl,by omega,?_⟩
  ·refine⟨_,rfl,p,dx,_,rfl,g1,cL,p,r,e,xs,n,_,rfl,W.tab,_,_,rfl,rfl,_,rfl,?_⟩
   refine dX (fun z=>absurd z (by simp;omega)) fun _=> ?_
   refine⟨_,rfl,_,rfl,p,dx,_,rfl,g1,cL,p,r,e,xs,n,_,rfl,W.tab,fun lc hlc=> ?_⟩;rw[qS];have c1:aJ H (upd H lc (.lst ((ts.map (·.nm)).map V.str))):=aJ.new hlc;refine⟨a,lc,kvs,ts.map (·.nm),rfl,c1 _ _ ha,aK,by rw[List.length_map];exact hlen,(fun qv hq=> ?_),fun H2 s2=> ?_⟩
   ·obtain⟨t,d,e1,ht,vd⟩:=hall qv hq
    obtain⟨c,hc,rfl⟩:=List.mem_map.mp ht;exact⟨c.nm,d,e1,ht,W.nms c hc,vd.keep (.of c1)⟩
   have s12:=c1.trans s2;have W2:=W.same s12;refine⟨_,rfl,p,dx,_,rfl,s12 _ _ g1,cL,_,rfl,_,rfl,p,C,dx,_,_,rfl,s12 _ _ g1,Y.cl,Y.n_fresh_number,vS _ _ _,_,rfl,?_⟩;refine⟨p,r,e,xs,n,ts,(i:Int),n,a,kvs,g,rfl,W2,by omega,by omega,by omega,s12 _ _ ha,hg,fun H3 k3 l3 r3=> ?_⟩;have nl:∀b o,H2 b=some o->(∀xs,o≠ .lst xs)->H3 b=some o:=fun b o qb nn=>k3 b o qb (eR qb W2.tab.rows (nn _)) fun d hd=>eR qb (W2.lst d hd) (nn _)
   have g13:=nl _ _ (s12 _ _ g1) (by intro _ z;cases z);refine⟨_,rfl,p,C,dx,_,_,rfl,g13,Y.cl,Y.n_fresh_number,vS _ _ _,_,_,rfl,rfl,_,rfl,p,C,dx,_,rfl,g13,Y.cl,Y.n_fresh_number,(by show 3<1000;decide),?_⟩;rw[a3I];have npr:p≠r:=eR (s12 _ _ g1) W2.tab.rows (by intro z;cases z);have npe:p≠e:=eR (s12 _ _ g1) W2.tab.kept (by intro z;cases z);refine q _ (fun b o qb np nr nb=> ?_) (fun d hd=> ?_) ⟨⟨dx,aK⟩,?_,?_⟩
   ·rw[aF np]
    exact k3 b o (s12 _ _ qb) nr nb
   ·rw[aF (eR (s12 _ _ g1) (W2.lst d hd) (by intro z;cases z)).symm]
    exact l3 d hd
   ·rw[aF npr.symm]
    exact r3
   ·rw[aF npe.symm]
    exact nl _ _ (s12 _ _ W.tab.kept) (by intro _ z;cases z)
def sM(H H':Hp):Prop:=∀b o,((∃xs,o=HO.tup xs)\/ ∃q xs,o=HO.frz q (.tup xs))->H b=some o->H' b=some o
theorem jN.keep{H H':Hp}(s:sM H H'):∀{ks:List V} {ms:List (Str×V)},jN K H ks ms->jN K H' ks ms
 |_,_,.nil=> .nil
 |_,_,.cons ⟨a,e,h⟩ t=> .cons ⟨a,e,by
  rcases h with(h|⟨q,h⟩)|h
  ·exact .inl (.inl (s _ _ (.inl ⟨_,rfl⟩) h))
  ·exact .inl (.inr ⟨q,s _ _ (.inr ⟨_,_,rfl⟩) h⟩)
  ·exact .inr h⟩ (jN.keep s t)
inductive sY(C:Addr)(vs:List V)(H:Hp)(Q:VK)(E:XK):Prop
 |mk (p:_) (r:_) (e:_) (xs:_) (n:_) (ts:_) (i:Nat):vs= [.ref p,.int (i:Int)] ->eS C H p r e xs n ts->i<xs.length->(∀H' d,aJ H H'->H d=none->H' d=some (.dK (ts.map fun c=>((.inr c.nm:aB),c.ys.getD i .non)))->Q (.ref d) H')->sY C vs H Q E
theorem a3N:aX ["self","place"] ["self","place"] (aR nN):={}
theorem a3c(T:aW K mg)(Y:bX K mg C):aL P w K mg ae aD 3 C "row_at" ["self","place"] (sY C):=by
 have G_check_place:bA P w K mg ae aD 2 "check_place" ["place","places"] iM:=kA T;have G_many:aL P w K mg ae aD 1 C "many" ["self"] (fB C):=fV T Y;refine Y.m_row_at.known a3N (fun _ _ _ _ _ _ us hl=>cT (fun _ _=>rfl) us hl) (fun vs H Q E h=> ?_) (fun f ag A af s H vs Q E hr h=> ?_)
 ·obtain⟨p,r,e,xs,n,ts,i,rfl,_⟩:=h
  rfl
 ·obtain⟨p,r,e,xs,n,ts,i,rfl,W,i1,q⟩:=h
  have hu:=cR hr;have hcl:∀x,(eG aD P w K mg ae ["self","place"] "Table.row_at" (aR nN) f ag A af s H E).nox.env.scope.names.lookup x=some .cell->∃c,(eG aD P w K mg ae ["self","place"] "Table.row_at" (aR nN) f ag A af s H E).nox.env.cells.lookup x=some c:=fun x hx=>Option.isSome_iff_exists.mp (PySem.W.cellsFrom_some _ _ _ (.inl hx))
  refine⟨_,(aG (bL (bJ G_check_place hr.mn aI (aA (pv 1) (aA (dR (pv 0) Y.cl G_many hr.mn aI) aE))))
   (aH (bM (gT (a4y rfl) rfl T.dict rM (aA (a24 (nA (te:=rN (gH (eV 0) (gH (kC (rIxL K) (vN (nZ K (eV 2) "kept") (eV 0)) (eV 1)) gC))) (nY (sc:=aR nN) (N:=["self","place"]) (cp:=[(1,"place"),(0,"self")]) hcl) rfl rfl (by decide) (zP (aQ (pv 0) rfl)) (fun _ _ _ _ _=>lO) (fun _ _ _ _ _=>(nX (aA (pv 0) (aA (dH eQ (eN hu (aQ (pv 2) rfl) (pv 0) (fun _ _=>rfl)) (pv 1) (fun _ _=>rfl)) aE)))))) aE))))),?_⟩
  obtain⟨⟨dx,g1⟩,g2,g3⟩:=W.tab;refine⟨_,rfl,_,rfl,p,dx,_,rfl,g1,cL,p,r,e,xs,n,_,rfl,W.tab,i,xs.length,rfl,i1,?_⟩;refine⟨_,rfl,p,C,dx,_,_,rfl,g1,Y.cl,Y.n_kept,gB _ _ _,e,tk ts,rfl,g3,fun nf ob D hD=> ?_⟩;have npe:p≠e:=eR g1 g3 (by intro z;cases z);have kf:∀{b:Addr} {o:HO},b≠e->H b=some o->upd H e (.frz ob (.dK (tk ts))) b=some o:=fun n q=>by rw[aF n];exact q
  have fe:upd H e (.frz ob (.dK (tk ts))) e=some (.frz ob (.dK (tk ts))):=aK;have nde:D≠e:=fun z=>by rw[z,fe]at hD;cases hD
  refine a3X (a:=e) (ob:=ob) (kvs:=tk ts) (fun j ys H2=>aJ (upd H e (.frz ob (.dK (tk ts)))) H2/\jN K H2 ys ((ts.take j).map fun c=>(c.nm,c.ys.getD i .non))/\ys.length=j) ⟨aJ.new hD,.nil,rfl⟩ (fun j ys H2 _ h=>h.1 _ _ fe) ?_ ?_
  ·rintro j pr ys H2 hp hD2 ⟨s2,pr2,lj⟩
   obtain⟨c,hj,rfl⟩:∃c,ts[j]?=some c/\pr=((.inr c.nm:aB),V.ref c.l):=by
    unfold tk at hp;rw[List.getElem?_map]at hp
    cases z:ts[j]? with
    |none=>rw[z]at hp;cases hp
    |some c=>rw[z]at hp;cases hp;exact⟨c,rfl,rfl⟩
   have hc:=List.mem_of_getElem? hj;have hlc:=W.lst c hc;have hlen:=W.len c hc;have hcl2:H2 c.l=some (.lst c.ys):=s2 _ _ (kf (eR hlc g3 (by intro z;cases z)) hlc)
   have hv:c.ys[i]?=some (c.ys.getD i .non):=by
    rw[List.getD_eq_getElem?_getD,List.getElem?_eq_getElem (show i<c.ys.length by omega)];rfl
   refine⟨_,rfl,_,rfl,p,C,dx,_,_,rfl,s2 _ _ (kf npe g1),Y.cl,Y.n_kept,gB _ _ _,_,rfl,e,.ref c.l,rfl,.inl ⟨tk ts,(.inr c.nm:aB),.inr ⟨ob,s2 _ _ fe⟩,rfl,(uL W.nod hc).symm⟩,_,rfl,c.l,c.ys,(i:Int),_,rfl,rfl,aN.of hcl2,iC hv,sl,fun t ht=> ?_⟩;have e3:kV ((Sum.inr c.nm:aB),V.ref c.l).fst= .str c.nm:=rfl;rw[e3];have s3:=aJ.new (o:=.tup [.str c.nm,c.ys.getD i .non]) ht;have t3:upd H2 t (.tup [.str c.nm,c.ys.getD i .non]) t=some (.tup [.str c.nm,c.ys.getD i .non]):=aK
   generalize upd H2 t (.tup [.str c.nm,c.ys.getD i .non])=H3 at s3 t3|-
   have hD3:=s3 _ _ hD2;have few:=W.few;have hjl:j<ts.length:=(List.getElem?_eq_some_iff.mp hj).1;have kp:sM H2 (upd H3 D (.lst (ys++ [.ref t]))):=fun b o ho e=>by
    rw[aF (fun z=>by rw[z,hD2]at e;rcases ho with⟨_,rfl⟩|⟨_,_,rfl⟩<;>cases e)];exact s3 _ _ e
   refine⟨hD3,dQ (by omega),(s2.trans s3).on hD,?_,by rw[List.length_append,lj];rfl⟩;rw[List.take_add_one,hj,List.map_append];refine Paired.snoc ⟨t,rfl,dG.of ?_⟩ (jN.keep kp pr2);rw[aF (fun z=>by rw[z,hD3]at t3;cases t3)];exact t3
  ·rintro ys H2 hD2 ⟨s2,pr2,lj⟩
   rw[a4o,List.take_length]at pr2;have s3:=aJ.thaw g3 s2
   have hD3:upd H2 e (.dK (tk ts)) D=some (.lst ys):=by rw[aF nde];exact hD2
   have kq:sM H2 (upd H2 e (.dK (tk ts))):=fun b o ho eb=>by
    rw[aF (fun z=>by rw[z,s2 _ _ fe]at eb;rcases ho with⟨_,rfl⟩|⟨_,_,rfl⟩<;>cases eb)];exact eb
   have pr3:=jN.keep kq pr2;refine⟨e,ob,tk ts,nf,s2 _ _ fe,D,ys,_,rfl,aN.of hD3,pr3,by rw[List.map_map];exact W.nod,fun d hd=> ?_⟩;refine q _ d (s3.trans (aJ.new hd)) (dA s3 hd) ?_;rw[aK,List.map_map];rfl
end
noncomputable def kU (b:Addr) (i:Nat) (a:Addr):List (Str×V):=[("board",V.ref b),("place",V.int (i:Int)),("after",V.ref a)]
theorem uY(b:Addr)(i:Nat)(a:Addr):(kU b i a).lookup ("board":Str)=some (.ref b)/\(kU b i a).lookup ("place":Str)=some (.int (i:Int))/\(kU b i a).lookup ("after":Str)=some (.ref a)/\(kU b i a).lookup ("take":Str)=none:=⟨rfl,rfl,rfl,rfl⟩
noncomputable def dN (b:Addr) (i:Nat) (u v:V):List (Str×V):=[("board",V.ref b),("place",V.int (i:Int)),("number",u),("before",v)]
theorem qB(b:Addr)(i:Nat)(u v:V):(dN b i u v).lookup ("board":Str)=some (.ref b)/\(dN b i u v).lookup ("place":Str)=some (.int (i:Int))/\(dN b i u v).lookup ("take":Str)=none/\(∀u',aM "number" u' (dN b i u v)=dN b i u' v)/\∀v',aM "before" v' (dN b i u v)=dN b i u v':=⟨rfl,rfl,rfl,fun _=>rfl,fun _=>rfl⟩
section
variable{ae:Heap}
inductive rV(C:Addr)(vs:List V)(H:Hp)(Q:VK)(E:XK):Prop
 |mk (p dx b a:Addr) (i:Nat):vs= [.ref p,.ref b,.int (i:Int),.ref a] ->H p=some (.ins C dx [])->(∀H',bI p H H'->H' p=some (.ins C dx (kU b i a))->Q .non H')->rV C vs H Q E
theorem a1A:aX ["self","board","place","row"] ["self","board","place","row"] (aR yJ):={}
theorem a5p(T:aW K mg)(Y:lN K mg C):dM P w K mg ae aD 1 C ["self","board","place","row"] (rV C):=by
 refine(Y.m_init.known a1A (fun _ _ _ _ _ _ us hl=>iD (fun _ _ _ _=>rfl) us hl) (fun vs H Q E h=> ?_) (fun f ag A af s H vs Q E hr h=> ?_)).init Y.mks Y.kc
 ·obtain⟨p,dx,b,a,i,rfl,_⟩:=h
  rfl
 ·obtain⟨p,dx,b,a,i,rfl,hp,q⟩:=h
  refine⟨_,(aG (bY (pv 0) (pv 1) rfl) (aG (bY (pv 0) (pv 2) rfl) (aH (bY (pv 0) (pv 3) rfl)))),?_⟩;refine⟨_,rfl,_,rfl,p,C,dx,[],rfl,hp,Y.cl,Y.n_board,(by show 0<1000;decide),?_⟩;refine⟨_,rfl,_,rfl,p,C,dx,_,rfl,aK,Y.cl,Y.n_place,(by show 1<1000;decide),?_⟩;refine⟨_,rfl,_,rfl,p,C,dx,_,rfl,aK,Y.cl,Y.n_after,(by show 2<1000;decide),?_⟩;exact q _ (fun b o n z=>by rw[aF n,aF n,aF n];exact z) aK
inductive uN(C:Addr)(vs:List V)(H:Hp)(Q:VK)(E:XK):Prop
 |mk (p dx b:Addr) (i:Nat):vs= [.ref p,.ref b,.int (i:Int)] ->H p=some (.ins C dx [])->(∀H',bI p H H'->H' p=some (.ins C dx (dN b i .non .non))->Q .non H')->uN C vs H Q E
theorem a3W:aX ["self","board","place"] ["self","board","place"] (aR a0D):={}
theorem a1u(T:aW K mg)(Y:lY K mg C):dM P w K mg ae aD 1 C ["self","board","place"] (uN C):=by
 refine(Y.m_init.known a3W (fun _ _ _ _ _ _ us hl=>gA (fun _ _ _=>rfl) us hl) (fun vs H Q E h=> ?_) (fun f ag A af s H vs Q E hr h=> ?_)).init Y.mks Y.kc
 ·obtain⟨p,dx,b,i,rfl,_⟩:=h
  rfl
 ·obtain⟨p,dx,b,i,rfl,hp,q⟩:=h
  refine⟨_,(aG (bY (pv 0) (pv 1) rfl) (aG (bY (pv 0) (pv 2) rfl) (aG (bY (pv 0) fM rfl) (aH (bY (pv 0) fM rfl))))),?_⟩;refine⟨_,rfl,_,rfl,p,C,dx,[],rfl,hp,Y.cl,Y.n_board,(by show 0<1000;decide),?_⟩;refine⟨_,rfl,_,rfl,p,C,dx,_,rfl,aK,Y.cl,Y.n_place,(by show 1<1000;decide),?_⟩;refine⟨_,rfl,p,C,dx,_,rfl,aK,Y.cl,Y.n_number,(by show 2<1000;decide),?_⟩;refine⟨_,rfl,p,C,dx,_,rfl,aK,Y.cl,Y.n_before,(by show 3<1000;decide),?_⟩;exact q _ (fun b o n z=>by rw[aF n,aF n,aF n,aF n];exact z) aK
theorem a1D(b:Addr)(i:Nat)(u v:V)(g ru me od:Addr):dN b i u v≠fG g ru me od:=fun h=>by
 have h1:(dN b i u v).map (·.1)=(fG g ru me od).map (·.1):=by rw[h]
 exact absurd h1 (show¬([("board":Str),("place":Str),("number":Str),("before":Str)]= [("given":Str),("rules":Str),("memory":Str),("order":Str)])by decide+kernel)
structure mT(K:Fg)(H:Hp)(ts:List aZ)(kvs:List (aB×V))(f:aZ->V):Prop where
 len:kvs.length=ts.length
 all:∀q∈kvs,∃t d,q.1= .inr t/\t∈ts.map (·.nm)/\Pv K H q.2 d
 val:∀c∈ts,aO kvs (.inr c.nm:aB)=some (f c)
inductive pD(K:Fg)(C CB CT:Addr)(vs:List V)(H:Hp)(Q:VK)(E:XK):Prop
 |mk (p dx a:Addr) (B:BM) (i:Nat) (ts:List aZ) (kvs:List (aB×V)) (f:aZ->V):vs= [.ref p] ->H p=some (.ins C dx (kU B.b i a))->bP CB CT H B->eS CT H B.g B.r B.e B.xs B.n ts->i<=B.xs.length->B.xs.length<30->H a=some (.dK kvs)->mT K H ts kvs f->(∀H',(∀b o,H b=some o->b≠B.g->b≠B.r->(∀c∈ts,b≠c.l)->H' b=some o)->(∀c∈ts,H' c.l=some (.lst (cS c.ys i (f c))))->eB CT H' B.g B.r B.e (cS B.xs i (.int B.n)) (B.n+ 1) (tk ts)->Q .non H')->pD K C CB CT vs H Q E
theorem a3Z:fW (pD K C CB CT):=fun vs H Q Q' hQ h=>by
 obtain⟨p,dx,a,B,i,ts,kvs,f,e1,e2,e3,e4,e5,e6,e7,e8,q⟩:=h;exact⟨p,dx,a,B,i,ts,kvs,f,e1,e2,e3,e4,e5,e6,e7,e8,fun H' a1 a2 a3=>hQ _ _ (q H' a1 a2 a3)⟩
theorem a3O:aX ["self"] ["self"] (aR a0f):={}
theorem a03(T:aW K mg)(Y:lN K mg C)(W:cF K mg CB)(Z:bX K mg CT):aL P w K mg ae aD 7 C "take" ["self"] (pD K C CB CT):=by
 have G_in:aL P w K mg ae aD 6 CT "put_in" ["self","place","values"] (sL K CT):=a4b T Z;refine Y.m_take.known a3O (fun _ _ _ _ _ _ us hl=>eJ (fun _=>rfl) us hl) (fun vs H Q E h=> ?_) (fun f ag A af s H vs Q E hr h=> ?_)
 ·obtain⟨p,dx,a,B,i,ts,kvs,f,rfl,_⟩:=h
  rfl
 ·obtain⟨p,dx,a,B,i,ts,kvs,f,rfl,hp,hB,hT,i1,x1,ha,R,q⟩:=h
  refine⟨_,(aH (bL (bG (aQ (aQ (pv 0) rfl) rfl) Z.cl G_in hr aI (aA (aQ (pv 0) rfl) (aA (aQ (pv 0) rfl) aE))))),?_⟩;obtain⟨c1,c2,c3,c4⟩:=uY B.b i a;obtain⟨⟨dB,h1⟩,tb,_,_,_⟩:=id hB;obtain⟨⟨dT,t1⟩,_,_⟩:=id tb;exact⟨_,rfl,p,C,dx,_,_,rfl,hp,Y.cl,Y.n_board,c1,B.b,CB,dB,_,_,rfl,h1,W.cl,W.n_given,(cE _ _ _ _).1,B.g,dT,_,rfl,t1,cL,_,rfl,p,C,dx,_,_,rfl,hp,Y.cl,Y.n_place,c2,_,rfl,p,C,dx,_,_,rfl,hp,Y.cl,Y.n_after,c3,B.g,B.r,B.e,B.xs,B.n,ts,i,a,kvs,f,rfl,hT,i1,x1,ha,R.len,R.all,R.val,q⟩
inductive oR(C CB CT:Addr)(vs:List V)(H:Hp)(Q:VK)(E:XK):Prop
 |mk (p dx:Addr) (B:BM) (i:Nat) (ts:List aZ) (u v:V):vs= [.ref p] ->H p=some (.ins C dx (dN B.b i u v))->bP CB CT H B->eS CT H B.g B.r B.e B.xs B.n ts->i<B.xs.length->B.xs.length<=1000->(∀H' d,(∀b o,H b=some o->b≠p->b≠B.r->(∀c∈ts,b≠c.l)->H' b=some o)->(∀c∈ts,H' c.l=some (.lst (c.ys.eraseIdx i)))->H' B.r=some (.lst (B.xs.eraseIdx i))->H d=none->H' d=some (.dK (ts.map fun c=>((.inr c.nm:aB),c.ys.getD i .non)))->H' p=some (.ins C dx (dN B.b i (B.xs.getD i .non) (.ref d)))->Q .non H')->oR C CB CT vs H Q E
theorem a02:fW (oR C CB CT):=fun vs H Q Q' hQ h=>by
 obtain⟨p,dx,B,i,ts,u,v,e1,e2,e3,e4,e5,e6,q⟩:=h;exact⟨p,dx,B,i,ts,u,v,e1,e2,e3,e4,e5,e6,fun H' d a1 a2 a3 a4 a5 a6=>hQ _ _ (q H' d a1 a2 a3 a4 a5 a6)⟩
theorem eS.off{r e:Addr}{n:Int}(W:eS C H p r e xs n ts){z:Addr}(hz:∃C' dx fs,H z=some (.ins C' dx fs))(nz:z≠p)(s:∀b o,b≠z->H b=some o->H' b=some o):eS C H' p r e xs n ts:=by
 obtain⟨C',dx,fs,hz⟩:=hz;obtain⟨⟨d1,g1⟩,g2,g3⟩:=W.tab;have k:∀{x:Addr} {o:HO},H x=some o->(∀a b c,o≠ .ins a b c)->H' x=some o:=fun e m=>s _ _ (fun y=>by rw[y,hz]at e;exact m _ _ _ (Option.some.inj e).symm) e
 exact⟨⟨⟨d1,s _ _ nz.symm g1⟩,k g2 (fun _ _ _ y=>by cases y),k g3 (fun _ _ _ y=>by cases y)⟩,fun c hc=>k (W.lst c hc) (fun _ _ _ y=>by cases y),W.len,W.nms,W.nod,W.apt,W.apr,W.few⟩
theorem a1z:aX ["self"] ["self"] (aR uX):={}
theorem a5u(T:aW K mg)(Y:lY K mg C)(W:cF K mg CB)(Z:bX K mg CT):aL P w K mg ae aD 7 C "take" ["self"] (oR C CB CT):=by
 have G_num:aL P w K mg ae aD 3 CT "number_at" ["self","place"] (rZ CT):=a3z T Z;have G_row:aL P w K mg ae aD 3 CT "row_at" ["self","place"] (sY CT):=a3c T Z;have G_out:aL P w K mg ae aD 3 CT "take_out" ["self","place"] (uM CT):=a29 T Z;refine Y.m_take.known a1z (fun _ _ _ _ _ _ us hl=>eJ (fun _=>rfl) us hl) (fun vs H Q E h=> ?_) (fun f ag A af s H vs Q E hr h=> ?_)
 ·obtain⟨p,dx,B,i,ts,u,v,rfl,_⟩:=h
  rfl
 ·obtain⟨p,dx,B,i,ts,u,v,rfl,hp,hB,hT,i1,x1,q⟩:=h
  refine⟨_,(aG (bY (pv 0) (bG (aQ (aQ (pv 0) rfl) rfl) Z.cl G_num hr.mn aI (aA (aQ (pv 0) rfl) aE)) rfl)
   (aG (bY (pv 0) (bG (aQ (aQ (pv 0) rfl) rfl) Z.cl G_row hr.mn aI (aA (aQ (pv 0) rfl) aE)) rfl)
   (aH (bL (bG (aQ (aQ (pv 0) rfl) rfl) Z.cl G_out hr.mn aI (aA (aQ (pv 0) rfl) aE)))))),?_⟩
  obtain⟨c1,c2,c4,c5,c6⟩:=qB B.b i u v;obtain⟨⟨dB,h1⟩,tb,_,_,_⟩:=id hB;obtain⟨⟨dT,t1⟩,_,_⟩:=id tb
  have hx:B.xs[i]?=some (B.xs.getD i .non):=by
   rw[List.getD_eq_getElem?_getD,List.getElem?_eq_getElem i1];rfl
  have npb:B.b≠p:=fun y=>by
   rw[y,hp]at h1;exact a1D _ _ _ _ _ _ _ _ (HO.ins.inj (Option.some.inj h1)).2.2
  have npg:B.g≠p:=(mK hp t1 (by simp[dN,fF])).symm;refine⟨_,rfl,p,C,dx,_,_,rfl,hp,Y.cl,Y.n_board,c1,B.b,CB,dB,_,_,rfl,h1,W.cl,W.n_given,(cE _ _ _ _).1,B.g,dT,_,rfl,t1,cL,_,rfl,p,C,dx,_,_,rfl,hp,Y.cl,Y.n_place,c2,B.g,B.r,B.e,B.xs,B.n,B.kvs,i,_,rfl,tb,i1,iC hx,?_⟩;refine⟨_,rfl,p,C,dx,_,rfl,hp,Y.cl,Y.n_number,(by show 4<1000;decide),?_⟩;rw[c5];have u2:∀x o,x≠p->H x=some o->upd H p (.ins C dx (dN B.b i (B.xs.getD i .non) v)) x=some o:=fun x o n z=>by rw[aF n];exact z
  have p2:upd H p (.ins C dx (dN B.b i (B.xs.getD i .non) v)) p=some (.ins C dx (dN B.b i (B.xs.getD i .non) v)):=aK;have n2:∀x,upd H p (.ins C dx (dN B.b i (B.xs.getD i .non) v)) x=none->H x=none:=fun x e=>(gY e).1
  generalize upd H p (.ins C dx (dN B.b i (B.xs.getD i .non) v))=H2 at u2 p2 n2|-
  obtain⟨c1,c2,c4,c5,c6⟩:=qB B.b i (B.xs.getD i .non) v;have hT2:=hT.off ⟨_,_,_,hp⟩ npg.symm u2;refine⟨_,rfl,p,C,dx,_,_,rfl,p2,Y.cl,Y.n_board,c1,B.b,CB,dB,_,_,rfl,u2 _ _ npb h1,W.cl,W.n_given,(cE _ _ _ _).1,B.g,dT,_,rfl,u2 _ _ npg t1,cL,_,rfl,p,C,dx,_,_,rfl,p2,Y.cl,Y.n_place,c2,B.g,B.r,B.e,B.xs,B.n,ts,i,rfl,hT2,i1,fun H3 d s3 hd2 hd3=> ?_⟩;refine⟨_,rfl,p,C,dx,_,rfl,s3 _ _ p2,Y.cl,Y.n_before,(by show 4<1000;decide),?_⟩;rw[c6];have hp3:=s3 _ _ p2;have u4:∀x o,x≠p->H3 x=some o->upd H3 p (.ins C dx (dN B.b i (B.xs.getD i .non) (.ref d))) x=some o:=fun x o n z=>by rw[aF n];exact z
  have p4:upd H3 p (.ins C dx (dN B.b i (B.xs.getD i .non) (.ref d))) p=some (.ins C dx (dN B.b i (B.xs.getD i .non) (.ref d))):=aK
  generalize upd H3 p (.ins C dx (dN B.b i (B.xs.getD i .non) (.ref d)))=H4 at u4 p4|-
  obtain⟨c1,c2,c4,c5,c6⟩:=qB B.b i (B.xs.getD i .non) (.ref d);have hT4:=(hT2.same s3).off ⟨_,_,_,hp3⟩ npg.symm u4;have hd0:=n2 _ hd2;have ndp:d≠p:=fun y=>by rw[y,hp]at hd0;cases hd0
  have d4:=u4 _ _ ndp hd3;refine⟨_,rfl,p,C,dx,_,_,rfl,p4,Y.cl,Y.n_board,c1,B.b,CB,dB,_,_,rfl,u4 _ _ npb (s3 _ _ (u2 _ _ npb h1)),W.cl,W.n_given,(cE _ _ _ _).1,B.g,dT,_,rfl,u4 _ _ npg (s3 _ _ (u2 _ _ npg t1)),cL,_,rfl,p,C,dx,_,_,rfl,p4,Y.cl,Y.n_place,c2,B.g,B.r,B.e,B.xs,B.n,ts,i,rfl,hT4,i1,x1,fun H5 k5 l5 r5=> ?_⟩;obtain⟨_,g2,g3⟩:=hT4.tab;refine q H5 d (fun b o e n1 n2 n3=>k5 _ _ (u4 _ _ n1 (s3 _ _ (u2 _ _ n1 e))) n2 n3) l5 r5 hd0 ?_ ?_
  ·exact k5 _ _ d4 (fun y=>by rw[y,g2]at d4;cases d4) (fun c hc y=>by have:=hT4.lst c hc;rw[<- y,d4]at this;cases this)
  ·exact k5 _ _ p4 (fun y=>by rw[y,g2]at p4;cases p4) (fun c hc y=>by have:=hT4.lst c hc;rw[<- y,p4]at this;cases this)
structure sI(ch:Addr)(B:BM)(ts:List aZ):Prop where
 kv:B.kvs=tk ts
 ch:∀c∈ts,c.l≠ch
 od:∀c∈ts,c.l≠B.od
 ro:B.r≠B.od
inductive tQ(K:Fg)(CS CF CB CT:Addr)(vs:List V)(H:Hp)(Q:VK)(E:XK):Prop
 |mk (s bd ch a:Addr) (cs:List V) (kb:List (aB×V)) (nm:Str) (i:Nat) (B:BM) (ts:List aZ) (kvs:List (aB×V)) (f:aZ->V):vs= [.ref s,.str nm,.int (i:Int),.ref a] ->jM CS s bd ch cs kb H->cs.length<900->Nl nm->aO kb (.inr nm:aB)=some (.ref B.b)->bP CB CT H B->jW bd ch B->eS CT H B.g B.r B.e B.xs B.n ts->sI ch B ts->i<=B.xs.length->B.xs.length<30->H a=some (.dK kvs)->mT K H ts kvs f->(∀H' fi fd lk c,jC CS CF s bd ch fi fd lk (cs++ [.ref c]) kb H H'->bP CB CT H' {B with xs:=cS B.xs i (.int B.n),n:=B.n+ 1} ->(∀c∈ts,H' c.l=some (.lst (cS c.ys i (f c))))->(∀x o,x≠s->x≠ch->x≠B.g->x≠B.r->(∀c∈ts,x≠c.l)->H x=some o->H' x=some o)->Q .non H')->tQ K CS CF CB CT vs H Q E
theorem a4z:aX ["self","table","place","values"] ["self","table","place","values"] (aR zL):={}
theorem mT.same{f:aZ->V}(R:mT K H ts kvs f)(s:aJ H H'):mT K H' ts kvs f:=
 ⟨R.len,fun q hq=>let ⟨t,d,e1,e2,e3⟩:=R.all q hq;⟨t,d,e1,e2,e3.keep (bS.of s)⟩,R.val⟩
theorem a28(T:aW K mg)(Y:dE K mg CS)(Z:dZ K mg CF)(W:cF K mg CB)(U:bX K mg CT)(C:lN K mg CC):aL P w K mg ae aD 9 CS "put_in" ["self","table","place","values"] (tQ K CS CF CB CT):=by
 have G_of:aL P w K mg ae aD 2 CS "board_of" ["self","table"] (iO CS CB CT):=kH T Y;have GI:dM P w K mg ae aD 1 CC ["self","board","place","row"] (rV CC):=a5p T C;have G_make:aL P w K mg ae aD 8 CS "make" ["self","change"] (jD CS CF CC (pD K CC CB CT)):=lJ T Y Z C.cl a3Z (a03 T C W U);refine Y.m_put_in.known a4z (fun _ _ _ _ _ _ us hl=>iD (fun _ _ _ _=>rfl) us hl) (fun vs H Q E h=> ?_) (fun f ag A af s H vs Q E hr h=> ?_)
 ·obtain⟨s',bd,ch,a,cs,kb,nm,i,B,ts,kvs,f,rfl,_⟩:=h
  rfl
 ·obtain⟨s',bd,ch,a,cs,kb,nm,i,B,ts,kvs,f,rfl,hS,cl,hn,hv,hB,ss,hT,sp,i1,x1,ha,R,q⟩:=h
  have hu:=cR hr;refine⟨_,(aH (bL (bG (pv 0) Y.cl G_make hr aI (aA (gX GI hr.mn C.c aI (aA (bG (pv 0) Y.cl G_of hr.mn aI (aA (pv 1) aE)) (aA (pv 2) (aA (pv 3) aE)))) aE)))),?_⟩;obtain⟨⟨dx,fi0,h1⟩,h2,h3⟩:=hS;refine⟨_,rfl,s',dx,_,rfl,h1,cK,_,rfl,s',dx,_,rfl,h1,cK,_,rfl,s',bd,ch,fi0,dx,kb,nm,_,rfl,h1,h3,hn,hv,fun H1 s1=> ?_⟩;refine⟨_,rfl,_,rfl,?_⟩;intro c dc hc hdc ne;refine⟨c,dc,B.b,a,i,rfl,aK,fun H3 b3 c3=>⟨rfl,?_⟩⟩;have s3:aJ H H3:=fun b o z=>b3 b o (bK (s1 _ _ z) hc) (by rw[aF (bK (s1 _ _ z) hc),aF (bK (s1 _ _ z) hdc)];exact s1 _ _ z)
  have hB3:=hB.same s3;refine⟨s',c,bd,ch,fi0,dx,dc,cs,_,rfl,c3,(uY _ _ _).2.2.2,c,dc,a,B,i,ts,kvs,f,rfl,c3,hB3,hT.same s3,i1,x1,s3 _ _ ha,R.same s3,fun H4 u4 l4 t4=> ?_⟩;have hc0:H c=none:=dA s1 hc;obtain⟨⟨dT,t1⟩,t2,t3⟩:=hT.tab;have k4:∀{x:Addr} {o:HO},H x=some o->x≠B.g->x≠B.r->(∀c∈ts,x≠c.l)->H4 x=some o:=fun e n1 n2 n3=>u4 _ _ (s3 _ _ e) n1 n2 n3
  have nl:∀{x:Addr} {o:HO},H x=some o->(∀y,o≠ .lst y)->∀c∈ts,x≠c.l:=fun e n c hc y=>by have:=hT.lst c hc;rw[<- y,e]at this;exact n _ (Option.some.inj this)
  have nr:∀{x:Addr} {o:HO},H x=some o->(∀y,o≠ .lst y)->x≠B.r:=fun e n y=>by rw[y,t2]at e;exact n _ (Option.some.inj e).symm
  have ng:∀{x:Addr} {o:HO},H x=some o->(∀a b c,o≠ .ins a b c)->x≠B.g:=fun e n y=>by rw[y,t1]at e;exact n _ _ _ (Option.some.inj e).symm
  have nsg:s'≠B.g:=fun y=>by rw[y,t1]at h1;exact a12 _ _ _ _ _ _ (HO.ins.inj (Option.some.inj h1)).2.2
  have ns4:=k4 h1 nsg (nr h1 nk) (nl h1 nk);have ch4:=k4 h2 (ng h2 (fun _ _ _ y=>by cases y)) ss.r (fun c hc=>(sp.ch c hc).symm);refine⟨ns4,ch4,cl,fun H5 fi fd lk df f1 f2 f3 nfl g1 g2 g3 g4 g5 u5=> ?_⟩;have nn:∀{x:Addr},H4 x=none->H x=none:=fun{x} e=>by
   cases e2:H x with
   |none=>rfl
   |some o=>
    by_cases y1:x=B.g
    ·obtain⟨⟨_,z⟩,_,_⟩:=t4
     rw[y1,z]at e;cases e
    ·by_cases y2:x=B.r
     ·obtain⟨_,z,_⟩:=t4
      rw[y2,z]at e;cases e
     ·by_cases y3:∃c∈ts,x=c.l
      ·obtain⟨c,hc,y3⟩:=y3
       rw[y3,l4 c hc]at e;cases e
      ·rw[k4 e2 y1 y2 (fun c hc z=>y3 ⟨c,hc,z⟩)]at e;cases e
  have nb:bd≠s'/\bd≠ch:=⟨fun y=>by{rw[y,h1]at h3;cases h3},fun y=>by{rw[y,h2]at h3;cases h3}⟩;have nls:∀c∈ts,c.l≠s':=fun c hc y=>by have:=hT.lst c hc;rw[y,h1]at this;cases this
  have B4:bP CB CT H4 {B with xs:=cS B.xs i (.int B.n),n:=B.n+ 1}:=by
   obtain⟨⟨d1,e1⟩,⟨⟨d2,e2⟩,e3,e4⟩,e5,e6,e7⟩:=hB;have nbg:B.b≠B.g:=(mK e1 e2 (by simp[fG,fF]));exact⟨⟨d1,k4 e1 nbg (nr e1 nk) (nl e1 nk)⟩,sp.kv▸t4,k4 e5 (ng e5 (fun _ _ _ y=>by cases y)) (nr e5 nk) (nl e5 nk),k4 e6 (ng e6 (fun _ _ _ y=>by cases y)) (nr e6 nk) (nl e6 nk),k4 e7 (ng e7 (fun _ _ _ y=>by cases y)) sp.ro.symm (fun c hc=>(sp.od c hc).symm)⟩
  exact q H5 fi fd lk c ⟨⟨dx,g1⟩,g2,u5 _ _ nb.1 nb.2 (k4 h3 (ng h3 (fun _ _ _ y=>by cases y)) (nr h3 nk) (nl h3 nk)),⟨df,g3⟩,g4,g5,nfl,nn f1,nn f2,nn f3⟩ (B4.off ⟨dx,bd,ch,fi0,ns4⟩ ch4 ss.r ss.o u5) (fun c hc=>u5 _ _ (nls c hc) (sp.ch c hc) (l4 c hc)) (fun x o n1 n2 n3 n4 n5 e=>u5 _ _ n1 n2 (k4 e n3 n4 n5))
inductive qR(CS CF CB CT:Addr)(vs:List V)(H:Hp)(Q:VK)(E:XK):Prop
 |mk (s bd ch:Addr) (cs:List V) (kb:List (aB×V)) (nm:Str) (i:Nat) (B:BM) (ts:List aZ):vs= [.ref s,.str nm,.int (i:Int)] ->jM CS s bd ch cs kb H->cs.length<900->Nl nm->aO kb (.inr nm:aB)=some (.ref B.b)->bP CB CT H B->jW bd ch B->eS CT H B.g B.r B.e B.xs B.n ts->sI ch B ts->i<B.xs.length->B.xs.length<=30->(∀H' fi fd lk c,jC CS CF s bd ch fi fd lk (cs++ [.ref c]) kb H H'->bP CB CT H' {B with xs:=B.xs.eraseIdx i} ->(∀c∈ts,H' c.l=some (.lst (c.ys.eraseIdx i)))->(∀x o,x≠s->x≠ch->x≠B.r->(∀c∈ts,x≠c.l)->H x=some o->H' x=some o)->Q .non H')->qR CS CF CB CT vs H Q E
theorem a4w:aX ["self","table","place"] ["self","table","place"] (aR wC):={}
theorem a5k(T:aW K mg)(Y:dE K mg CS)(Z:dZ K mg CF)(W:cF K mg CB)(U:bX K mg CT)(C:lY K mg CC):aL P w K mg ae aD 9 CS "take_out" ["self","table","place"] (qR CS CF CB CT):=by
 have G_of:aL P w K mg ae aD 2 CS "board_of" ["self","table"] (iO CS CB CT):=kH T Y;have GI:dM P w K mg ae aD 1 CC ["self","board","place"] (uN CC):=a1u T C;have G_make:aL P w K mg ae aD 8 CS "make" ["self","change"] (jD CS CF CC (oR CC CB CT)):=lJ T Y Z C.cl a02 (a5u T C W U);refine Y.m_take_out.known a4w (fun _ _ _ _ _ _ us hl=>gA (fun _ _ _=>rfl) us hl) (fun vs H Q E h=> ?_) (fun f ag A af s H vs Q E hr h=> ?_)
 ·obtain⟨s',bd,ch,cs,kb,nm,i,B,ts,rfl,_⟩:=h
  rfl
 ·obtain⟨s',bd,ch,cs,kb,nm,i,B,ts,rfl,hS,cl,hn,hv,hB,ss,hT,sp,i1,x1,q⟩:=h
  have hu:=cR hr;refine⟨_,(aH (bL (bG (pv 0) Y.cl G_make hr aI (aA (gX GI hr.mn C.c aI (aA (bG (pv 0) Y.cl G_of hr.mn aI (aA (pv 1) aE)) (aA (pv 2) aE))) aE)))),?_⟩;obtain⟨⟨dx,fi0,h1⟩,h2,h3⟩:=hS;refine⟨_,rfl,s',dx,_,rfl,h1,cK,_,rfl,s',dx,_,rfl,h1,cK,_,rfl,s',bd,ch,fi0,dx,kb,nm,_,rfl,h1,h3,hn,hv,fun H1 s1=> ?_⟩;refine⟨_,rfl,?_⟩;intro c dc hc hdc ne;refine⟨c,dc,B.b,i,rfl,aK,fun H3 b3 c3=>⟨rfl,?_⟩⟩;have s3:aJ H H3:=fun b o z=>b3 b o (bK (s1 _ _ z) hc) (by rw[aF (bK (s1 _ _ z) hc),aF (bK (s1 _ _ z) hdc)];exact s1 _ _ z)
  have hB3:=hB.same s3;refine⟨s',c,bd,ch,fi0,dx,dc,cs,_,rfl,c3,(qB _ _ _ _).2.2.1,c,dc,B,i,ts,_,_,rfl,c3,hB3,hT.same s3,i1,by omega,fun H4 d u4 l4 r4 d0 d4 p4=> ?_⟩;have hc0:H c=none:=dA s1 hc;obtain⟨⟨dT,t1⟩,t2,t3⟩:=hT.tab;have k4:∀{x:Addr} {o:HO},H x=some o->x≠B.r->(∀c∈ts,x≠c.l)->H4 x=some o:=fun e n2 n3=>u4 _ _ (s3 _ _ e) (fun y=>by rw[y,hc0]at e;cases e) n2 n3
  have nl:∀{x:Addr} {o:HO},H x=some o->(∀y,o≠ .lst y)->∀c∈ts,x≠c.l:=fun e n c hc y=>by have:=hT.lst c hc;rw[<- y,e]at this;exact n _ (Option.some.inj this)
  have nr:∀{x:Addr} {o:HO},H x=some o->(∀y,o≠ .lst y)->x≠B.r:=fun e n y=>by rw[y,t2]at e;exact n _ (Option.some.inj e).symm
  have ns4:=k4 h1 (nr h1 nk) (nl h1 nk);have ch4:=k4 h2 ss.r (fun c hc=>(sp.ch c hc).symm);refine⟨ns4,ch4,cl,fun H5 fi fd lk df f1 f2 f3 nfl g1 g2 g3 g4 g5 u5=> ?_⟩;have nn:∀{x:Addr},H4 x=none->H x=none:=fun{x} e=>by
   cases e2:H x with
   |none=>rfl
   |some o=>
    by_cases y2:x=B.r
    ·rw[y2,r4]at e;cases e
    ·by_cases y3:∃c∈ts,x=c.l
     ·obtain⟨c,hc,y3⟩:=y3
      rw[y3,l4 c hc]at e;cases e
     ·rw[k4 e2 y2 (fun c hc z=>y3 ⟨c,hc,z⟩)]at e;cases e
  have nb:bd≠s'/\bd≠ch:=⟨fun y=>by{rw[y,h1]at h3;cases h3},fun y=>by{rw[y,h2]at h3;cases h3}⟩;have nls:∀c∈ts,c.l≠s':=fun c hc y=>by have:=hT.lst c hc;rw[y,h1]at this;cases this
  have B4:bP CB CT H4 {B with xs:=B.xs.eraseIdx i}:=by
   obtain⟨⟨d1,e1⟩,⟨⟨d2,e2⟩,e3,e4⟩,e5,e6,e7⟩:=hB;have k:∀{x:Addr} {o:HO},H x=some o->(∀y,o≠ .lst y)->H4 x=some o:=fun e n=>k4 e (nr e n) (nl e n)
   exact⟨⟨d1,k e1 nk⟩,⟨⟨d2,k e2 nk⟩,r4,k e4 nk⟩,k e5 nk,k e6 nk,k4 e7 sp.ro.symm (fun c hc=>(sp.od c hc).symm)⟩
  exact q H5 fi fd lk c ⟨⟨dx,g1⟩,g2,u5 _ _ nb.1 nb.2 (k4 h3 (nr h3 nk) (nl h3 nk)),⟨df,g3⟩,g4,g5,nfl,nn f1,nn f2,nn f3⟩ (B4.off ⟨dx,bd,ch,fi0,ns4⟩ ch4 ss.r ss.o u5) (fun c hc=>u5 _ _ (nls c hc) (sp.ch c hc) (l4 c hc)) (fun x o n1 n2 n4 n5 e=>u5 _ _ n1 n2 (k4 e n4 n5))
inductive iG(CF:Addr)(sp:Sp)(vs:List V)(H:Hp)(Q:VK)(E:XK):Prop
 |mk (fi ce bd fd lk d0:Addr) (ky:Ky):vs= [.ref fi,.ref ce] ->H fi=some (.ins CF d0 (eT bd fd lk))->(∀H1 wl,H wl=none->aJ H H1->H1 wl=some (.lst [.ref ce])->sp [.ref fi,.ref ce] H1 (fun v H2=>v= .non/\∃d2 kf v2,H2 wl=some (.lst [.ref ce])/\H2 fi=some (.ins CF d2 (eT bd fd lk))/\H2 fd=some (.dT kf)/\H2 ce=some (.tup (ky.map kV))/\aO kf ky=some v2/\∀H3,bI wl H2 H3->Q v2 H3) E0)->iG CF sp vs H Q E
abbrev Nvo:List Str:=["self","cell","waiting","lacking"]
theorem rB:aX Nvo ["self","cell"] (aR yS):={}
theorem xZ(T:aW K mg)(Y:dZ K mg CF){k:Nat}(mono:fW sp)(G:aL P w K mg ae aD k CF "attempt" ["self","cell"] sp):aL P w K mg ae aD (k+ 1) CF "value_of" ["self","cell"] (iG CF sp):=by
 refine Y.m_value_of.known rB (fun _ _ _ _ _ _ us hl=>cT (fun _ _=>rfl) us hl) (fun vs H Q E h=> ?_) (fun f ag A af s H vs Q E hr h=> ?_)
 ·obtain⟨fi,ce,bd,fd,lk,d0,ky,rfl,_⟩:=h
  rfl
 ·obtain⟨fi,ce,bd,fd,lk,d0,ky,rfl,hfi,q⟩:=h
  have hu:=cR hr
  refine⟨_,(aG (cN (i:=2) rB.nd rfl (Or.inl rfl) (hG (aA (pv 1) aE)))
   (aG (a44 PassesOwn.never (a4I (pv 2) (fun _=>rfl)) (aG (cN (i:=3) rB.nd rfl (Or.inl rfl) (bG (pv 0) Y.cl G hr aI (aA (dH eQ (pv 2) (a35 a5s aT) (fun _ _=>rfl)) aE)))
   (aH (bF (bW nM (pv 3) fM (cC _)) (aH (bL (mN F.plainAttrs_list F.slot_list_pop F.type_list_pop a5e (pv 2)))) (aH bT)))))
   (aH (bM (eN hu (aQ (pv 0) rfl) (pv 1) (fun _ _=>rfl)))))),?_⟩
  refine⟨_,rfl,sl,fun wl hwl=> ?_⟩;have s1:=aJ.new (o:=.lst [.ref ce]) hwl;have w1:upd H wl (.lst [.ref ce]) wl=some (.lst [.ref ce]):=aK
  generalize upd H wl (.lst [.ref ce])=H1 at s1 w1|-
  have q1:=q H1 wl hwl s1 w1
  let Wf:Nat->St->Hp->Prop:=fun m σ H2=>(m=1/\σ= [some (.ref fi),some (.ref ce),some (.ref wl),none] /\H2=H1)\/ (m=0/\σ= [some (.ref fi),some (.ref ce),some (.ref wl),some .non] /\∃d2 kf v2,H2 wl=some (.lst [])/\H2 fi=some (.ins CF d2 (eT bd fd lk))/\H2 fd=some (.dT kf)/\H2 ce=some (.tup (ky.map kV))/\aO kf ky=some v2/\Q v2 H2)
  refine⟨Wf,⟨1,.inl ⟨rfl,rfl,rfl⟩⟩,?_⟩;rintro m σ H2 (⟨rfl,rfl,rfl⟩|⟨rfl,rfl,d2,kf,v2,h1,h2,h3,h4,h5,h6⟩)
  ·refine⟨_,rfl,_,.inl ⟨_,aN.of w1,rfl⟩,?_⟩
   refine dX (fun g=> ?_) (fun g=>absurd rfl g);refine⟨fun σ' H'=>∃m',m'<1/\Wf m' σ' H',fun σ' H' h=>h,?_⟩;refine⟨_,rfl,fi,d0,_,rfl,s1 _ _ hfi,pR,_,rfl,_,rfl,wl,_,_,_,rfl,rfl,aN.of w1,rfl,?_⟩;refine mono _ _ _ _ (fun v H3 hQ=> ?_) q1;obtain⟨rfl,d2,kf,v2,h1,h2,h3,h4,h5,h6⟩:=hQ;refine⟨_,rfl,rfl,_,rfl,cZ ?_⟩;refine⟨_,rfl,.inl ⟨rfl,_,aN.of h1⟩,wl,_,_,rfl,rfl,h1,rfl,?_⟩;have u:bI wl H3 (upd H3 wl (.lst [])):=fun b o n e=>by rw[aF n];exact e
   refine⟨0,by decide,.inr ⟨rfl,rfl,d2,kf,v2,aK,u _ _ (fun y=>by rw[y,h1]at h2;cases h2) h2,u _ _ (fun y=>by rw[y,h1]at h3;cases h3) h3,u _ _ (fun y=>by rw[y,h1]at h4;cases h4) h4,h5,h6 _ u⟩⟩
  ·refine⟨_,rfl,_,.inl ⟨_,aN.of h1,rfl⟩,?_⟩
   refine dX (fun g=>by cases g) (fun g=> ?_);refine⟨_,rfl,fi,CF,d2,_,_,rfl,h2,Y.cl,Y.n_found,(vC _ _ _).2.1,_,rfl,fd,v2,rfl,.inr ⟨kf,ky,ce,.inl h3,rfl,h4,h5.symm⟩,h6⟩
inductive hU(CF CB CT:Addr)(vs:List V)(H:Hp)(Q:VK)(E:XK):Prop
 |mk (fi bd fd lk ce l:Addr) (nm c:Str) (p:Nat) (B:BM) (kf:List (Ky×V)) (ys:List V) (v:V):vs= [.ref fi,.ref ce] ->eZ CF CB CT H fi bd fd lk nm B kf->H ce=some (.tup ((bQ nm c p).map kV))->aO B.rus (.inr c:aB)=none->Nl c->aO B.kvs (.inr c:aB)=some (.ref l)->H l=some (.lst ys)->p<B.xs.length->bV ys (p:Int)=some v->(∀v',aO kf (bQ nm c p)=some v'->v'=v)->kf.length<899->(∀H' kf',(kf'=kf\/ kf'=bH kf (bQ nm c p) v)->aO kf' (bQ nm c p)=some v->eZ CF CB CT H' fi bd fd lk nm B kf'->bI fd H H'->Q .non H')->hU CF CB CT vs H Q E
abbrev NatG:List Str:=["self","cell","trial","told"]
theorem a1c:aX NatG ["self","cell"] (aR vP):={}
theorem a0G(T:aW K mg)(Y:dZ K mg CF)(Wb:cF K mg CB)(U:bX K mg CT):aL P w K mg ae aD 5 CF "attempt" ["self","cell"] (hU CF CB CT):=by
 have G_knows:aL P w K mg ae aD 4 CF "knows" ["self","cell"] (uF CF CB CT):=a4B T Y Wb U;refine Y.m_attempt.known a1c (fun _ _ _ _ _ _ us hl=>cT (fun _ _=>rfl) us hl) (fun vs H Q E h=> ?_) (fun f ag A af s H vs Q E hr h=> ?_)
 ·obtain⟨fi,bd,fd,lk,ce,l,nm,c,p,B,kf,ys,v,rfl,_⟩:=h
  rfl
 ·obtain⟨fi,bd,fd,lk,ce,l,nm,c,p,B,kf,ys,v,rfl,F,a1,a2,a3,a4,a5,a6,a7,a8,a9,q⟩:=h
  refine⟨_,(aG (bF (cU (bG (pv 0) Y.cl G_knows hr aI (aA (pv 1) aE)) (fun _=>rfl)) (aH (bM fM)) bN)
   (aG bT (aG bT (aG bT (aH bT))))),?_⟩
  obtain⟨d0,e1⟩:=F.fin;exact⟨_,rfl,fi,d0,_,rfl,e1,pR,_,rfl,fi,bd,fd,lk,ce,l,nm,c,p,B,kf,ys,v,rfl,F,a1,a2,a3,a4,a5,a6,a7,a8,a9,fun H' kf' h1 h2 h3 h4=>⟨_,rfl,cZ (q H' kf' h1 h2 h3 h4)⟩⟩
theorem vE:fW (hU CF CB CT):=fun vs H Q Q' hQ h=>by
 obtain⟨fi,bd,fd,lk,ce,l,nm,c,p,B,kf,ys,v,a0,F,a1,a2,a3,a4,a5,a6,a7,a8,a9,q⟩:=h;exact⟨fi,bd,fd,lk,ce,l,nm,c,p,B,kf,ys,v,a0,F,a1,a2,a3,a4,a5,a6,a7,a8,a9,fun H' kf' h1 h2 h3 h4=>hQ _ _ (q H' kf' h1 h2 h3 h4)⟩
theorem a3P{s ch:Addr}{kb:List (aB×V)}{nm c:Str}{p:Nat}{Q:VK}(F:eZ CF CB CT H fi bd fd lk nm B kf)(hS:nF CS CB CT s bd ch fi kb nm B H)(nc:Nl c)(co:c∈B.ord)(ru:aO B.rus (.inr c:aB)=none)(kv:aO B.kvs (.inr c:aB)=some (.ref l))(hl:H l=some (.lst ys))(hp:p<B.xs.length)(ha:bV ys (p:Int)=some v)(hcon:∀v',aO kf (bQ nm c p)=some v'->v'=v)(kl:kf.length<899)
 (q:∀H' kf',(kf'=kf\/ kf'=bH kf (bQ nm c p) v)->H' fd=some (.dT kf')->bI fd H H'->Q v H'):
 nO CS CF CB CT (iG CF (hU CF CB CT)) [.ref s,.str nm,.str c,.int (p:Int)] H Q E0:=by
 obtain⟨df,hfi⟩:=F.fin;refine⟨s,bd,ch,fi,df,kb,nm,c,p,B,_,rfl,hS,nc,co,hp,hfi,pR,fun H1 ce hce s1 c1=> ?_⟩;refine⟨fi,ce,bd,fd,lk,df,bQ nm c p,rfl,s1 _ _ hfi,fun H2 wl hwl s2 w2=> ?_⟩;have F2:=(F.same s1).same s2;have nfd:∀{x:Addr} {o:HO},H2 x=some o->(∀y,o≠ .dT y)->x≠fd:=fun e n y=>by rw[y,F2.fnd]at e;exact n _ (Option.some.inj e).symm
 refine⟨fi,bd,fd,lk,ce,l,nm,c,p,B,kf,ys,v,rfl,F2,s2 _ _ c1,ru,nc,kv,s2 _ _ (s1 _ _ hl),hp,ha,hcon,kl,fun H3 kf' hk hv F3 b3=>⟨rfl,?_⟩⟩;obtain⟨d3,f3⟩:=F3.fin;have w3:=b3 _ _ (nfd w2 nk) w2;refine⟨d3,kf',v,w3,f3,F3.fnd,b3 _ _ (nfd (s2 _ _ c1) nk) (s2 _ _ c1),hv,fun H4 b4=>q H4 kf' hk (b4 _ _ (fun y=>by rw[<- y,F3.fnd]at w3;cases w3) F3.fnd) fun x o n e=>b4 _ _ (fun y=>by rw[y]at e;rw[s1 _ _ e]at hwl;cases hwl) (b3 _ _ n (s2 _ _ (s1 _ _ e)))⟩
inductive qT(CS CB CT:Addr)(vs:List V)(H:Hp)(Q:VK)(E:XK):Prop
 |mk (s bd ch fi dx:Addr) (kb:List (aB×V)) (nm:Str) (B:BM):vs= [.ref s,.str nm] ->H s=some (.ins CS dx (cQ bd ch fi))->H bd=some (.dK kb)->Nl nm->aO kb (.inr nm:aB)=some (.ref B.b)->bP CB CT H B->(∀H',aJ H H'->Q (.int B.xs.length) H')->qT CS CB CT vs H Q E
theorem a1k:aX ["self","table"] ["self","table"] (aR xS):={}
theorem a1b(T:aW K mg)(Y:dE K mg CS)(W:cF K mg CB)(Z:bX K mg CT):aL P w K mg ae aD 3 CS "many" ["self","table"] (qT CS CB CT):=by
 have G_of:aL P w K mg ae aD 2 CS "board_of" ["self","table"] (iO CS CB CT):=kH T Y;have G_many:aL P w K mg ae aD 1 CT "many" ["self"] (fB CT):=fV T Z;refine Y.m_many.known a1k (fun _ _ _ _ _ _ us hl=>cT (fun _ _=>rfl) us hl) (fun vs H Q E h=> ?_) (fun f ag A af s H vs Q E hr h=> ?_)
 ·obtain⟨s',bd,ch,fi,dx,kb,nm,B,rfl,_⟩:=h
  rfl
 ·obtain⟨s',bd,ch,fi,dx,kb,nm,B,rfl,h1,h2,hn,hv,hB,q⟩:=h
  refine⟨_,(aH (bM (dR (aQ (bG (pv 0) Y.cl G_of hr aI (aA (pv 1) aE)) rfl) Z.cl G_many hr.mn aI))),?_⟩;refine⟨_,rfl,s',dx,_,rfl,h1,cK,_,rfl,s',bd,ch,fi,dx,kb,nm,_,rfl,h1,h2,hn,hv,fun H1 s1=> ?_⟩;have hB1:=hB.same s1;obtain⟨dB,b1⟩:=hB1.at_;obtain⟨dT,t1⟩:=hB1.tab.at_;exact⟨B.b,CB,dB,_,_,rfl,b1,W.cl,W.n_given,(cE _ _ _ _).1,B.g,dT,_,rfl,t1,cL,B.g,B.r,B.e,B.xs,B.n,B.kvs,rfl,hB1.tab,q H1 s1⟩
inductive uJ(CS CB CT:Addr)(vs:List V)(H:Hp)(Q:VK)(E:XK):Prop
 |mk (s bd ch fi dx:Addr) (kb:List (aB×V)) (nm:Str) (B:BM):vs= [.ref s,.str nm] ->H s=some (.ins CS dx (cQ bd ch fi))->H bd=some (.dK kb)->Nl nm->aO kb (.inr nm:aB)=some (.ref B.b)->bP CB CT H B->(∀H' l,aJ H H'->H l=none->H' l=some (.lst (B.ord.map V.str))->Q (.ref l) H')->uJ CS CB CT vs H Q E
theorem a1e:aX ["self","table"] ["self","table"] (aR xX):={}
theorem a1Y(T:aW K mg)(Y:dE K mg CS)(W:cF K mg CB):aL P w K mg ae aD 3 CS "columns" ["self","table"] (uJ CS CB CT):=by
 have G_of:aL P w K mg ae aD 2 CS "board_of" ["self","table"] (iO CS CB CT):=kH T Y;refine Y.m_columns.known a1e (fun _ _ _ _ _ _ us hl=>cT (fun _ _=>rfl) us hl) (fun vs H Q E h=> ?_) (fun f ag A af s H vs Q E hr h=> ?_)
 ·obtain⟨s',bd,ch,fi,dx,kb,nm,B,rfl,_⟩:=h
  rfl
 ·obtain⟨s',bd,ch,fi,dx,kb,nm,B,rfl,h1,h2,hn,hv,hB,q⟩:=h
  refine⟨_,(aH (bM (gT rF rfl T.list gF (aA (aQ (bG (pv 0) Y.cl G_of hr aI (aA (pv 1) aE)) rfl) aE)))),?_⟩;refine⟨_,rfl,s',dx,_,rfl,h1,cK,_,rfl,s',bd,ch,fi,dx,kb,nm,_,rfl,h1,h2,hn,hv,fun H1 s1=> ?_⟩;obtain⟨dB,b1⟩:=(hB.same s1).at_;exact⟨B.b,CB,dB,_,_,rfl,b1,W.cl,W.n_order,(cE _ _ _ _).2.2.2,B.od,_,rfl,.inl (aN.of (hB.same s1).ord),fun l hl=>q _ l (s1.trans (aJ.new hl)) (dA s1 hl) aK⟩
inductive uT(CS CB CT:Addr)(vs:List V)(H:Hp)(Q:VK)(E:XK):Prop
 |mk (s bd ch fi dx:Addr) (kb:List (aB×V)) (nm t:Str) (B:BM):vs= [.ref s,.str nm,.str t] ->H s=some (.ins CS dx (cQ bd ch fi))->H bd=some (.dK kb)->Nl nm->aO kb (.inr nm:aB)=some (.ref B.b)->bP CB CT H B->Nl t->t∈B.ord->(∀H',aJ H H'->Q (.bl (aO B.rus (.inr t:aB)).isSome) H')->uT CS CB CT vs H Q E
theorem a42:aX ["self","table","column"] ["self","table","column"] (aR a0M):={}
theorem a1j(T:aW K mg)(Y:dE K mg CS)(W:cF K mg CB):aL P w K mg ae aD 4 CS "is_ruled" ["self","table","column"] (uT CS CB CT):=by
 have G_with:aL P w K mg ae aD 3 CS "board_with" ["self","table","column"] (kW CS CB CT):=pP T Y W;refine Y.m_is_ruled.known a42 (fun _ _ _ _ _ _ us hl=>gA (fun _ _ _=>rfl) us hl) (fun vs H Q E h=> ?_) (fun f ag A af s H vs Q E hr h=> ?_)
 ·obtain⟨s',bd,ch,fi,dx,kb,nm,t,B,rfl,_⟩:=h
  rfl
 ·obtain⟨s',bd,ch,fi,dx,kb,nm,t,B,rfl,h1,h2,hn,hv,hB,ht,ho,q⟩:=h
  have hu:=cR hr;refine⟨_,(aH (bM (a0C (jE hu (pv 2) (aQ (bG (pv 0) Y.cl G_with hr aI (aA (pv 1) (aA (pv 2) aE))) rfl))))),?_⟩;refine⟨_,rfl,_,rfl,s',dx,_,rfl,h1,cK,_,rfl,_,rfl,s',bd,ch,fi,dx,kb,nm,t,B,rfl,h1,h2,hn,hv,hB,ht,ho,fun H1 s1=> ?_⟩;obtain⟨dB,b1⟩:=(hB.same s1).at_;exact⟨B.b,CB,dB,_,_,rfl,b1,W.cl,W.n_rules,(cE _ _ _ _).2.1,B.ru,_,rfl,cG.k (k:=Sum.inr t) (hB.same s1).rul,q H1 s1⟩
inductive qV(C:Addr)(vs:List V)(H:Hp)(Q:VK)(E:XK):Prop
 |mk (p:_) (r:_) (d:_) (xs:_) (n:_) (kvs:_) (t:_) (v:_):vs= [.ref p,.str t] ->eB C H p r d xs n kvs->Nl t->aO kvs (.inr t:aB)=some v->(∀H',aJ H H'->Q .non (upd H' d (.dK (cH kvs (.inr t:aB)))))->qV C vs H Q E
theorem a5l:aX ["self","column"] ["self","column"] (aR a0n):={}
theorem a2K(T:aW K mg)(Y:bX K mg C):aL P w K mg ae aD 3 C "drop" ["self","column"] (qV C):=by
 have G_check_column:aL P w K mg ae aD 2 C "check_column" ["self","column"] (mR C):=tZ T Y;refine Y.m_drop.known a5l (fun _ _ _ _ _ _ us hl=>cT (fun _ _=>rfl) us hl) (fun vs H Q E h=> ?_) (fun f ag A af s H vs Q E hr h=> ?_)
 ·obtain⟨p,r,d,xs,n,kvs,t,v,rfl,_⟩:=h
  rfl
 ·obtain⟨p,r,d,xs,n,kvs,t,v,rfl,TA,ht,hv,q⟩:=h
  refine⟨_,(aG (bL (bG (pv 0) Y.cl G_check_column hr.mn aI (aA (pv 1) aE)))
   (aH (bL (a39 (aQ (pv 0) rfl) (pv 1) ⟨rfl,rfl,rfl,rfl⟩)))),?_⟩
  obtain⟨⟨dx,h1⟩,h2,h3⟩:=id TA;refine⟨_,rfl,p,dx,_,rfl,h1,cL,_,rfl,p,r,d,xs,n,kvs,t,v,rfl,TA,ht,hv,fun H1 s1=> ?_⟩;exact⟨_,rfl,p,C,dx,_,_,rfl,s1 _ _ h1,Y.cl,Y.n_kept,gB _ _ _,d,rfl,.inl ⟨_,.inl (s1 _ _ h3)⟩,_,rfl,kvs,Sum.inr t,v,s1 _ _ h3,rfl,hv,q H1 s1⟩
structure gO(H:Hp)(B:BM)(t:Str)(l:Addr)(ys:List V):Prop where
 ru:aO B.rus (.inr t:aB)=none
 od:t∈B.ord
 nl:Nl t
 kv:aO B.kvs (.inr t:aB)=some (.ref l)
 at_:H l=some (.lst ys)
 ly:ys.length=B.xs.length
 l30:ys.length<=30
theorem gO.same{t:Str}(h:gO H B t l ys)(s:aJ H H'):gO H' B t l ys:=⟨h.ru,h.od,h.nl,h.kv,s _ _ h.at_,h.ly,h.l30⟩
inductive uI(CB CT:Addr)(vs:List V)(H:Hp)(Q:VK)(E:XK):Prop
 |mk (B:BM) (t:Str) (l:Addr) (ys:List V):vs= [.ref B.b,.str t] ->bP CB CT H B->gO H B t l ys->(∀H' D,H D=none->aJ H H'->Q (.ref D) H')->uI CB CT vs H Q E
theorem a1l(T:aW K mg)(Y:cF K mg CB)(Z:bX K mg CT):aL P w K mg ae aD 4 CB "content" ["self","column"] (uI CB CT):=by
 have G_at:aL P w K mg ae aD 3 CT "at" ["self","column","place"] (lL CT):=tU T Z;have G_many:aL P w K mg ae aD 1 CT "many" ["self"] (fB CT):=fV T Z;refine Y.m_content.known uV (fun _ _ _ _ _ _ us hl=>cT (fun _ _=>rfl) us hl) (fun vs H Q E h=> ?_) (fun f ag A af s H vs Q E hr h=> ?_)
 ·obtain⟨B,t,l,ys,rfl,_⟩:=h
  rfl
 ·obtain⟨B,t,l,ys,rfl,hB,g,q⟩:=h
  have hcl:∀x,(eG aD P w K mg ae ["self","column"] "Board.content" (aR mV) f ag A af s H E).nox.env.scope.names.lookup x=some .cell->∃c,(eG aD P w K mg ae ["self","column"] "Board.content" (aR mV) f ag A af s H E).nox.env.cells.lookup x=some c:=fun x hx=>Option.isSome_iff_exists.mp (W.cellsFrom_some _ _ _ (.inl hx))
  refine⟨_,(aG (bF (gW (jE (cR hr) (pv 1) (aQ (pv 0) rfl))) (aH bT) bN)
   (aG (bF (bW nQ (pv 1) (aQ (pv 0) rfl) (by with_unfolding_all rfl)) (aH (bM (nA (te:=kN CT "at" (lL CT) [] E0 (nZ K (eV 2) "given") (gH (eV 1) (gH (eV 0) gC))) (nY (sc:=aR mV) (N:=["self","column"]) (cp:=[(1,"column"),(0,"self")]) hcl) rfl rfl (by decide) (lK rfl T.range (aA (dR (aQ (pv 0) rfl) Z.cl G_many hr.mn aI) aE)) (fun _ _ _ _ _=>lO) (fun _ _ _ _ _=>bG (aQ (pv 2) rfl) Z.cl G_at hr aI (aA (pv 1) (aA (pv 0) aE)))))) bN)
   (aH bT))),?_⟩
  obtain⟨⟨dx,h1⟩,tb,h3,_,h5⟩:=id hB;obtain⟨⟨dT,t1⟩,t2,t3⟩:=id tb;refine⟨_,rfl,_,rfl,B.b,CB,dx,_,_,rfl,h1,Y.cl,Y.n_rules,(cE _ _ _ _).2.1,B.ru,_,rfl,cG.k (k:=Sum.inr t) h3,_,rfl,?_⟩;rw[g.ru];refine bB ⟨_,rfl,_,rfl,B.b,CB,dx,_,_,rfl,h1,Y.cl,Y.n_order,(cE _ _ _ _).2.2.2,B.od,_,rfl,.inl (aN.of h5),rfl,gG _,_,rfl,?_⟩;rw[show (if false=true then !dL (.str t) (B.ord.map V.str) else dL (.str t) (B.ord.map V.str))=true by rw[if_neg Bool.false_ne_true,gK,decide_eq_true g.od]];have lx:=g.ly;have l30:=g.l30;refine cZ ⟨_,rfl,B.b,CB,dx,_,_,rfl,h1,Y.cl,Y.n_given,(cE _ _ _ _).1,B.g,dT,_,rfl,t1,cL,B.g,B.r,B.e,B.xs,B.n,B.kvs,rfl,tb,_,rfl,by omega,by omega,fun D hD=> ?_⟩;rw[Int.toNat_natCast];refine tW (lo:=0) (n:=B.xs.length) (fun i zs H2=>aJ H H2/\zs.length=i) ⟨aJ.new hD,rfl⟩ ?_ ?_
  ·rintro i zs H2 hi h2 ⟨s2,lz⟩
   rw[Int.zero_add];refine⟨_,rfl,B.b,CB,dx,_,_,rfl,s2 _ _ h1,Y.cl,Y.n_given,(cE _ _ _ _).1,B.g,dT,_,rfl,s2 _ _ t1,cL,_,rfl,_,rfl,B.g,B.r,B.e,B.xs,B.n,B.kvs,t,l,ys,i,ys[i]'(by omega),rfl,tb.same s2,g.nl,g.kv,s2 _ _ g.at_,hi,iC (List.getElem?_eq_getElem _),fun H3 s3=> ?_⟩;exact⟨s3 _ _ h2,dQ (by omega),(s2.trans s3).on hD,by rw[List.length_append,lz];rfl⟩
  ·rintro zs H2 h2 ⟨s2,lz⟩
   exact q H2 D hD s2
inductive qQ(CB CT:Addr)(vs:List V)(H:Hp)(Q:VK)(E:XK):Prop
 |mk (B:BM) (t:Str) (l:Addr) (ys:List V):vs= [.ref B.b,.str t] ->bP CB CT H B->gO H B t l ys->(∀H',aJ H H'->Q .non (upd H' B.e (.dK (cH B.kvs (.inr t:aB)))))->qQ CB CT vs H Q E
theorem a4s(T:aW K mg)(Y:cF K mg CB)(Z:bX K mg CT):aL P w K mg ae aD 4 CB "empty_column" ["self","column"] (qQ CB CT):=by
 have G_drop:aL P w K mg ae aD 3 CT "drop" ["self","column"] (qV CT):=a2K T Z;refine Y.m_empty_column.known vG (fun _ _ _ _ _ _ us hl=>cT (fun _ _=>rfl) us hl) (fun vs H Q E h=> ?_) (fun f ag A af s H vs Q E hr h=> ?_)
 ·obtain⟨B,t,l,ys,rfl,_⟩:=h
  rfl
 ·obtain⟨B,t,l,ys,rfl,hB,g,q⟩:=h
  refine⟨_,(aH (bF (gW (jE (cR hr) (pv 1) (aQ (pv 0) rfl))) (aG bT (aH bT)) (aH (bF (bW nQ (pv 1) (aQ (pv 0) rfl) (by with_unfolding_all rfl)) (aH (bL (bG (aQ (pv 0) rfl) Z.cl G_drop hr aI (aA (pv 1) aE)))) bN)))),?_⟩;obtain⟨⟨dx,h1⟩,tb,h3,_,h5⟩:=id hB;obtain⟨⟨dT,t1⟩,t2,t3⟩:=id tb;refine⟨_,rfl,_,rfl,B.b,CB,dx,_,_,rfl,h1,Y.cl,Y.n_rules,(cE _ _ _ _).2.1,B.ru,_,rfl,cG.k (k:=Sum.inr t) h3,_,rfl,?_⟩;rw[g.ru];refine bB ⟨_,rfl,_,rfl,B.b,CB,dx,_,_,rfl,h1,Y.cl,Y.n_order,(cE _ _ _ _).2.2.2,B.od,_,rfl,.inl (aN.of h5),rfl,gG _,_,rfl,?_⟩;rw[show (if false=true then !dL (.str t) (B.ord.map V.str) else dL (.str t) (B.ord.map V.str))=true by rw[if_neg Bool.false_ne_true,gK,decide_eq_true g.od]];exact cZ ⟨_,rfl,B.b,CB,dx,_,_,rfl,h1,Y.cl,Y.n_given,(cE _ _ _ _).1,B.g,dT,_,rfl,t1,cL,_,rfl,B.g,B.r,B.e,B.xs,B.n,B.kvs,t,_,rfl,tb,g.nl,g.kv,fun H1 s1=>q H1 s1⟩
inductive pQ(K:Fg)(CB CT:Addr)(vs:List V)(H:Hp)(Q:VK)(E:XK):Prop
 |mk (B:BM) (t:Str) (a l0:Addr) (ys ys0:List V) (ds:List PyData):vs= [.ref B.b,.str t,.ref a] ->bP CB CT H B->B.sep->gO H B t l0 ys0->H a=some (.lst ys)->dC K H ys ds->ys.length=B.xs.length->ys.length<=30->B.kvs.length<=8->(∀H' l,H l=none->bP CB CT H' {B with kvs:=bH (cH B.kvs (.inr t:aB)) (.inr t:aB) (.ref l)} ->H' l=some (.lst ys)->(∀b o,b≠B.e->H b=some o->H' b=some o)->Q .non H')->pQ K CB CT vs H Q E
theorem oX{κ:Type} [DecidableEq κ]:∀(kvs:List (κ×V)) (k:κ) {v:V},aO kvs k=some v->(cH kvs k).length<kvs.length
 | [],_,_,h=>by cases h
 |p::r,k,v,h=>by
  by_cases e:p.1=k
  ·rw[rE e]
   exact Nat.lt_succ_of_le (sR r k)
  ·rw[pX e]
   rw[eX e]at h;exact Nat.succ_lt_succ (oX r k h)
theorem bI.upd:bI p H (upd H p o):=fun b u n e=>by rw[aF n];exact e
theorem a5z(T:aW K mg)(Y:cF K mg CB)(Z:bX K mg CT):aL P w K mg ae aD 6 CB "set_column" ["self","column","content"] (pQ K CB CT):=by
 have G_empty:aL P w K mg ae aD 4 CB "empty_column" ["self","column"] (qQ CB CT):=a4s T Y Z;have G_give:aL P w K mg ae aD 5 CT "give" ["self","column","values"] (oN K CT):=yQ T Z;refine Y.m_set_column.known xV (fun _ _ _ _ _ _ us hl=>gA (fun _ _ _=>rfl) us hl) (fun vs H Q E h=> ?_) (fun f ag A af s H vs Q E hr h=> ?_)
 ·obtain⟨B,t,a,l0,ys,ys0,ds,rfl,_⟩:=h
  rfl
 ·obtain⟨B,t,a,l0,ys,ys0,ds,rfl,hB,sp,g,ha,hp,hl,l30,k8,q⟩:=h
  refine⟨_,(aG (bL (bG (pv 0) Y.cl G_empty hr.mn aI (aA (pv 1) aE)))
   (aG (bF (bW nM (pv 2) fM (cC _)) (aG bT (aH bT)) bN)
   (aG (bF (bW lE (pv 1) (aQ (pv 0) rfl) (by with_unfolding_all rfl)) (aH bT) bN)
   (aH (bF (cU (cA rA rfl T.isinstance fL (aA (pv 2) (aA (fT T.list gF) aE))) (fun _=>rfl)) (aH (bL (bG (aQ (pv 0) rfl) Z.cl G_give hr.mn aI (aA (pv 1) (aA (pv 2) aE))))) (aG bT (aH bT))))))),?_⟩
  obtain⟨⟨dx,h1⟩,tb,h3,h4,h5⟩:=id hB;obtain⟨⟨dt,t1⟩,t2,t3⟩:=id tb;refine⟨_,rfl,B.b,dx,_,rfl,h1,kG,_,rfl,B,t,l0,ys0,rfl,hB,g,fun H5 s5=> ?_⟩;have u6:bI B.e H5 (upd H5 B.e (.dK (cH B.kvs (.inr t:aB)))):=bI.upd;have e6:upd H5 B.e (.dK (cH B.kvs (.inr t:aB))) B.e=some (.dK (cH B.kvs (.inr t:aB))):=aK;have kt6:bS H5 (upd H5 B.e (.dK (cH B.kvs (.inr t:aB)))):=bS.upd (s5 _ _ t3) (fun xs z=>by cases z);have n6:∀b,upd H5 B.e (.dK (cH B.kvs (.inr t:aB))) b=none->H5 b=none:=fun b z=>(gY z).1
  generalize upd H5 B.e (.dK (cH B.kvs (.inr t:aB)))=H6 at u6 e6 kt6 n6|-
  have k6:∀{x:Addr} {o:HO},H x=some o->(∀kvs,o≠ .dK kvs)->H6 x=some o:=fun z n=>u6 _ _ (fun y=>by rw[y,t3]at z;exact n _ (Option.some.inj z).symm) (s5 _ _ z)
  have a6:=k6 ha (fun _ z=>by cases z);have b6:=k6 h1 (fun _ z=>by cases z);have g6:=k6 t1 (fun _ z=>by cases z);have o6:=k6 h5 (fun _ z=>by cases z);refine⟨_,rfl,rfl,_,rfl,?_⟩;rw[decide_eq_false (show¬V.ref a=V.non from fun z=>by cases z)];refine bB ⟨_,rfl,_,rfl,B.b,CB,dx,_,_,rfl,b6,Y.cl,Y.n_order,(cE _ _ _ _).2.2.2,B.od,_,rfl,.inl (aN.of o6),rfl,gG _,_,rfl,?_⟩;rw[show (if true=true then !dL (.str t) (B.ord.map V.str) else dL (.str t) (B.ord.map V.str))=false by rw[if_pos rfl,gK,decide_eq_true g.od];rfl];have tb6:eB CT H6 B.g B.r B.e B.xs B.n (cH B.kvs (.inr t:aB)):=⟨⟨dt,g6⟩,k6 t2 (fun _ z=>by cases z),e6⟩;refine bB ⟨_,rfl,_,"list",.type "list",_,rfl,.lst a6,nS K .lst,_,rfl,cZ ?_⟩;have ld:=oX B.kvs (.inr t:aB) g.kv;refine⟨_,rfl,B.b,CB,dx,_,_,rfl,b6,Y.cl,Y.n_given,(cE _ _ _ _).1,B.g,dt,_,rfl,g6,cL,_,rfl,_,rfl,B.g,B.r,B.e,B.xs,B.n,_,t,a,ys,ds,rfl,tb6,g.nl,.inr (by omega),by omega,aN.of a6,(hp.keep (bS.of s5)).keep kt6,hl,by omega,fun H7 l s7 hl7=> ?_⟩;have u9:∀b o,b≠B.e->H7 b=some o->upd (upd H7 l (.lst ys)) B.e (.dK (bH (cH B.kvs (.inr t:aB)) (.inr t:aB) (.ref l))) b=some o:=fun b o n z=>by
   rw[aF n,aF (bK z hl7)];exact z
  have nle:l≠B.e:=fun z=>by rw[z,s7 _ _ e6]at hl7;cases hl7
  have e9:upd (upd H7 l (.lst ys)) B.e (.dK (bH (cH B.kvs (.inr t:aB)) (.inr t:aB) (.ref l))) B.e=some (.dK (bH (cH B.kvs (.inr t:aB)) (.inr t:aB) (.ref l))):=aK
  have l9:upd (upd H7 l (.lst ys)) B.e (.dK (bH (cH B.kvs (.inr t:aB)) (.inr t:aB) (.ref l))) l=some (.lst ys):=by rw[aF nle,aK]
  generalize upd (upd H7 l (.lst ys)) B.e (.dK (bH (cH B.kvs (.inr t:aB)) (.inr t:aB) (.ref l)))=H9 at u9 e9 l9|-
  have up:∀b o,b≠B.e->H b=some o->H9 b=some o:=fun b o n z=>u9 _ _ n (s7 _ _ (u6 _ _ n (s5 _ _ z)))
  have ne_:∀{b:Addr} {o:HO},H b=some o->(∀kvs,o≠ .dK kvs)->b≠B.e:=fun z n y=>by rw[y,t3]at z;exact n _ (Option.some.inj z).symm
  refine q H9 l (dA s5 (n6 _ (dA s7 hl7))) ⟨⟨dx,up _ _ (ne_ h1 (fun _ z=>by cases z)) h1⟩,⟨⟨dt,up _ _ (ne_ t1 (fun _ z=>by cases z)) t1⟩,up _ _ (ne_ t2 (fun _ z=>by cases z)) t2,e9⟩,up _ _ sp.eu.symm h3,up _ _ sp.em.symm h4,up _ _ (ne_ h5 (fun _ z=>by cases z)) h5⟩ l9 up
theorem a3f{dy:Addr}{y:Str}{u:V}{fs gs:List (Str×V)}(h:H p=some (.ins C dx ((x,u)::fs)))(g:H b=some (.ins D dy ((y,v)::gs)))(n:x≠y):p≠b:=fun z=>by
 rw[z,g]at h;cases h;exact n rfl
noncomputable def iU (b:Addr) (t:Str) (a D:Addr):List (Str×V):=[("board",V.ref b),("column",V.str t),("after",V.ref a),("before",V.ref D)]
theorem a5i(b:Addr)(t:Str)(a D:Addr):(iU b t a D).lookup ("board":Str)=some (.ref b)/\(iU b t a D).lookup ("column":Str)=some (.str t)/\(iU b t a D).lookup ("after":Str)=some (.ref a)/\aM "before" (.ref D) (iE b t a)=iU b t a D:=⟨rfl,rfl,rfl,rfl⟩
inductive sV(CS CB CT:Addr)(vs:List V)(H:Hp)(Q:VK)(E:XK):Prop
 |mk (s bd ch fi dx:Addr) (kb:List (aB×V)) (nm t:Str) (B:BM):vs= [.ref s,.str nm,.str t] ->H s=some (.ins CS dx (cQ bd ch fi))->H bd=some (.dK kb)->Nl nm->aO kb (.inr nm:aB)=some (.ref B.b)->bP CB CT H B->Nl t->t∈B.ord->(∀H',aJ H H'->Q (.ref B.b) H')->sV CS CB CT vs H Q E
theorem a2v(T:aW K mg)(Y:dE K mg CS)(W:cF K mg CB):aL P w K mg ae aD 3 CS "board_for" ["self","table","column"] (sV CS CB CT):=by
 have G_of:aL P w K mg ae aD 2 CS "board_of" ["self","table"] (iO CS CB CT):=kH T Y;have G_is_name:bA P w K mg ae aD 1 "is_name" ["thing"] (gQ K):=iS T;refine Y.m_board_for.known qJ (fun _ _ _ _ _ _ us hl=>gA (fun _ _ _=>rfl) us hl) (fun vs H Q E h=> ?_) (fun f ag A af s H vs Q E hr h=> ?_)
 ·obtain⟨s',bd,ch,fi,dx,kb,nm,t,B,rfl,_⟩:=h
  rfl
 ·obtain⟨s',bd,ch,fi,dx,kb,nm,t,B,rfl,h1,h2,hn,hv,hB,ht,ho,q⟩:=h
  refine⟨_,(aG (cN (i:=3) qJ.nd rfl (Or.inl rfl) (bG (pv 0) Y.cl G_of hr aI (aA (pv 1) aE)))
   (aG (bF (cV (cU (bJ G_is_name hr.mn aI (aA (pv 2) aE)) (fun _=>rfl))) (aH bT) bN)
   (aG (bF (PW.pt (mS (bW lE (pv 2) (aQ (pv 3) rfl) (by with_unfolding_all rfl)) (lV (bW nI (cA eW rfl T.len dY (aA (aQ (pv 3) rfl) aE)) (jV T.g_MOST_COLUMNS) (cC _))))) (aH bT) bN)
   (aH (bM (pv 3)))))),?_⟩
  refine⟨_,rfl,s',dx,_,rfl,h1,cK,_,rfl,s',bd,ch,fi,dx,kb,nm,_,rfl,h1,h2,hn,hv,fun H1 s1=> ?_⟩;have h8:=ht.2.1;refine⟨_,rfl,_,.str t,rfl,.str t,hJ (by omega),fun H2 s2=>⟨_,rfl,?_⟩⟩;rw[show eF (.str t)=true from ht.name];obtain⟨⟨dB,b1⟩,_,_,_,o1⟩:=(hB.same s1).same s2;refine bB ⟨_,rfl,_,rfl,B.b,CB,dB,_,_,rfl,b1,W.cl,W.n_order,(cE _ _ _ _).2.2.2,B.od,_,rfl,.inl (aN.of o1),rfl,gG _,_,rfl,?_⟩;have fin:Q (.ref B.b) H2:=q _ (s1.trans s2);rw[show (if true=true then !dL (.str t) (B.ord.map V.str) else dL (.str t) (B.ord.map V.str))=false by rw[if_pos rfl,gK,decide_eq_true ho];rfl];exact bB (bB ⟨_,rfl,fin⟩)
inductive qO(C CB CT:Addr)(sp:Sp)(vs:List V)(H:Hp)(Q:VK)(E:XK):Prop
 |mk (p dx a l:Addr) (B:BM) (t:Str) (ys:List V):vs= [.ref p] ->H p=some (.ins C dx (iE B.b t a))->bP CB CT H B->gO H B t l ys->(∀H1 D,bI p H H1->H D=none->H1 p=some (.ins C dx (iU B.b t a D))->sp [.ref B.b,.str t,.ref a] H1 (fun _ H'=>Q .non H') E0)->qO C CB CT sp vs H Q E
theorem a1w(T:aW K mg)(Y:jH K mg C)(W:cF K mg CB)(Z:bX K mg CT)(G:aL P w K mg ae aD 6 CB "set_column" ["self","column","content"] sp):aL P w K mg ae aD 7 C "take" ["self"] (qO C CB CT sp):=by
 have G_content:aL P w K mg ae aD 4 CB "content" ["self","column"] (uI CB CT):=a1l T W Z;refine Y.m_take.known a0g (fun _ _ _ _ _ _ us hl=>eJ (fun _=>rfl) us hl) (fun vs H Q E h=> ?_) (fun f ag A af s H vs Q E hr h=> ?_)
 ·obtain⟨p,dx,a,l,B,t,ys,rfl,_⟩:=h
  rfl
 ·obtain⟨p,dx,a,l,B,t,ys,rfl,hp,hB,g,q⟩:=h
  refine⟨_,(aG (bY (pv 0) (bG (aQ (pv 0) rfl) W.cl G_content hr.mn aI (aA (aQ (pv 0) rfl) aE)) rfl)
   (aH (bL (bG (aQ (pv 0) rfl) W.cl G hr aI (aA (aQ (pv 0) rfl) (aA (aQ (pv 0) rfl) aE)))))),?_⟩
  obtain⟨c1,c2,c3,c4,c5⟩:=oP B.b t a;obtain⟨dB,h1⟩:=hB.at_;refine⟨_,rfl,p,C,dx,_,_,rfl,hp,Y.cl,Y.n_board,c1,B.b,dB,_,rfl,h1,kG,_,rfl,p,C,dx,_,_,rfl,hp,Y.cl,Y.n_column,c2,B,t,l,ys,rfl,hB,g,fun H1 D hD s1=> ?_⟩;refine⟨_,rfl,p,C,dx,_,rfl,s1 _ _ hp,Y.cl,Y.n_before,(by show 4<1000;decide),?_⟩;obtain⟨e1,e2,e3,e4⟩:=a5i B.b t a D;rw[e4];have u2:bI p H1 (upd H1 p (.ins C dx (iU B.b t a D))):=bI.upd;have p2:upd H1 p (.ins C dx (iU B.b t a D)) p=some (.ins C dx (iU B.b t a D)):=aK
  generalize upd H1 p (.ins C dx (iU B.b t a D))=H2 at u2 p2|-
  have nb:B.b≠p:=a3f h1 hp (by show("given":Str)≠ "board";decide+kernel);have b2:=u2 _ _ nb (s1 _ _ h1);exact⟨_,rfl,p,C,dx,_,_,rfl,p2,Y.cl,Y.n_board,e1,B.b,dB,_,rfl,b2,kG,_,rfl,p,C,dx,_,_,rfl,p2,Y.cl,Y.n_column,e2,_,rfl,p,C,dx,_,_,rfl,p2,Y.cl,Y.n_after,e3,q H2 D (fun x o n e=>u2 _ _ n (s1 _ _ e)) hD p2⟩
theorem a3j(h:fW sp):fW (qO C CB CT sp):=fun vs H Q Q' hQ g=>by
 obtain⟨p,dx,a,l,B,t,ys,e1,e2,e3,e4,q⟩:=g;exact⟨p,dx,a,l,B,t,ys,e1,e2,e3,e4,fun H1 D b1 b2 b3=>h _ _ _ _ (fun v H' z=>hQ _ _ z) (q H1 D b1 b2 b3)⟩
theorem a1U:fW (pQ K CB CT):=fun vs H Q Q' hQ h=>by
 obtain⟨B,t,a,l0,ys,ys0,ds,e1,e2,e3,e4,e5,e6,e7,e8,e9,q⟩:=h;exact⟨B,t,a,l0,ys,ys0,ds,e1,e2,e3,e4,e5,e6,e7,e8,e9,fun H' l a1 a2 a3 a4=>hQ _ _ (q H' l a1 a2 a3 a4)⟩
inductive oQ(K:Fg)(CS CF CB CT:Addr)(vs:List V)(H:Hp)(Q:VK)(E:XK):Prop
 |mk (s bd ch a l0:Addr) (ys0:List V) (cs:List V) (kb:List (aB×V)) (nm t:Str) (ys:List V) (ds:List PyData) (B:BM):vs= [.ref s,.str nm,.str t,.ref a] ->jM CS s bd ch cs kb H->cs.length<900->Nl nm->aO kb (.inr nm:aB)=some (.ref B.b)->bP CB CT H B->B.sep->jW bd ch B->gO H B t l0 ys0->H a=some (.lst ys)->dC K H ys ds->ys.length=B.xs.length->ys.length<=30->B.kvs.length<=8->(∀H' fi fd lk c l,jC CS CF s bd ch fi fd lk (cs++ [.ref c]) kb H H'->H l=none->bP CB CT H' {B with kvs:=bH (cH B.kvs (.inr t:aB)) (.inr t:aB) (.ref l)} ->H' l=some (.lst ys)->(∀x o,x≠s->x≠ch->x≠B.e->H x=some o->H' x=some o)->Q .non H')->oQ K CS CF CB CT vs H Q E
theorem a0Y(T:aW K mg)(Y:dE K mg CS)(Z:dZ K mg CF)(W:cF K mg CB)(U:bX K mg CT)(C:jH K mg CC):aL P w K mg ae aD 9 CS "give" ["self","table","column","values"] (oQ K CS CF CB CT):=by
 have G_for:aL P w K mg ae aD 3 CS "board_for" ["self","table","column"] (sV CS CB CT):=a2v T Y W;have G_many:aL P w K mg ae aD 1 CT "many" ["self"] (fB CT):=fV T U;have G_cv:bA P w K mg ae aD 4 "check_values" ["values","many"] (mM K):=tH T;have GI:dM P w K mg ae aD 1 CC ["self","board","column","content"] (oI CC):=xR T C;have G_make:aL P w K mg ae aD 8 CS "make" ["self","change"] (jD CS CF CC (qO CC CB CT (pQ K CB CT))):=lJ T Y Z C.cl (a3j a1U) (a1w T C W U (a5z T W U));refine Y.m_give.known oJ (fun _ _ _ _ _ _ us hl=>iD (fun _ _ _ _=>rfl) us hl) (fun vs H Q E h=> ?_) (fun f ag A af s H vs Q E hr h=> ?_)
 ·obtain⟨s',bd,ch,a,l0,ys0,cs,kb,nm,t,ys,ds,B,rfl,_⟩:=h
  rfl
 ·obtain⟨s',bd,ch,a,l0,ys0,cs,kb,nm,t,ys,ds,B,rfl,hS,cl,hn,hv,hB,sep,ss,gv,ha,hp,ly,l30,k8,q⟩:=h
  refine⟨_,(aG (cN (i:=4) oJ.nd rfl (Or.inl rfl) (bG (pv 0) Y.cl G_for hr.mn aI (aA (pv 1) (aA (pv 2) aE))))
   (aG (bL (bJ G_cv hr.mn aI (aA (pv 3) (aA (dR (aQ (pv 4) rfl) U.cl G_many hr.mn aI) aE))))
   (aH (bL (bG (pv 0) Y.cl G_make hr aI (aA (gX GI hr.mn C.c aI (aA (pv 4) (aA (pv 2) (aA (pv 3) aE)))) aE)))))),?_⟩
  obtain⟨⟨dx,fi0,h1⟩,h2,h3⟩:=hS;refine⟨_,rfl,s',dx,_,rfl,h1,cK,_,rfl,_,rfl,s',bd,ch,fi0,dx,kb,nm,t,B,rfl,h1,h3,hn,hv,hB,gv.nl,gv.od,fun H1 s1=> ?_⟩;obtain⟨dB,b1⟩:=(hB.same s1).at_;obtain⟨dT,t1⟩:=(hB.same s1).tab.at_;refine⟨_,rfl,_,rfl,B.b,CB,dB,_,_,rfl,b1,W.cl,W.n_given,(cE _ _ _ _).1,B.g,dT,_,rfl,t1,cL,B.g,B.r,B.e,B.xs,B.n,B.kvs,rfl,(hB.same s1).tab,?_⟩;refine⟨a,ys,ds,by rw[ly];rfl,aN.of (s1 _ _ ha),hp.keep (bS.of s1),by omega,fun H2 s2=> ?_⟩;have s12:=s1.trans s2;refine⟨_,rfl,s',dx,_,rfl,s12 _ _ h1,cK,_,rfl,_,rfl,_,rfl,?_⟩;intro c dc hc hdc ne;refine⟨c,dc,B.b,a,t,rfl,aK,fun H3 b3 c3=>⟨rfl,?_⟩⟩;have s3:aJ H H3:=fun b o z=>b3 b o (bK (s12 _ _ z) hc) (by rw[aF (bK (s12 _ _ z) hc),aF (bK (s12 _ _ z) hdc)];exact s12 _ _ z)
  have hB3:=hB.same s3;refine⟨s',c,bd,ch,fi0,dx,dc,cs,_,rfl,c3,(oP _ _ _).2.2.2.1,c,dc,a,l0,B,t,ys0,rfl,c3,hB3,gv.same s3,fun Hc D bc hD pc=> ?_⟩;have sc:aJ H Hc:=fun x o e=>bc _ _ (fun y=>by rw[y]at e;rw[s12 _ _ e]at hc;cases hc) (s3 _ _ e)
  refine⟨B,t,a,l0,ys,ys0,ds,rfl,hB.same sc,sep,gv.same sc,sc _ _ ha,hp.keep (bS.of sc),ly,l30,k8,fun H4 l hl B4 l4 u4=> ?_⟩;have hB0:=hB.ord;have he0:=hB.tab.kept;have k4:∀{x:Addr} {o:HO},H x=some o->x≠B.e->H4 x=some o:=fun e m=>u4 _ _ m (sc _ _ e)
  have ns:s'≠B.e:=fun y=>by rw[y,he0]at h1;cases h1
  have nce:ch≠B.e:=fun y=>by rw[y,he0]at h2;cases h2
  have ns4:=k4 h1 ns;have ch4:=k4 h2 nce;refine⟨ns4,ch4,cl,fun H5 fi fd lk df f1 f2 f3 nfl g1 g2 g3 g4 g5 u5=> ?_⟩;have nn:∀{x:Addr},H4 x=none->H x=none:=fun{x} e=>by
   cases e2:H x with
   |none=>rfl
   |some o=>
    by_cases y2:x=B.e
    ·rw[y2,B4.tab.kept]at e;cases e
    ·rw[k4 e2 y2]at e;cases e
  have hl0:H l=none:=dA sc hl;have nl:l≠s'/\l≠ch:=⟨fun y=>by{rw[y,h1]at hl0;cases hl0},fun y=>by{rw[y,h2]at hl0;cases hl0}⟩;have nb:bd≠s'/\bd≠ch:=⟨fun y=>by{rw[y,h1]at h3;cases h3},fun y=>by{rw[y,h2]at h3;cases h3}⟩;exact q H5 fi fd lk c l ⟨⟨dx,g1⟩,g2,u5 _ _ nb.1 nb.2 (k4 h3 ss.e),⟨df,g3⟩,g4,g5,nfl,nn f1,nn f2,nn f3⟩ hl0 (B4.off ⟨dx,bd,ch,fi0,ns4⟩ ch4 ss.r ss.o u5) (u5 _ _ nl.1 nl.2 l4) (fun x o n1 n2 n4 e=>u5 _ _ n1 n2 (k4 e n4))
inductive lG(K:Fg)(vs:List V)(H:Hp)(Q:VK)(E:XK):Prop
 |mk (a:Addr) (ns:List Int) (k:Int):vs= [.ref a,.int k] ->aN K H a (ns.map V.int)->ns.length<=63->0<=k->k<=1000000->(∀m:Int,0<=m->m<2147483629->Q (.int m) H)->lG K vs H Q E
theorem iY:aX ["_law_script","_law_k","_law_cell"] ["_law_script","_law_k"] (aR lI):={}
theorem rR(T:aW K mg):bA P w K mg ae aD 1 "_law_mixed" ["_law_script","_law_k"] (lG K):=by
 refine T.d_law_mixed.known iY (fun _ _ _ _ _ _ us hl=>cT (fun _ _=>rfl) us hl) (fun vs H Q E h=> ?_) (fun f ag A af s H vs Q E hr h=> ?_)
 ·obtain⟨a,ns,k,rfl,_⟩:=h
  rfl
 ·obtain⟨a,ns,k,rfl,hS,hl,h0,h6,q⟩:=h
  have dU:∃t,dP (eG aD P w K mg ae ["_law_script","_law_k","_law_cell"] "_law_mixed" (aR lI) f ag A af s H E).nox ((fK lI).drop 2) t/\∀c:Int,t {nx:=fun _ H'=>Q .non H',rt:=Q} [some (.ref a),some (.int k),some (.int c)] H:=by
   refine⟨_,(aG (cN (i:=2) iY.nd rfl (Or.inl rfl) (aY dD (aY jR (aY cW (aY cW (aY dD (pv 2) aT) (aY jR aT (pv 1))) aT) aT) aT))
    (aH (bM (aY dD (aY jR (pv 2) (aY cW (aY cW (aY dD (pv 2) aT) (pv 1)) aT)) aT)))),fun c=> ?_⟩
   refine⟨_,rfl,_,_,rfl,rfl,(show(0:Int)<2147483629 by decide),_,rfl,_,_,rfl,rfl,.inl ⟨by decide,by decide⟩,_,_,rfl,rfl,_,_,rfl,rfl,_,_,rfl,rfl,.inr ⟨by decide,by decide⟩,_,_,rfl,rfl,(show(0:Int)<2147483647 by decide),?_⟩;have e1:=Int.emod_nonneg ((c% 2147483629+ 6151* k+ 1)* 48271) (show(2147483647:Int)≠0 by decide);have e2:=Int.emod_lt_of_pos ((c% 2147483629+ 6151* k+ 1)* 48271) (show(0:Int)<2147483647 by decide);refine⟨_,rfl,_,rfl,_,_,rfl,rfl,(show(0:Int)<65519 by decide),_,rfl,_,_,rfl,rfl,_,_,rfl,rfl,_,_,rfl,rfl,.inl ⟨by omega,by omega⟩,_,_,rfl,rfl,(show(0:Int)<2147483629 by decide),?_⟩;exact q _ (Int.emod_nonneg _ (by decide)) (Int.emod_lt_of_pos _ (by decide))
  obtain⟨t,ht,hq⟩:=dU
  refine⟨_,(aG (cN (i:=2) iY.nd rfl (Or.inl rfl) aT)
   (aG (bF (bW zV (cA eW rfl T.len dY (aA (pv 0) aE)) aT (cC _)) (aH (cN (i:=2) iY.nd rfl (Or.inl rfl) (dH eQ (pv 0) (aY dD (pv 1) (cA eW rfl T.len dY (aA (pv 0) aE))) (fun _ _=>rfl)))) bN) ht)),?_⟩
  have el:((ns.map V.int).length:Int)=(ns.length:Int):=by rw[List.length_map]
  refine⟨_,rfl,_,_,rfl,.inl ⟨_,hS,rfl⟩,_,_,rfl,rfl,_,rfl,?_⟩;rw[el];refine dX (fun h2=> ?_) (fun h2=> ?_)
  ·have h2':0<(ns.length:Int):=by simpa using h2
   have hm:=Int.emod_nonneg k (Int.ne_of_gt h2');have hm':=Int.emod_lt_of_pos k h2';exact⟨_,rfl,_,rfl,_,rfl,_,_,rfl,.inl ⟨_,hS,rfl⟩,_,_,rfl,rfl,by rw[el];exact h2',a,_,_,_,rfl,rfl,hS,by rw[el];exact xW ns _ hm hm',hq _⟩
  ·exact hq _
theorem iQ:Nl ("a":Str)/\Nl ("odd":Str)/\Nl ("abcdefgh":Str)/\Nl ("b":Str)/\Nl ("ab":Str)/\Nl ("abc":Str):=by unfold Nl;decide+kernel
theorem kK:Nl ("z":Str)/\Nl ("zz":Str)/\Nl ("y":Str)/\Nl ("t":Str)/\Nl ("u":Str)/\Nl ("table":Str):=by unfold Nl;decide+kernel
theorem a1s(m:Int):∃w:Str,bV [V.str "a",V.str "odd",V.str "abcdefgh"] (m% 3)=some (.str w)/\Nl w:=by
 rcases(show m% 3=0\/ m% 3=1\/ m% 3=2 by omega)with h|h|h<;>rw[h]
 ·exact⟨_,rfl,iQ.1⟩
 ·exact⟨_,rfl,iQ.2.1⟩
 ·exact⟨_,rfl,iQ.2.2.1⟩
theorem a21(m:Int):∃n:Int,bV [V.int (10^ (60:Int).toNat- 1),V.int (1- 10^ (60:Int).toNat),V.int 0] (m% 3)=some (.int n)/\iN (.int n)=true:=by
 rcases(show m% 3=0\/ m% 3=1\/ m% 3=2 by omega)with h|h|h<;>rw[h]
 ·exact⟨_,rfl,by decide+kernel⟩
 ·exact⟨_,rfl,by decide+kernel⟩
 ·exact⟨_,rfl,by decide+kernel⟩
inductive kT(K:Fg)(vs:List V)(H:Hp)(Q:VK)(E:XK):Prop
 |mk (i:Int):vs= [.int i] ->(∀H' v d,aJ H H'->Pv K H' v d->Q v H')->kT K vs H Q E
theorem a25:aX ["_law_cell"] ["_law_cell"] (aR wI):={}
theorem sK(T:aW K mg):bA P w K mg ae aD 1 "_law_value" ["_law_cell"] (kT K):=by
 refine T.d_law_value.known a25 (fun _ _ _ _ _ _ us hl=>eJ (fun _=>rfl) us hl) (fun vs H Q E h=> ?_) (fun f ag A af s H vs Q E hr h=> ?_)
 ·obtain⟨i,rfl,_⟩:=h
  rfl
 ·obtain⟨i,rfl,q⟩:=h
  refine⟨_,(aG (bF (bW mY (aY dD (pv 0) aT) aT (cC _)) (aH (bM (nX (aA eL (aA (dH eQ (hG (aA eL (aA eL (aA eL aE)))) (aY dD (aY tL (pv 0) aT) aT) (fun _ _=>rfl)) aE))))) bN)
   (aG (bF (bW mY (aY dD (pv 0) aT) aT (cC _)) (aH (bM (dH eQ (hG (aA (aY pZ (aY tV aT aT) aT) (aA (aY pZ aT (aY tV aT aT)) (aA aT aE)))) (aY dD (aY tL (pv 0) aT) aT) (fun _ _=>rfl)))) bN)
   (aH (bM (aY pZ (aY dD (aY tL (pv 0) aT) aT) aT))))),?_⟩
  refine⟨_,rfl,_,_,rfl,rfl,(show(0:Int)<6 by decide),rfl,_,rfl,?_⟩;refine dX (fun _=> ?_) (fun _=> ?_)
  ·refine⟨sl,fun l hl=>⟨_,rfl,_,_,rfl,rfl,⟨by decide,by decide⟩,_,_,rfl,rfl,(show(0:Int)<3 by decide),?_⟩⟩
   obtain⟨wd,aw,nw⟩:=a1s (i/ 6);refine⟨l,_,_,_,rfl,rfl,aN.of aK,aw,sl,fun p hp=> ?_⟩;exact q _ _ (.tuple [.str "fault",.str wd]) ((aJ.new hl).trans (aJ.new hp)) (.inr ⟨p,wd,rfl,aK,rfl,nw⟩)
  ·refine⟨_,rfl,_,_,rfl,rfl,(show(0:Int)<6 by decide),rfl,_,rfl,?_⟩
   refine dX (fun _=> ?_) (fun _=> ?_)
   ·refine⟨_,_,rfl,rfl,⟨by decide,by decide,by decide⟩,_,_,rfl,rfl,_,_,rfl,rfl,⟨by decide,by decide,by decide⟩,_,_,rfl,rfl,sl,fun l hl=>⟨_,rfl,_,_,rfl,rfl,⟨by decide,by decide⟩,_,_,rfl,rfl,(show(0:Int)<3 by decide),?_⟩⟩
    obtain⟨n,an,nn⟩:=a21 (i/ 6);refine⟨l,_,_,_,rfl,rfl,aN.of aK,an,?_⟩;exact q _ _ (.int n) (aJ.new hl) (.inl ⟨_,rfl,rfl,nn⟩)
   ·refine⟨_,rfl,_,_,rfl,rfl,⟨by decide,by decide⟩,_,_,rfl,rfl,(show(0:Int)<9 by decide),_,_,rfl,rfl,?_⟩
    refine q _ _ (.int (i/ 6% 9- 4)) (aJ.refl _) (.inl ⟨_,rfl,rfl,?_⟩);have e1:=Int.emod_nonneg (i/ 6) (show(9:Int)≠0 by decide);have e2:=Int.emod_lt_of_pos (i/ 6) (show(0:Int)<9 by decide)
    have e3:(10:Int)<10^ (60:Int).toNat:=by decide+kernel
    show decide ((if i/ 6% 9- 4<0 then-(i/ 6% 9- 4) else i/ 6% 9- 4)<10^ (60:Int).toNat)=true;rw[decide_eq_true_eq];split<;>omega
theorem pJ{y:Str}(h:Nl y):PyData.canLay0 (.tuple [.str "fault",.str y])=true:=by
 show(PyData.canLay0 (.str "fault")&&(PyData.canLay0 (.str y)&&true))=true;rw[h.lay];decide+kernel
theorem a4S(y:Str):(PyData.tuple [.str "fault",.str y]).depth<=64:=by
 simp[PyData.depth,PyData.depthAll]
inductive rD(K:Fg)(vs:List V)(H:Hp)(Q:VK)(E:XK):Prop
 |mk (x:_) (d:_):vs= [x,x] ->Pv K H x d->Q (.bl true) H->rD K vs H Q E
theorem a4R:aX ["_law_found","_law_due"] ["_law_found","_law_due"] (aR xA):={}
theorem a4H(T:aW K mg):bA P w K mg ae aD 1 "_law_same" ["_law_found","_law_due"] (rD K):=by
 refine T.d_law_same.known a4R (fun _ _ _ _ _ _ us hl=>cT (fun _ _=>rfl) us hl) (fun vs H Q E h=> ?_) (fun f ag A af s H vs Q E hr h=> ?_)
 ·obtain⟨x,d,rfl,_⟩:=h
  rfl
 ·obtain⟨x,d,rfl,hx,q⟩:=h
  refine⟨_,(aG (bF (cU (cA gL rfl T.isinstance fL (aA (pv 1) (aA (fT T.tuple uG) aE))) (fun _=>rfl)) (aH (bM (iX (cA gL rfl T.isinstance fL (aA (pv 0) (aA (fT T.tuple uG) aE))) (kB (iV (tT hr.units) (pv 0) (pv 1) (cC _)))))) bN)
   (aH (bM (iX (cA gL rfl T.isinstance fL (aA (pv 0) (aA (fT T.int yE) aE))) (iX (wL (cA gL rfl T.isinstance fL (aA (pv 0) (aA (fT T.bool zA) aE)))) (kB (iV (tT hr.units) (pv 0) (pv 1) (cC _)))))))),?_⟩
  have hd:=hx.dt
  rcases hx with⟨i,rfl,rfl,hn⟩|⟨p,y,rfl,hp,rfl,ht⟩
  ·refine⟨_,rfl,_,"tuple",.int i,_,rfl,hd,pC K _,_,rfl,bB ?_⟩
   refine⟨_,rfl,_,"int",.int i,_,rfl,hd,zW K _,_,rfl,cZ ⟨_,rfl,_,"bool",.int i,_,rfl,hd,xN K _,_,rfl,_,rfl,cZ ⟨_,rfl,_,rfl,.int i,.int i,hd,hd,rfl,rfl,by simp[PyData.depth],?_⟩⟩⟩;rw[SeqAt.eqv_refl (.int i) rfl];exact q
  ·refine⟨_,rfl,_,"tuple",_,_,rfl,hd,pC K _,_,rfl,cZ ?_⟩
   refine⟨_,rfl,_,"tuple",_,_,rfl,hd,pC K _,_,rfl,cZ ⟨_,rfl,_,rfl,_,_,hd,hd,?_,?_,?_,?_⟩⟩
   ·exact pJ ht
   ·exact pJ ht
   ·exact a4S y
   ·rw[SeqAt.eqv_refl _ (pJ ht)]
    exact q
end
def fH:List Str:=["a","b","ab","abc","z","zz","y","abcdefgh"]
structure TB where
 nm:Str
 B:BM
 ts:List aZ
 tl:Addr
 ol:Addr
 hd:Addr
 hs:List aZ
variable{t:My.TB}
def TB.foot(t:TB):List Addr:=t.B.b::t.B.g::t.B.r::t.B.e::t.B.ru::t.B.me::t.B.od::t.tl::t.ol::t.hd::(t.ts.map (·.l)++ t.hs.map (·.l))
structure bZ(K:Fg)(CB CT:Addr)(H:Hp)(t:TB):Prop where
 nl:Nl t.nm
 bat:bP CB CT H t.B
 tbl:eS CT H t.B.g t.B.r t.B.e t.B.xs t.B.n t.ts
 kv:t.B.kvs=tk t.ts
 ru:t.B.rus= []
 atl:H t.tl=some (.lst [.ref t.ol,.ref t.hd,.int (t.B.xs.length:Int)])
 aol:H t.ol=some (.lst (t.B.ord.map V.str))
 ahd:H t.hd=some (.dK (tk t.hs))
 hn:t.hs.map (·.nm)=t.B.ord
 ond:t.B.ord.Nodup
 hl:∀c∈t.hs,H c.l=some (.lst c.ys)
 pv:∀c∈t.hs,∃ds,dC K H c.ys ds
 mt:∀c∈t.hs,∃l,(⟨c.nm,l,c.ys⟩:aZ)∈t.ts
 tm:∀c∈t.ts,c.nm∈t.B.ord
 lts:t.ts.length=t.hs.length
 n8:∀z∈t.B.ord,z∈fH
 six:t.B.xs.length<=6
 nd:t.foot.Nodup
section
variable{t':TB}
theorem bZ.kind(h:bZ K CB CT H t){x:Addr}(hx:x∈t.foot):∃o,H x=some o/\(∀xs,o≠ .tup xs)/\∀ks,o≠ .dT ks:=by
 obtain⟨⟨d1,b1⟩,⟨⟨d2,b2⟩,b3,b4⟩,b5,b6,b7⟩:=h.bat;simp only[TB.foot,List.mem_cons,List.mem_append,List.mem_map]at hx
 rcases hx with rfl|rfl|rfl|rfl|rfl|rfl|rfl|rfl|rfl|rfl|⟨c,hc,rfl⟩|⟨c,hc,rfl⟩
 ·exact⟨_,b1,fun _ y=>(by cases y),fun _ y=>(by cases y)⟩
 ·exact⟨_,b2,fun _ y=>(by cases y),fun _ y=>(by cases y)⟩
 ·exact⟨_,b3,fun _ y=>(by cases y),fun _ y=>(by cases y)⟩
 ·exact⟨_,b4,fun _ y=>(by cases y),fun _ y=>(by cases y)⟩
 ·exact⟨_,b5,fun _ y=>(by cases y),fun _ y=>(by cases y)⟩
 ·exact⟨_,b6,fun _ y=>(by cases y),fun _ y=>(by cases y)⟩
 ·exact⟨_,b7,fun _ y=>(by cases y),fun _ y=>(by cases y)⟩
 ·exact⟨_,h.atl,fun _ y=>(by cases y),fun _ y=>(by cases y)⟩
 ·exact⟨_,h.aol,fun _ y=>(by cases y),fun _ y=>(by cases y)⟩
 ·exact⟨_,h.ahd,fun _ y=>(by cases y),fun _ y=>(by cases y)⟩
 ·exact⟨_,h.tbl.lst c hc,fun _ y=>(by cases y),fun _ y=>(by cases y)⟩
 ·exact⟨_,h.hl c hc,fun _ y=>(by cases y),fun _ y=>(by cases y)⟩
theorem bZ.mv(h:bZ K CB CT H t)(u:∀x o,x∈t.foot->H x=some o->H' x=some o)(kt:bS H H'):bZ K CB CT H' t:=by
 have m:∀{x:Addr},x∈ [t.B.b,t.B.g,t.B.r,t.B.e,t.B.ru,t.B.me,t.B.od,t.tl,t.ol,t.hd] ->x∈t.foot:=fun{x} hx=>by
  simp only[List.mem_cons,List.not_mem_nil,or_false]at hx;simp only[TB.foot,List.mem_cons]
  rcases hx with y|y|y|y|y|y|y|y|y|y<;>simp[y]
 have mts:∀{c:aZ},c∈t.ts->c.l∈t.foot:=fun hc=>by
  simp only[TB.foot,List.mem_cons,List.mem_append,List.mem_map];exact .inr (.inr (.inr (.inr (.inr (.inr (.inr (.inr (.inr (.inr (.inl ⟨_,hc,rfl⟩))))))))))
 have mhs:∀{c:aZ},c∈t.hs->c.l∈t.foot:=fun hc=>by
  simp only[TB.foot,List.mem_cons,List.mem_append,List.mem_map];exact .inr (.inr (.inr (.inr (.inr (.inr (.inr (.inr (.inr (.inr (.inr ⟨_,hc,rfl⟩))))))))))
 obtain⟨⟨d1,b1⟩,⟨⟨d2,b2⟩,b3,b4⟩,b5,b6,b7⟩:=h.bat;obtain⟨⟨⟨d3,c1⟩,c2,c3⟩,e2,e3,e4,e5,e6,e7,e8⟩:=h.tbl
 exact⟨h.nl,⟨⟨d1,u _ _ (m (by simp)) b1⟩,⟨⟨d2,u _ _ (m (by simp)) b2⟩,u _ _ (m (by simp)) b3,u _ _ (m (by simp)) b4⟩,u _ _ (m (by simp)) b5,u _ _ (m (by simp)) b6,u _ _ (m (by simp)) b7⟩,
  ⟨⟨⟨d3,u _ _ (m (by simp)) c1⟩,u _ _ (m (by simp)) c2,u _ _ (m (by simp)) c3⟩,fun c hc=>u _ _ (mts hc) (e2 c hc),e3,e4,e5,e6,e7,e8⟩,h.kv,h.ru,u _ _ (m (by simp)) h.atl,u _ _ (m (by simp)) h.aol,u _ _ (m (by simp)) h.ahd,h.hn,h.ond,fun c hc=>u _ _ (mhs hc) (h.hl c hc),fun c hc=>let ⟨ds,p⟩:=h.pv c hc;⟨ds,p.keep kt⟩,h.mt,h.tm,h.lts,h.n8,h.six,h.nd⟩
theorem bZ.same(h:bZ K CB CT H t)(s:aJ H H'):bZ K CB CT H' t:=h.mv (fun x o _ e=>s _ _ e) (bS.of s)
end
structure eO(Ks:List Ky)(kf:List (Ky×V)):Prop where
 nd:(kf.map (·.1)).Nodup
 sub:∀k∈kf.map (·.1),k∈Ks
theorem eO.nil{Ks:List Ky}:eO Ks []:=⟨List.nodup_nil,fun _ h=>by cases h⟩
theorem eO.put{Ks:List Ky}(h:eO Ks kf){k:Ky}(hk:k∈Ks):eO Ks (bH kf k v):=by
 cases e:aO kf k with
 |none=>
  refine⟨a1q v h.nd e,fun x hx=> ?_⟩;rw[jA v e,List.map_append]at hx
  rcases List.mem_append.mp hx with hx|hx
  ·exact h.sub x hx
  ·rw[List.mem_singleton.mp hx];exact hk
 |some u=>
  have ek:(bH kf k v).map (·.1)=kf.map (·.1):=by
   unfold bH;rw[if_pos (by rw[kI,e];rfl),List.map_map];refine List.map_congr_left fun q _=> ?_
   show(if q.1=k then(q.1,v) else q).1=q.1;by_cases y:q.1=k
   ·rw[if_pos y]
   ·rw[if_neg y]
  exact⟨by rw[ek];exact h.nd,fun x hx=>h.sub x (by rw[<- ek];exact hx)⟩
theorem eO.len{Ks:List Ky}(h:eO Ks kf):kf.length<=Ks.length:=by
 have:=List.Nodup.length_le_of_subset h.nd h.sub;rw[List.length_map]at this;exact this
def cells(tb:List TB):List Ky:=tb.flatMap fun t=>t.hs.flatMap fun c=>(List.range t.B.xs.length).map fun p=>bQ t.nm c.nm p
theorem tG{α β:Type}{f:α->List β}{n:Nat}:∀{xs:List α},(∀x∈xs,(f x).length<=n)->(xs.flatMap f).length<=xs.length* n
 | [],_=>by simp
 |x::xs,h=>by
  have:=tG (xs:=xs) fun y hy=>h y (List.mem_cons_of_mem _ hy)
  have h1:=h x aa;rw[List.flatMap_cons,List.length_append,List.length_cons,Nat.add_mul,Nat.one_mul];omega
structure eI where
 s:Addr
 bd:Addr
 ch:Addr
 td:Addr
structure bR(K:Fg)(CS CF CB CT:Addr)(Hz:Hp)(W:eI)(tb:List TB)(fi fd lk:Addr)(kf:List (Ky×V))(cs:List V)(H:Hp):Prop where
 sh:∃dx,H W.s=some (.ins CS dx (cQ W.bd W.ch fi))
 ach:H W.ch=some (.lst cs)
 abd:H W.bd=some (.dK (tb.map fun t=>((.inr t.nm:aB),V.ref t.B.b)))
 atd:∃o,H W.td=some o/\(∀y,o≠ .dT y)/\(∀y,o≠ .lst y)/\(∀a b c,o≠ .ins a b c)/\∀y,o≠ .tup y
 afi:∃df,H fi=some (.ins CF df (eT W.bd fd lk))
 afd:H fd=some (.dT kf)
 ok:∀(i:Nat) t,tb[i]?=some t->bZ K CB CT H t
 nms:(tb.map (·.nm)).Nodup
 out:∀(i:Nat) t,tb[i]?=some t->W.s∉t.foot/\W.ch∉t.foot/\W.bd∉t.foot/\W.td∉t.foot
 apt:∀(i j:Nat) t u,tb[i]?=some t->tb[j]?=some u->i≠j->∀x∈t.foot,x∉u.foot
 con:∀t∈tb,∀c∈t.hs,∀(p:Nat) v,aO kf (bQ t.nm c.nm p)=some v->bV c.ys (p:Int)=some v
 ntb:W.bd≠W.td
 four:tb.length<=4
 ki:eO (cells tb) kf
 old:aJ Hz H
 zs:Hz W.s=none/\Hz W.ch=none/\Hz W.td=none/\Hz fd=none
 zf:∀(i:Nat) t,tb[i]?=some t->∀x∈t.foot,Hz x=none
theorem oB{α β:Type}{f:α->β}{xs:List α}{x y:α}(h:xs[i]?=some x)(e:f y=f x):(xs.set i y).map f=xs.map f:=by
 refine List.ext_getElem? fun j=> ?_
 rw[List.getElem?_map,List.getElem?_map,List.getElem?_set];by_cases hj:i=j
 ·subst hj
  rw[if_pos rfl,h];by_cases hl:i<xs.length
  ·rw[if_pos hl]
   exact congrArg some e
  ·rw[List.getElem?_eq_none (by omega)]at h
   cases h
 ·rw[if_neg hj]
section
variable{W:eI}{tb:List TB}
theorem bR.same(N:bR K CS CF CB CT Hz W tb fi fd lk kf cs H)(s:aJ H H'):bR K CS CF CB CT Hz W tb fi fd lk kf cs H':=
 ⟨let ⟨d,e⟩:=N.sh;⟨d,s _ _ e⟩,s _ _ N.ach,s _ _ N.abd,let ⟨o,e,n⟩:=N.atd;⟨o,s _ _ e,n⟩,let ⟨d,e⟩:=N.afi;⟨d,s _ _ e⟩,s _ _ N.afd,fun i t h=>(N.ok i t h).same s,N.nms,N.out,N.apt,N.con,N.ntb,N.four,N.ki,N.old.trans s,N.zs,N.zf⟩
theorem kS{α:Type}{xs:List α}{x y:α}(h:(xs.set i y)[j]?=some x):(i=j/\x=y)\/ (i≠j/\xs[j]?=some x):=by
 rw[List.getElem?_set]at h;by_cases hj:i=j
 ·rw[if_pos hj]at h
  by_cases hl:i<xs.length
  ·rw[if_pos hl]at h
   exact .inl ⟨hj,(Option.some.inj h).symm⟩
  ·rw[if_neg hl]at h
   cases h
 ·rw[if_neg hj]at h
  exact .inr ⟨hj,h⟩
theorem bR.chg(N:bR K CS CF CB CT Hz W tb fi fd lk kf cs H){t':TB}(hi:tb[i]?=some t){fi' fd' lk':Addr}{cs':List V}(hs:∃dx,H' W.s=some (.ins CS dx (cQ W.bd W.ch fi')))(hc:H' W.ch=some (.lst cs'))(hf:∃df,H' fi'=some (.ins CF df (eT W.bd fd' lk')))(hd:H' fd'=some (.dT []))(hd0:H fd'=none)(ok':bZ K CB CT H' t')(en:t'.nm=t.nm)(eb:t'.B.b=t.B.b)(el:t'.tl=t.tl)
 (ft:∀x∈t'.foot,x∈t.foot\/ H x=none)(u:∀x o,x≠W.s->x≠W.ch->x∉t.foot->H x=some o->H' x=some o):bR K CS CF CB CT Hz W (tb.set i t') fi' fd' lk' [] cs' H':=by
 obtain⟨o1,o2,o3,o4⟩:=N.out i t hi;obtain⟨dx,sh⟩:=N.sh;have ns:∀{x:Addr} {o:HO},H x=some o->(∀a b c,o≠ .ins a b c)->x≠W.s:=fun e n y=>by rw[y,sh]at e;exact n _ _ _ (Option.some.inj e).symm
 have nc:∀{x:Addr} {o:HO},H x=some o->(∀y,o≠ .lst y)->x≠W.ch:=fun e n y=>by rw[y,N.ach]at e;exact n _ (Option.some.inj e).symm
 have bd':=u _ _ (ns N.abd (fun _ _ _ y=>by cases y)) (nc N.abd nk) o3 N.abd;obtain⟨otd,etd,t1,t2,t3,t4⟩:=N.atd;have td':=u _ _ (ns etd t3) (nc etd t2) o4 etd;have kt:bS H H':=fun x xs e=>u _ _ (ns e (fun _ _ _ y=>by cases y)) (nc e nk) (fun hx=>by
  obtain⟨o,e2,n,_⟩:=(N.ok i t hi).kind hx;rw[e]at e2
  exact n _ (Option.some.inj e2).symm) e
 refine⟨hs,hc,?_,⟨otd,td',t1,t2,t3,t4⟩,hf,hd,fun j t2 hj=> ?_,?_,fun j t2 hj=> ?_,fun j k t2 t3 hj hk ne=> ?_,fun t2 ht2 c hc' p v e=>(by cases e),N.ntb,by rw[List.length_set];exact N.four,eO.nil,fun x o e=> ?_,⟨N.zs.1,N.zs.2.1,N.zs.2.2.1,dA N.old hd0⟩,fun j t2 hj=> ?_⟩
 ·rw[bd',oB hi (by rw[en,eb])]
 ·rcases kS hj with⟨_,rfl⟩|⟨nj,hj⟩
  ·exact ok'
  ·refine(N.ok j t2 hj).mv (fun x o hx e=> ?_) kt
   obtain⟨p1,p2,_,_⟩:=N.out j t2 hj;exact u _ _ (fun y=>p1 (y▸hx)) (fun y=>p2 (y▸hx)) (fun hx'=>N.apt i j t t2 hi hj nj x hx' hx) e
 ·rw[oB (f:=(·.nm)) hi en]
  exact N.nms
 ·rcases kS hj with⟨_,rfl⟩|⟨nj,hj⟩
  ·have g:∀{x:Addr} {o:HO},H x=some o->x∉t.foot->x∉t2.foot:=fun{x o} e n hx=>(ft x hx).elim n fun z=>by rw[e]at z;cases z
   exact⟨g sh o1,g N.ach o2,g N.abd o3,g etd o4⟩
  ·exact N.out j t2 hj
 ·rcases kS hj with⟨ej,rfl⟩|⟨nj,hj'⟩
  ·rcases kS hk with⟨ek,rfl⟩|⟨nk,hk⟩
   ·exact absurd (ej.symm.trans ek) ne
   ·intro x hx hx2
    rcases ft x hx with h|h
    ·exact N.apt i k t t3 hi hk nk x h hx2
    ·obtain⟨o,e,_⟩:=(N.ok k t3 hk).kind hx2
     rw[h]at e;cases e
  ·rcases kS hk with⟨ek,rfl⟩|⟨nk,hk⟩
   ·intro x hx hx2
    rcases ft x hx2 with h|h
    ·exact N.apt i j t t2 hi hj' nj x h hx
    ·obtain⟨o,e,_⟩:=(N.ok j t2 hj').kind hx
     rw[h]at e;cases e
   ·exact N.apt j k t2 t3 hj' hk ne
 ·exact u _ _ (fun y=>by rw[y,N.zs.1]at e;cases e) (fun y=>by rw[y,N.zs.2.1]at e;cases e) (fun hx=>by rw[N.zf i t hi x hx]at e;cases e) (N.old _ _ e)
 ·rcases kS hj with⟨_,rfl⟩|⟨nj,hj⟩
  ·exact fun x hx=>(ft x hx).elim (N.zf i t hi x) fun h=>dA N.old h
  ·exact N.zf j t2 hj
theorem bR.found(N:bR K CS CF CB CT Hz W tb fi fd lk kf cs H){kf':List (Ky×V)}(b:bI fd H H')(e:H' fd=some (.dT kf'))(con:∀t∈tb,∀c∈t.hs,∀(p:Nat) v,aO kf' (bQ t.nm c.nm p)=some v->bV c.ys (p:Int)=some v)(ki:eO (cells tb) kf'):bR K CS CF CB CT Hz W tb fi fd lk kf' cs H':=by
 have k:∀{x:Addr} {o:HO},H x=some o->(∀y,o≠ .dT y)->H' x=some o:=fun z n=>b _ _ (fun y=>by rw[y,N.afd]at z;exact n _ (Option.some.inj z).symm) z
 exact⟨let ⟨d,z⟩:=N.sh;⟨d,k z nk⟩,k N.ach nk,k N.abd nk,let ⟨o,z,n⟩:=N.atd;⟨o,k z n.1,n⟩,let ⟨d,z⟩:=N.afi;⟨d,k z nk⟩,e,fun i t h=>(N.ok i t h).mv (fun x o hx z=>by
  obtain⟨o2,e2,_,n⟩:=(N.ok i t h).kind hx;rw[z]at e2;cases e2
  exact k z n) (fun x xs z=>k z nk),N.nms,N.out,N.apt,con,N.ntb,N.four,ki,fun x o z=>b _ _ (fun y=>by rw[y,N.zs.2.2.2]at z;cases z) (N.old _ _ z),N.zs,N.zf⟩
theorem bR.tdc(N:bR K CS CF CB CT Hz W tb fi fd lk kf cs H){o':HO}(b:bI W.td H H')(e:H' W.td=some o')(n1:∀y,o'≠ .dT y)(n2:∀y,o'≠ .lst y)(n3:∀a b c,o'≠ .ins a b c)(n4:∀y,o'≠ .tup y):bR K CS CF CB CT Hz W tb fi fd lk kf cs H':=by
 obtain⟨o,eo,m1,m2,m3,m4⟩:=N.atd;have k:∀{x:Addr} {u:HO},H x=some u->u≠o->H' x=some u:=fun z n=>b _ _ (fun y=>by rw[y,eo]at z;exact n (Option.some.inj z).symm) z
 refine⟨let ⟨d,z⟩:=N.sh;⟨d,k z fun y=>m3 _ _ _ y.symm⟩,k N.ach fun y=>m2 _ y.symm,b _ _ N.ntb N.abd,⟨o',e,n1,n2,n3,n4⟩,let ⟨d,z⟩:=N.afi;⟨d,k z fun y=>m3 _ _ _ y.symm⟩,k N.afd fun y=>m1 _ y.symm,fun i t h=>(N.ok i t h).mv (fun x u hx z=>b _ _ (fun y=>(N.out i t h).2.2.2 (y▸hx)) z) fun x xs z=>k z fun y=>m4 _ y.symm,N.nms,N.out,N.apt,N.con,N.ntb,N.four,N.ki,fun x u z=>b _ _ (fun y=>by rw[y,N.zs.2.2.1]at z;cases z) (N.old _ _ z),N.zs,N.zf⟩
theorem bR.off{kf0:List (Ky×V)}{H0:Hp}(M:bR K CS CF CB CT Hz W tb fi fd lk kf0 cs H0)(hD:H0 D=none)(N:bR K CS CF CB CT Hz W tb fi fd lk kf cs H)(b:bI D H H')(e:H D=some (.lst ys)):bR K CS CF CB CT Hz W tb fi fd lk kf cs H':=by
 have k:∀{x:Addr} {o u:HO},H0 x=some u->H x=some o->H' x=some o:=fun m z=>b _ _ (fun y=>by rw[y,hD]at m;cases m) z
 obtain⟨o0,e0,_⟩:=M.atd;refine⟨let ⟨d,z⟩:=N.sh;let ⟨d',m⟩:=M.sh;⟨d,k m z⟩,k M.ach N.ach,k M.abd N.abd,let ⟨o,z,n⟩:=N.atd;⟨o,k e0 z,n⟩,let ⟨d,z⟩:=N.afi;let ⟨d',m⟩:=M.afi;⟨d,k m z⟩,k M.afd N.afd,fun i t h=>(N.ok i t h).mv (fun x o hx z=> ?_) (fun x xs z=>b _ _ (fun y=>by rw[y,e]at z;cases z) z),N.nms,N.out,N.apt,N.con,N.ntb,N.four,N.ki,fun x o z=>b _ _ (fun y=>by rw[y]at z;rw[M.old _ _ z]at hD;cases hD) (N.old _ _ z),N.zs,N.zf⟩;obtain⟨u,m,_⟩:=(M.ok i t h).kind hx;exact k m z
theorem bR.few(N:bR K CS CF CB CT Hz W tb fi fd lk kf cs H):kf.length<=192:=by
 refine Nat.le_trans N.ki.len (Nat.le_trans (tG (n:=48) fun t ht=> ?_) (by have:=N.four;omega));obtain⟨i,hi⟩:=List.getElem?_of_mem ht;have ok:=N.ok i t hi
 have h8:t.hs.length<=8:=by rw[<- ok.lts];exact ok.tbl.few
 refine Nat.le_trans (tG (n:=6) fun c _=> ?_) (by omega);rw[List.length_map,List.length_range];exact ok.six
theorem xH{p:Nat}(hi:tb[i]?=some t)(hc:c∈t.hs)(hp:p<t.B.xs.length):bQ t.nm c.nm p∈cells tb:=
 List.mem_flatMap.mpr ⟨t,List.mem_of_getElem? hi,List.mem_flatMap.mpr ⟨c,hc,List.mem_map.mpr ⟨p,List.mem_range.mpr hp,rfl⟩⟩⟩
theorem jG{κ:Type} [DecidableEq κ]:∀{kvs:List (κ×V)} {kv:κ×V},(kvs.map (·.1)).Nodup->kv∈kvs->aO kvs kv.1=some kv.2
 | [],_,_,h=>by cases h
 |p::r,kv,nd,h=>by
  rw[List.map_cons,List.nodup_cons]at nd
  rcases List.mem_cons.mp h with rfl|h
  ·exact fN rfl
  ·rw[eX (fun y=>nd.1 (y▸List.mem_map.mpr ⟨kv,h,rfl⟩))]
   exact jG nd.2 h
theorem kX{α:Type}{f:α->Str}{g:α->V}{xs:List α}(h:(xs.map f).Nodup):((xs.map fun t=>((.inr (f t):aB),g t)).map (·.1)).Nodup:=by
 rw[List.map_map]
 rw[List.nodup_iff_pairwise_ne,List.pairwise_map]at h|-
 exact h.imp fun n y=>n (Sum.inr.inj y)
def bO(tb:List TB):List (aB×V):=tb.map fun t=>((.inr t.nm:aB),V.ref t.tl)
theorem bR.shat(N:bR K CS CF CB CT Hz W tb fi fd lk kf cs H)(h:tb[i]?=some t):nF CS CB CT W.s W.bd W.ch fi (tb.map fun t=>((.inr t.nm:aB),V.ref t.B.b)) t.nm t.B H:=
 ⟨N.sh,N.abd,(N.ok i t h).nl,jG (kv:=((.inr t.nm:aB),V.ref t.B.b)) (kX N.nms) (List.mem_map.mpr ⟨t,List.mem_of_getElem? h,rfl⟩),(N.ok i t h).bat⟩
theorem bR.fat(N:bR K CS CF CB CT Hz W tb fi fd lk kf cs H)(h:tb[i]?=some t)(l:kf.length<900):eZ CF CB CT H fi W.bd fd lk t.nm t.B kf:=
 ⟨N.afi,⟨_,N.abd,(N.shat h).2.2.2.1⟩,(N.ok i t h).bat,N.afd,l⟩
theorem bR.tdg(N:bR K CS CF CB CT Hz W tb fi fd lk kf cs H)(h:tb[i]?=some t):aO (bO tb) (.inr t.nm:aB)=some (.ref t.tl):=
 jG (kv:=((.inr t.nm:aB),V.ref t.tl)) (kX N.nms) (List.mem_map.mpr ⟨t,List.mem_of_getElem? h,rfl⟩)
theorem bZ.gv(h:bZ K CB CT H t)(hc:c∈t.hs):∃l,gO H t.B c.nm l c.ys/\(⟨c.nm,l,c.ys⟩:aZ)∈t.ts:=by
 obtain⟨l,hl⟩:=h.mt c hc;refine⟨l,⟨by rw[h.ru];rfl,by rw[<- h.hn];exact List.mem_map.mpr ⟨c,hc,rfl⟩,h.tbl.nms ⟨c.nm,l,c.ys⟩ hl,?_,h.tbl.lst ⟨c.nm,l,c.ys⟩ hl,h.tbl.len ⟨c.nm,l,c.ys⟩ hl,?_⟩,hl⟩
 ·rw[h.kv]
  exact jG (kv:=((.inr c.nm:aB),V.ref l)) (kX h.tbl.nod) (List.mem_map.mpr ⟨_,hl,rfl⟩)
 ·have:=h.six
  have e:c.ys.length=t.B.xs.length:=h.tbl.len ⟨c.nm,l,c.ys⟩ hl;omega
end
section
variable{ae:Heap}
inductive tN(CS:Addr)(vs:List V)(H:Hp)(Q:VK)(E:XK):Prop
 |mk (s bd ch fi dx:Addr) (kb:List (aB×V)):vs= [.ref s] ->H s=some (.ins CS dx (cQ bd ch fi))->H bd=some (.dK kb)->(∀H' l,aJ H H'->H l=none->H' l=some (.lst (kb.map fun p=>kV p.1))->Q (.ref l) H')->tN CS vs H Q E
theorem a0U:aX ["self"] ["self"] (aR a0r):={}
theorem a1g(T:aW K mg)(Y:dE K mg CS):aL P w K mg ae aD 1 CS "tables" ["self"] (tN CS):=by
 refine Y.m_tables.known a0U (fun _ _ _ _ _ _ us hl=>eJ (fun _=>rfl) us hl) (fun vs H Q E h=> ?_) (fun f ag A af s H vs Q E hr h=> ?_)
 ·obtain⟨s',bd,ch,fi,dx,kb,rfl,_⟩:=h
  rfl
 ·obtain⟨s',bd,ch,fi,dx,kb,rfl,h1,h2,q⟩:=h
  refine⟨_,(aH (bM (gT (oK rfl) rfl T.list gF (aA (aQ (pv 0) rfl) aE)))),?_⟩;exact⟨_,rfl,s',CS,dx,_,_,rfl,h1,Y.cl,Y.n_boards,(jX _ _ _).1,bd,kb,rfl,h2,fun l hl=>q _ l (aJ.new hl) hl aK⟩
theorem a3y{ce:Addr}{nm c:Str}{p:Nat}{Q:VK}(F:eZ CF CB CT H fi bd fd lk nm B kf)(hce:H ce=some (.tup ((bQ nm c p).map kV)))(g:gO H B c l ys)(hp:p<B.xs.length)(ha:bV ys (p:Int)=some v)(hcon:∀v',aO kf (bQ nm c p)=some v'->v'=v)(kl:kf.length<899)
 (q:∀H' kf',(kf'=kf\/ kf'=bH kf (bQ nm c p) v)->H' fd=some (.dT kf')->bI fd H H'->Q v H'):
 iG CF (hU CF CB CT) [.ref fi,.ref ce] H Q E0:=by
 obtain⟨df,hfi⟩:=F.fin;refine⟨fi,ce,bd,fd,lk,df,bQ nm c p,rfl,hfi,fun H2 wl hwl s2 w2=> ?_⟩;have F2:=F.same s2;have nfd:∀{x:Addr} {o:HO},H2 x=some o->(∀y,o≠ .dT y)->x≠fd:=fun e n y=>by rw[y,F2.fnd]at e;exact n _ (Option.some.inj e).symm
 refine⟨fi,bd,fd,lk,ce,l,nm,c,p,B,kf,ys,v,rfl,F2,s2 _ _ hce,g.ru,g.nl,g.kv,s2 _ _ g.at_,hp,ha,hcon,kl,fun H3 kf' hk hv F3 b3=>⟨rfl,?_⟩⟩;obtain⟨d3,f3⟩:=F3.fin;have w3:=b3 _ _ (nfd w2 nk) w2;refine⟨d3,kf',v,w3,f3,F3.fnd,b3 _ _ (nfd (s2 _ _ hce) nk) (s2 _ _ hce),hv,fun H4 b4=>q H4 kf' hk (b4 _ _ (fun y=>by rw[<- y,F3.fnd]at w3;cases w3) F3.fnd) fun x o n e=>b4 _ _ (fun y=>by rw[y,hwl]at e;cases e) (b3 _ _ n (s2 _ _ e))⟩
inductive sC(CS CF CB CT:Addr)(vs:List V)(H:Hp)(Q:VK)(E:XK):Prop
 |mk (s bd ch fi fd lk l:Addr) (kb:List (aB×V)) (nm c:Str) (m:Nat) (B:BM) (kf:List (Ky×V)) (ys:List V):vs= [.ref s,.str nm,.str c,.int 0,.int (m:Int)] ->nF CS CB CT s bd ch fi kb nm B H->eZ CF CB CT H fi bd fd lk nm B kf->gO H B c l ys->B.xs.length=m->(∀(p:Nat) v,aO kf (bQ nm c p)=some v->bV ys (p:Int)=some v)->kf.length+ m<890->(∀H' kf' D,H D=none->H' D=some (.lst ys)->H' fd=some (.dT kf')->bI fd H H'->kf'.length<=kf.length+ m->(∀Ks,(∀p,p<m->bQ nm c p∈Ks)->eO Ks kf->eO Ks kf')->(∀k v,aO kf' k=some v->aO kf k=some v\/ ∃p:Nat,k=bQ nm c p/\bV ys (p:Int)=some v)->Q (.ref D) H')->sC CS CF CB CT vs H Q E
abbrev qK:List Str:=["self","table","column","start","end","many"]
theorem xE:aX qK ["self","table","column","start","end"] (aR mL):={}
theorem a4d(T:aW K mg)(Y:dE K mg CS)(F:dZ K mg CF)(Wb:cF K mg CB)(U:bX K mg CT):aL P w K mg ae aD 7 CS "stretch" ["self","table","column","start","end"] (sC CS CF CB CT):=by
 have G_is_whole:bA P w K mg ae aD 1 "is_whole" ["thing"] (lC K):=pL T;have G_with:aL P w K mg ae aD 3 CS "board_with" ["self","table","column"] (kW CS CB CT):=pP T Y Wb;have G_many:aL P w K mg ae aD 1 CT "many" ["self"] (fB CT):=fV T U;have G:aL P w K mg ae aD 6 CF "value_of" ["self","cell"] (iG CF (hU CF CB CT)):=xZ T F vE (a0G T F Wb U);refine Y.m_stretch.known xE (fun _ _ _ _ _ _ us hl=>lA (fun _ _ _ _ _=>rfl) us hl) (fun vs H Q E h=> ?_) (fun f ag A af s H vs Q E hr h=> ?_)
 ·obtain⟨s',bd,ch,fi,fd,lk,l,kb,nm,c,m,B,kf,ys,rfl,_⟩:=h
  rfl
 ·obtain⟨s',bd,ch,fi,fd,lk,l,kb,nm,c,m,B,kf,ys,rfl,hSh,hF,g,lx,hcon,kl,q⟩:=h
  have hcl:∀x,(eG aD P w K mg ae qK "Sheet.stretch" (aR mL) f ag A af s H E).nox.env.scope.names.lookup x=some .cell->∃c,(eG aD P w K mg ae qK "Sheet.stretch" (aR mL) f ag A af s H E).nox.env.cells.lookup x=some c:=fun x hx=>Option.isSome_iff_exists.mp (W.cellsFrom_some _ _ _ (.inl hx))
  refine⟨_,(aG (cN (i:=5) xE.nd rfl ad (dR (aQ (bG (pv 0) Y.cl G_with (hr.mono (by omega)) aI (aA (pv 1) (aA (pv 2) aE))) rfl) U.cl G_many (hr.mono (by omega)) aI))
   (aG (bF (PW.pt (dO (cV (cU (bJ G_is_whole (hr.mono (by omega)) aI (aA (pv 3) aE)) (fun _=>rfl))) (dO (cV (cU (bJ G_is_whole (hr.mono (by omega)) aI (aA (pv 4) aE)) (fun _=>rfl))) (eM (cV (a14 jS jS jS aT (pv 3) (pv 4) (pv 5))))))) (aH bT) bN)
   (aH (bM (nA (te:=kN CF "value_of" (iG CF (hU CF CB CT)) [] E0 (nZ K (eV 3) "finder") (gH (rN (gH (eV 1) (gH (eV 2) (gH (eV 0) gC)))) gC)) (nY (sc:=aR mL) (N:=qK) (cp:=[(1,"table"),(2,"column"),(0,"self")]) hcl) rfl rfl (by decide) (a09 rfl T.range (aA (pv 3) (aA (pv 4) aE))) (fun _ _ _ _ _=>lO) (fun _ _ _ _ _=>(bG (aQ (pv 3) rfl) F.cl G hr aI (aA (nX (aA (pv 1) (aA (pv 2) (aA (pv 0) aE)))) aE)))))))),?_⟩
  obtain⟨⟨dx,hs⟩,hbd,nn,hv,hB⟩:=hSh;refine⟨_,rfl,s',dx,_,rfl,hs,cK,_,rfl,_,rfl,s',bd,ch,fi,dx,kb,nm,c,B,rfl,hs,hbd,nn,hv,hB,g.nl,g.od,fun H1 s1=> ?_⟩;obtain⟨dB,hb⟩:=hB.at_;obtain⟨dT,hT⟩:=hB.tab.at_;refine⟨B.b,CB,dB,_,_,rfl,s1 _ _ hb,Wb.cl,Wb.n_given,(cE _ _ _ _).1,B.g,dT,_,rfl,s1 _ _ hT,cL,B.g,B.r,B.e,B.xs,B.n,B.kvs,rfl,hB.tab.same s1,?_⟩;rw[lx];refine⟨_,rfl,_,.int 0,rfl,.int _,_,rfl,bB ⟨_,rfl,_,.int (m:Int),rfl,.int _,_,rfl,bB ?_⟩⟩;refine⟨_,rfl,_,_,rfl,rfl,_,rfl,cZ ⟨_,rfl,_,_,rfl,rfl,_,rfl,?_⟩⟩;rw[decide_eq_true (show(0:Int)<=(m:Int)by omega)];refine cZ ⟨_,rfl,_,_,rfl,rfl,_,rfl,?_⟩;rw[decide_eq_true (show(m:Int)<=(m:Int) from Int.le_refl _)];refine bB ?_;have ly:=g.ly;have l30:=g.l30;refine⟨_,rfl,_,rfl,0,(m:Int),rfl,⟨by omega,by omega,by omega,by omega⟩,fun D hD=> ?_⟩;rw[Int.sub_zero,Int.toNat_natCast];have F1:=hF.same s1;have hD0:=dA s1 hD;refine tW (lo:=0) (n:=m) (fun i zs H2=>zs=ys.take i/\bI fd H H2/\∃kf2,H2 fd=some (.dT kf2)/\kf2.length<=kf.length+ i/\(∀Ks,(∀p,p<m->bQ nm c p∈Ks)->eO Ks kf->eO Ks kf2)/\∀k v,aO kf2 k=some v->aO kf k=some v\/ ∃p:Nat,k=bQ nm c p/\bV ys (p:Int)=some v) ⟨rfl,bI.of (s1.trans (aJ.new hD)),kf,(s1.trans (aJ.new hD)) _ _ hF.fnd,Nat.le_refl _,fun _ _ h=>h,fun k v e=> .inl e⟩ ?_ ?_
  ·rintro i zs H2 hi h2 ⟨rfl,b2,kf2,e2,l2,ki2,c2⟩
   rw[Int.zero_add];have nf:∀{x:Addr} {o:HO},H x=some o->(∀y,o≠ .dT y)->H2 x=some o:=fun e n=>b2 _ _ (fun y=>by rw[y,hF.fnd]at e;exact n _ (Option.some.inj e).symm) e
   have F2:eZ CF CB CT H2 fi bd fd lk nm B kf2:=hF.put b2 e2 (by omega);obtain⟨df,hfi⟩:=F2.fin;refine⟨_,rfl,s',CS,dx,_,_,rfl,nf hs nk,Y.cl,Y.n_finder,(jX _ _ _).2.2.1,fi,df,_,rfl,hfi,pR,_,rfl,_,rfl,_,rfl,sl,fun ce hce=> ?_⟩;have s3:=aJ.new (o:=.tup ((bQ nm c i).map kV)) hce;have c3:upd H2 ce (.tup ((bQ nm c i).map kV)) ce=some (.tup ((bQ nm c i).map kV)):=aK;refine a3y (p:=i) (F2.same s3) c3 (ys:=ys) (l:=l) (c:=c) ⟨g.ru,g.od,g.nl,g.kv,s3 _ _ (nf g.at_ nk),g.ly,g.l30⟩ (by omega) (v:=ys[i]'(by omega)) (iC (List.getElem?_eq_getElem _)) (fun v' e=> ?_) (by omega) (fun H4 kf' hk e4 b4=> ?_)
   ·have e0:bV ys (i:Int)=some v':=by
     rcases c2 _ _ e with h|⟨p,ep,h⟩
     ·exact hcon i v' h
     ·have:(i:Int)=(p:Int):=by
       have:=congrArg (fun k:Ky=>k[2]?) ep;simp[bQ]at this
       exact_mod_cast this
      rw[this];exact h
    have e1:bV ys (i:Int)=some (ys[i]'(by omega)):=iC (List.getElem?_eq_getElem _);exact Option.some.inj (e0.symm.trans e1)
   ·have h4D:H4 D=some (.lst (ys.take i)):=b4 _ _ (fun y=>by rw[<- y,h2]at e2;cases e2) (s3 _ _ h2)
    have n4:D≠fd:=fun y=>by have z:=hF.fnd;rw[<- y,hD0]at z;cases z
    refine⟨h4D,dQ (by rw[List.length_take];omega),?_,?_,kf',?_,?_,fun Ks h1 h2=> ?_,?_⟩
    ·rw[List.take_add_one,List.getElem?_eq_getElem (by omega)]
     rfl
    ·intro x o n e
     rw[aF (fun y=>by rw[y,hD0]at e;cases e)];exact b4 _ _ n (s3 _ _ (b2 _ _ n e))
    ·rw[aF n4.symm]
     exact e4
    ·rcases hk with rfl|rfl
     ·omega
     ·have:=nP kf2 (bQ nm c i) (ys[i]'(by omega))
      omega
    ·rcases hk with rfl|rfl
     ·exact ki2 Ks h1 h2
     ·exact(ki2 Ks h1 h2).put (h1 i hi)
    ·intro k v ek
     rcases hk with rfl|rfl
     ·exact c2 k v ek
     ·rw[lX]at ek
      by_cases hkk:k=bQ nm c i
      ·rw[if_pos hkk]at ek
       cases ek;exact .inr ⟨i,hkk,iC (List.getElem?_eq_getElem _)⟩
      ·rw[if_neg hkk]at ek
       exact c2 k v ek
  ·rintro zs H2 h2 ⟨rfl,b2,kf2,e2,l2,ki2,c2⟩
   rw[List.take_of_length_le (by omega)]at h2;exact q H2 kf2 D hD0 h2 e2 b2 l2 ki2 c2
end
theorem uC{K:Fg}{H:Hp}:∀zs:List Str,cY K H (zs.map V.str) (zs.map PyData.str)
 | []=> .nil
 |z::zs=> .cons (.str z) (uC zs)
theorem tK:∀{zs:List Str},(∀z∈zs,Nl z)->PyData.canLayAll0 (zs.map PyData.str)=true
 | [],_=>rfl
 |z::zs,h=>by
  show(PyData.canLay0 (.str z)&&PyData.canLayAll0 (zs.map PyData.str))=true;rw[(h z aa).lay,tK fun x hx=>h x (List.mem_cons_of_mem _ hx)];rfl
theorem zY:∀zs:List Str,PyData.depthAll (zs.map PyData.str)<=1
 | []=>by simp[PyData.depthAll]
 |z::zs=>by
  have:=zY zs;simp[PyData.depthAll,PyData.depth];omega
theorem a0v(zs:List Str):(PyData.list (zs.map PyData.str)).depth<=64:=by
 have:=zY zs;simp[PyData.depth];omega
section
variable{ae:Heap}
theorem sQ(hn:∀z∈zs,Nl z):∃d,(∀{H:Hp} {a:Addr},aN K H a (zs.map V.str)->Dt K H (.ref a) d)/\d.canLay0=true/\d.depth<=64/\PyData.eqv d d=true:=by
 have l:(PyData.list (zs.map PyData.str)).canLay0=true:=tK hn;exact⟨_,fun ha=> .lst ha (uC zs),l,a0v zs,SeqAt.eqv_refl _ l⟩
inductive vF(K:Fg)(CS CF CB CT:Addr)(Hz:Hp)(W:eI)(tb:List TB)(fi fd lk:Addr)(cs:List V)(ob:Obj)(H:Hp)(b:Nat)(σ:St)(H3:Hp):Prop
 |mk (o2 o3 o4 o5 o6 o7 o8 o9:Option V) (kf':List (Ky×V)):σ= [some (.ref W.s),some (.ref W.td),o2,o3,o4,o5,o6,o7,o8,o9] ->bR K CS CF CB CT Hz W tb fi fd lk kf' cs H3->H3 W.td=some (.frz ob (.dK (bO tb)))->kf'.length<=192->(∀x o,x≠fd->x≠W.td->H x=some o->H3 x=some o)->vF K CS CF CB CT Hz W tb fi fd lk cs ob H b σ H3
inductive Iw24(K:Fg)(CS CF CB CT:Addr)(Hz:Hp)(W:eI)(tb:List TB)(fi fd lk:Addr)(cs:List V)(ob:Obj)(H:Hp)(t:TB)(b:Nat)(σ:St)(H3:Hp):Prop
 |mk (o6 o7 o8 o9:Option V) (kf':List (Ky×V)):σ= [some (.ref W.s),some (.ref W.td),some (.str t.nm),some (.ref t.ol),some (.ref t.hd),some (.int (t.B.xs.length:Int)),o6,o7,o8,o9] ->bR K CS CF CB CT Hz W tb fi fd lk kf' cs H3->H3 W.td=some (.frz ob (.dK (bO tb)))->kf'.length<=192->(∀x o,x≠fd->x≠W.td->H x=some o->H3 x=some o)->Iw24 K CS CF CB CT Hz W tb fi fd lk cs ob H t b σ H3
inductive zO(K:Fg)(CS CF CB CT:Addr)(Hz:Hp)(W:eI)(tb:List TB)(fi fd lk:Addr)(cs:List V)(ob:Obj)(H:Hp)(t:TB)(c:aZ)(D:Addr)(b:Nat)(σ:St)(H3:Hp):Prop
 |mk (o8 o9:Option V) (kf':List (Ky×V)):σ= [some (.ref W.s),some (.ref W.td),some (.str t.nm),some (.ref t.ol),some (.ref t.hd),some (.int (t.B.xs.length:Int)),some (.str c.nm),some (.ref D),o8,o9] ->bR K CS CF CB CT Hz W tb fi fd lk kf' cs H3->H3 W.td=some (.frz ob (.dK (bO tb)))->kf'.length<=192->(∀x o,x≠fd->x≠W.td->H x=some o->H3 x=some o)->H3 D=some (.lst c.ys)->zO K CS CF CB CT Hz W tb fi fd lk cs ob H t c D b σ H3
theorem gJ{α β:Type}{f:α->β}:∀{xs:List α},(xs.map f).Nodup->∀{a b:α},a∈xs->b∈xs->f a=f b->a=b
 | [],_,_,_,h,_,_=>by cases h
 |x::xs,nd,a,b,ha,hb,e=>by
  rw[List.map_cons,List.nodup_cons]at nd
  rcases List.mem_cons.mp ha with e1|ha'
  ·rcases List.mem_cons.mp hb with e2|hb'
   ·rw[e1,e2]
   ·exact absurd (List.mem_map.mpr ⟨b,hb',by rw[<- e1];exact e.symm⟩) nd.1
  ·rcases List.mem_cons.mp hb with e2|hb'
   ·exact absurd (List.mem_map.mpr ⟨a,ha',by rw[<- e2];exact e⟩) nd.1
   ·exact gJ nd.2 ha' hb' e
theorem a4K{t t' c c':Str}{p p':Nat}(h:bQ t c p=bQ t' c' p'):t=t'/\c=c'/\p=p':=by
 unfold bQ at h
 injection h with h1 h
 injection h with h2 h
 injection h with h3 h
 exact⟨Sum.inr.inj h1,Sum.inr.inj h2,Int.ofNat.inj (Sum.inl.inj h3)⟩
theorem bR.confl{W:eI}{tb:List TB}{kf':List (Ky×V)}(N:bR K CS CF CB CT Hz W tb fi fd lk kf cs H)(hi:tb[i]?=some t)(hc:c∈t.hs)(h:∀k v,aO kf' k=some v->aO kf k=some v\/ ∃p:Nat,k=bQ t.nm c.nm p/\bV c.ys (p:Int)=some v):∀t∈tb,∀c∈t.hs,∀(p:Nat) v,aO kf' (bQ t.nm c.nm p)=some v->bV c.ys (p:Int)=some v:=by
 intro t' ht' c' hc' p v e
 rcases h _ _ e with e|⟨p',ek,e⟩
 ·exact N.con t' ht' c' hc' p v e
 ·obtain⟨e1,e2,e3⟩:=a4K ek
  have:=gJ N.nms ht' (List.mem_of_getElem? hi) e1;subst this;have ok:=N.ok i t' hi;have:=gJ (by rw[ok.hn];exact ok.ond) hc' hc e2;subst this;rw[e3];exact e
inductive sH(K:Fg)(CS CF CB CT:Addr)(vs:List V)(H:Hp)(Q:VK)(E:XK):Prop
 |mk (Hz:Hp) (W:eI) (tb:List TB) (fi fd lk:Addr) (kf:List (Ky×V)) (cs:List V):vs= [.ref W.s,.ref W.td] ->bR K CS CF CB CT Hz W tb fi fd lk kf cs H->H W.td=some (.dK (bO tb))->(∀H' kf',bR K CS CF CB CT Hz W tb fi fd lk kf' cs H'->H' W.td=some (.dK (bO tb))->(∀x o,x≠fd->H x=some o->H' x=some o)->Q (.bl true) H')->sH K CS CF CB CT vs H Q E
abbrev Nrg:List Str:=["_law_sheet","_law_tabs","_law_name","_law_order","_law_held","_law_many","_law_column","_law_found","_law_place","_law_value_here"]
theorem iL:aX Nrg ["_law_sheet","_law_tabs"] (aR a0a):={}
theorem a1K(T:aW K mg)(Y:dE K mg CS)(F:dZ K mg CF)(Wb:cF K mg CB)(U:bX K mg CT):bA P w K mg ae aD 8 "_law_right" ["_law_sheet","_law_tabs"] (sH K CS CF CB CT):=by
 have G_same:bA P w K mg ae aD 1 "_law_same" ["_law_found","_law_due"] (rD K):=a4H T;have G_tables:aL P w K mg ae aD 1 CS "tables" ["self"] (tN CS):=a1g T Y;have G_cols:aL P w K mg ae aD 3 CS "columns" ["self","table"] (uJ CS CB CT):=a1Y T Y Wb;have G_many:aL P w K mg ae aD 3 CS "many" ["self","table"] (qT CS CB CT):=a1b T Y Wb U;have G_isr:aL P w K mg ae aD 4 CS "is_ruled" ["self","table","column"] (uT CS CB CT):=a1j T Y Wb;have G_str:aL P w K mg ae aD 7 CS "stretch" ["self","table","column","start","end"] (sC CS CF CB CT):=a4d T Y F Wb U;have G_vo:aL P w K mg ae aD 6 CF "value_of" ["self","cell"] (iG CF (hU CF CB CT)):=xZ T F vE (a0G T F Wb U);have G_cell:aL P w K mg ae aD 7 CS "cell" ["self","table","column","place"] (nO CS CF CB CT (iG CF (hU CF CB CT))):=a2s T Y F Wb U (by decide) G_vo;refine T.d_law_right.known iL (fun _ _ _ _ _ _ us hl=>cT (fun _ _=>rfl) us hl) (fun vs H Q E h=> ?_) (fun f ag A af s H vs Q E hr h=> ?_)
 ·obtain⟨Hz,W,tb,fi,fd,lk,kf,cs,rfl,_⟩:=h
  rfl
 ·obtain⟨Hz,W,tb,fi,fd,lk,kf,cs,rfl,N,htd,q⟩:=h
  have hu:=cR hr
  refine⟨_,(aG (bF (bW (sE hr.units) (dR (pv 0) Y.cl G_tables hr.mn aI) (gT (oK rfl) rfl T.list gF (aA (pv 1) aE)) (cC _)) (aH (bM fA)) bN)
   (aG (a2h PassesOwn.never rfl (pv 1) (dF (i:=2) iL.nd rfl (Or.inl rfl))
    (aG (jB (eN hu (pv 1) (pv 2) (fun _ _=>rfl)) (nW rfl (fP (dF (i:=3) iL.nd rfl (.inl rfl)) (fP (dF (i:=4) iL.nd rfl (.inl rfl)) (fP (dF (i:=5) iL.nd rfl (.inl rfl)) lS)))))
    (aG (bF (PW.pt (dO (bW (sE hr.units) (bG (pv 0) Y.cl G_cols hr.mn aI (aA (pv 2) aE)) (pv 3) (cC _)) (eM (bW lU (bG (pv 0) Y.cl G_many hr.mn aI (aA (pv 2) aE)) (pv 5) (cC _))))) (aH (bM fA)) bN)
    (aG (hW PassesOwn.never rfl (mQ (pv 3)) (dF (i:=6) iL.nd rfl (Or.inl rfl))
     (aG (cN (i:=7) iL.nd rfl (Or.inl rfl) (bG (pv 0) Y.cl G_str hr aI (aA (pv 2) (aA (pv 6) (aA aT (aA (pv 5) aE))))))
     (aG (bF (PW.pt (dO (bW a5g (bG (pv 0) Y.cl G_isr hr.mn aI (aA (pv 2) (aA (pv 6) aE))) fA (cC _)) (dO (cV (cU (cA rA rfl T.isinstance fL (aA (pv 7) (aA (fT T.list gF) aE))) (fun _=>rfl))) (eM (bW lU (cA eW rfl T.len dY (aA (pv 7) aE)) (pv 5) (cC _)))))) (aH (bM fA)) bN)
     (aG (hW PassesOwn.never rfl (lK rfl T.range (aA (pv 5) aE)) (dF (i:=8) iL.nd rfl (Or.inl rfl))
      (aG (cN (i:=9) iL.nd rfl (Or.inl rfl) (dH eQ (eN hu (pv 4) (pv 6) (fun _ _=>rfl)) (pv 8) (fun _ _=>rfl)))
      (aH (bF (PW.pt (dO (cV (cU (bJ G_same hr.mn aI (aA (dH eQ (pv 7) (pv 8) (fun _ _=>rfl)) (aA (pv 9) aE))) (fun _=>rfl))) (eM (cV (cU (bJ G_same hr.mn aI (aA (bG (pv 0) Y.cl G_cell hr aI (aA (pv 2) (aA (pv 6) (aA (pv 8) aE)))) (aA (pv 9) aE))) (fun _=>rfl)))))) (aH (bM fA)) bN))))
     (aH (bL (mN PySem.F.plainAttrs_list PySem.F.slot_list_clear PySem.F.type_list_clear wJ (pv 7))))))))
    (aH (bL (gR PySem.F.plainAttrs_list PySem.F.slot_list_append PySem.F.type_list_append kZ (bG (pv 0) Y.cl G_cols hr.mn aI (aA (pv 2) aE)) (aA eL aE))))))))
   (aG (bL (mN PySem.F.plainAttrs_list PySem.F.slot_list_clear PySem.F.type_list_clear wJ (dR (pv 0) Y.cl G_tables hr.mn aI)))
   (aH (bM fA))))),?_⟩
  obtain⟨dS,sS⟩:=N.sh;have nms:∀z∈tb.map (·.nm),Nl z:=fun z hz=>by
   obtain⟨t,ht,rfl⟩:=List.mem_map.mp hz;obtain⟨i,hi⟩:=List.getElem?_of_mem ht;exact(N.ok i t hi).nl
  have eb:((tb.map fun t=>((.inr t.nm:aB),V.ref t.B.b)).map fun p=>kV p.1)=(tb.map (·.nm)).map V.str:=by
   rw[List.map_map,List.map_map];rfl
  have et:((bO tb).map fun p=>kV p.1)=(tb.map (·.nm)).map V.str:=by
   unfold bO;rw[List.map_map,List.map_map];rfl
  refine⟨_,rfl,W.s,dS,_,rfl,sS,cK,W.s,W.bd,W.ch,fi,dS,_,rfl,sS,N.abd,fun H1 l1 s1 hl1 e1=> ?_⟩;refine⟨_,rfl,W.td,_,rfl,s1 _ _ htd,fun l2 hl2=> ?_⟩;rw[eb]at e1;have s2:=aJ.new (o:=.lst ((bO tb).map fun p=>kV p.1)) hl2
  have e2:upd H1 l2 (.lst ((bO tb).map fun p=>kV p.1)) l2=some (.lst ((tb.map (·.nm)).map V.str)):=by rw[aK,et]
  generalize upd H1 l2 (.lst ((bO tb).map fun p=>kV p.1))=H2 at s2 e2|-
  obtain⟨dn,n1,n2,n3,n4⟩:=sQ (K:=K) nms;refine⟨dn,dn,n1 (aN.of (s2 _ _ e1)),n1 (aN.of e2),n2,n2,n3,?_⟩;rw[n4];refine⟨_,rfl,bB ?_⟩;have s02:=s1.trans s2;refine⟨_,rfl,W.td,_,rfl,s02 _ _ htd,fun nf ob=> ?_⟩;obtain⟨Hf,eHf⟩:∃Hf,Hf=upd H2 W.td (.frz ob (.dK (bO tb))):=⟨_,rfl⟩;rw[<- eHf]
  have hf:Hf W.td=some (.frz ob (.dK (bO tb))):=by rw[eHf,aK]
  have bf:bI W.td H2 Hf:=fun x o n e=>by rw[eHf,aF n];exact e
  have Nf:=(N.same s02).tdc bf hf nk nk (fun _ _ _ y=>by cases y) nk;have four:=N.four
  have ltd:(bO tb).length=tb.length:=by unfold bO;rw[List.length_map]
  refine a1i (a:=W.td) (ob:=ob) (kvs:=bO tb) (fun i σ H3=>vF K CS CF CB CT Hz W tb fi fd lk cs ob H (kf.length+ 96* i) σ H3) ⟨_,_,_,_,_,_,_,_,kf,rfl,Nf,hf,N.few,fun x o _ n e=>bf _ _ n (s02 _ _ e)⟩ (fun i σ H3 _ h=>by obtain⟨_,_,_,_,_,_,_,_,_,_,_,e,_⟩:=h;exact e) ?_ ?_
  ·rintro i p σ H3 hp ⟨o2,o3,o4,o5,o6,o7,o8,o9,kf3,rfl,N3,hf3,l3,fr3⟩
   obtain⟨t,hi,rfl⟩:∃t,tb[i]?=some t/\p=((.inr t.nm:aB),V.ref t.tl):=by
    unfold bO at hp;rw[List.getElem?_map]at hp
    cases e:tb[i]? with
    |none=>rw[e]at hp;cases hp
    |some t=>rw[e]at hp;exact⟨t,rfl,(Option.some.inj hp).symm⟩
   have il:i<tb.length:=(List.getElem?_eq_some_iff.mp hi).1;have ok3:=N3.ok i t hi;obtain⟨d3,sS3⟩:=N3.sh;refine⟨_,rfl,_,rfl,W.td,_,rfl,.inl ⟨bO tb,.inr t.nm,.inr ⟨ob,hf3⟩,rfl,(N3.tdg hi).symm⟩,t.tl,_,rfl,aN.of ok3.atl,rfl,_,_,rfl,_,_,rfl,_,_,rfl,rfl,?_⟩;obtain⟨_,_,nl3,hv3,bat3⟩:=N3.shat hi;have ordN:∀z∈t.B.ord,Nl z:=fun z hz=>by
    rw[<- ok3.hn]at hz;obtain⟨c,hc,rfl⟩:=List.mem_map.mp hz;obtain⟨l,g,_⟩:=ok3.gv hc;exact g.nl
   refine⟨_,rfl,W.s,d3,_,rfl,sS3,cK,_,rfl,W.s,W.bd,W.ch,fi,d3,_,t.nm,t.B,rfl,sS3,N3.abd,nl3,hv3,bat3,fun H4 l4 s4 hl4 e4=>⟨_,rfl,?_⟩⟩;obtain⟨dn,n1,n2,n3,n4⟩:=sQ (K:=K) ordN;refine⟨dn,dn,n1 (aN.of e4),n1 (aN.of (s4 _ _ ok3.aol)),n2,n2,n3,?_⟩;rw[n4];have N4:=N3.same s4;have ok4:=N4.ok i t hi;obtain⟨d4,sS4⟩:=N4.sh;obtain⟨_,_,qE,hv4,bat4⟩:=N4.shat hi;refine⟨_,rfl,bB ⟨_,rfl,W.s,d4,_,rfl,sS4,cK,_,rfl,W.s,W.bd,W.ch,fi,d4,_,t.nm,t.B,rfl,sS4,N4.abd,qE,hv4,bat4,fun H5 s5=>⟨_,rfl,rfl,_,rfl,?_⟩⟩⟩;rw[show (!decide (V.int (t.B.xs.length:Int)=V.int (t.B.xs.length:Int)))=false by simp];refine bB ?_;have N5:=N4.same s5;have s35:=s4.trans s5;have ok5:=N5.ok i t hi
   have lo:t.B.ord.length<=8:=by
    rw[<- ok3.hn,List.length_map,<- ok3.lts];exact ok3.tbl.few
   refine⟨_,rfl,t.ol,rfl,⟨_,aN.of ok5.aol⟩,?_⟩;refine qC (K:=K) (a:=t.ol) (xs:=t.B.ord.map V.str) (fun j σ H6=>Iw24 K CS CF CB CT Hz W tb fi fd lk cs ob H t (kf.length+ 96* i+ 12* j) σ H6) ⟨_,_,_,_,kf3,rfl,N5,s35 _ _ hf3,l3,fun x o n1 n2 e=>s35 _ _ (fr3 x o n1 n2 e)⟩ (fun j σ H6 _ h=>by obtain⟨_,_,_,_,_,_,n6,_⟩:=h;exact aN.of (n6.ok i t hi).aol) ?_ ?_
   ·rintro j x σ H6 hx ⟨o6,o7,o8,o9,kf6,rfl,N6,hf6,l6,fr6⟩
    have ok6:=N6.ok i t hi
    have hjl:j<t.B.ord.length:=by
     have:=(List.getElem?_eq_some_iff.mp hx).1;rw[List.length_map]at this;exact this
    obtain⟨c,hcj,rfl⟩:∃c,t.hs[j]?=some c/\x= .str c.nm:=by
     rw[<- ok6.hn,List.map_map,List.getElem?_map]at hx
     cases e:t.hs[j]? with
     |none=>rw[e]at hx;cases hx
     |some c=>rw[e]at hx;exact⟨c,rfl,(Option.some.inj hx).symm⟩
    have hc:=List.mem_of_getElem? hcj;obtain⟨l,g6,_⟩:=ok6.gv hc;obtain⟨d6,sS6⟩:=N6.sh;have six:=ok6.six;have sh6:=N6.shat hi;refine⟨_,rfl,W.s,d6,_,rfl,sS6,cK,_,rfl,_,rfl,_,rfl,W.s,W.bd,W.ch,fi,fd,lk,l,_,t.nm,c.nm,t.B.xs.length,t.B,kf6,c.ys,rfl,sh6,N6.fat hi (by omega),g6,rfl,fun p v e=>N6.con t (List.mem_of_getElem? hi) c hc p v e,by omega,fun H7 kf7 D hD eD f7 b7 l7 ki7 c7=> ?_⟩;have N7:=N6.found b7 f7 (N6.confl hi hc c7) (ki7 _ (fun p hp=>xH hi hc hp) N6.ki);have ok7:=N7.ok i t hi;obtain⟨d7,sS7⟩:=N7.sh;obtain⟨_,_,nl7,hv7,bat7⟩:=N7.shat hi;obtain⟨l',g7,_⟩:=ok7.gv hc;refine⟨_,rfl,W.s,d7,_,rfl,sS7,cK,_,rfl,_,rfl,W.s,W.bd,W.ch,fi,d7,_,t.nm,c.nm,t.B,rfl,sS7,N7.abd,nl7,hv7,bat7,g7.nl,g7.od,fun H8 s8=>⟨_,_,rfl,rfl,_,rfl,?_⟩⟩;rw[g7.ru];have N8:=N7.same s8;have eD8:=s8 _ _ eD;have ok8:=N8.ok i t hi;have lcy:c.ys.length=t.B.xs.length:=g7.ly;refine bB ⟨_,rfl,_,"list",.type "list",_,rfl,.lst eD8,nS K .lst,_,rfl,bB ⟨_,rfl,_,_,rfl,.inl ⟨_,aN.of eD8,rfl⟩,_,rfl,rfl,_,rfl,?_⟩⟩;rw[lcy,show(!decide (V.int (t.B.xs.length:Int)=V.int (t.B.xs.length:Int)))=false by simp];refine bB ?_;have nDf:D≠fd:=fun y=>by rw[y,f7]at eD;cases eD
    have nDt:D≠W.td:=fun y=>by rw[y,hf6]at hD;cases hD
    have fr8:∀x o,x≠fd->x≠W.td->H x=some o->H8 x=some o:=fun x o n1 n2 e=>s8 _ _ (b7 _ _ n1 (fr6 x o n1 n2 e))
    have hf8:H8 W.td=some (.frz ob (.dK (bO tb))):=s8 _ _ (b7 _ _ (fun y=>by rw[y,N6.afd]at hf6;cases hf6) hf6);refine⟨_,rfl,(t.B.xs.length:Int),rfl,by omega,by omega,?_⟩;rw[Int.toNat_natCast];refine pO (lo:=0) (n:=t.B.xs.length) (fun p σ H9=>zO K CS CF CB CT Hz W tb fi fd lk cs ob H t c D (kf.length+ 96* i+ 12* j+ 6+ p) σ H9) ⟨_,_,kf7,rfl,N8,hf8,N8.few,fr8,eD8⟩ ?_ ?_
    ·rintro p σ H9 hp ⟨o8,o9,kf9,rfl,N9,hf9,l9,fr9,eD9⟩
     rw[Int.zero_add];have ok9:=N9.ok i t hi;obtain⟨ds,pvs⟩:=ok9.pv c hc;have hy:c.ys[p]?=some (c.ys[p]'(by omega)):=List.getElem?_eq_getElem _;obtain⟨dv,_,pv9⟩:=zZ pvs hy;have ha:=iC hy;generalize c.ys[p]'(by omega)=v at hy pv9 ha;have hvh:aO (tk t.hs) (.inr c.nm:aB)=some (.ref c.l):=jG (kv:=((.inr c.nm:aB),V.ref c.l)) (kX (by rw[ok9.hn];exact ok9.ond)) (List.mem_map.mpr ⟨c,hc,rfl⟩);refine⟨_,rfl,_,rfl,t.hd,.ref c.l,rfl,hvh▸cG.k (k:=Sum.inr c.nm) ok9.ahd,_,rfl,c.l,_,_,v,rfl,rfl,aN.of (ok9.hl c hc),ha,?_⟩;refine⟨_,rfl,_,rfl,D,_,_,v,rfl,rfl,aN.of eD9,ha,_,rfl,v,dv,rfl,pv9,_,rfl,bB ?_⟩;obtain⟨d9,sS9⟩:=N9.sh;obtain⟨l9',g9,_⟩:=ok9.gv hc;refine⟨_,rfl,W.s,d9,_,rfl,sS9,cK,_,rfl,_,rfl,_,rfl,?_⟩;dsimp only[gC,List.cons_append,List.nil_append,List.append_nil];show nO CS CF CB CT (iG CF (hU CF CB CT)) [.ref W.s,.str t.nm,.str c.nm,.int (p:Int)] H9 _ E0;refine a3P (N9.fat hi (by omega)) (N9.shat hi) g9.nl g9.od g9.ru g9.kv g9.at_ (by omega) ha (fun v' e=> ?_) (by omega) (fun H10 kf10 hk e10 b10=> ?_)
     ·have:=N9.con t (List.mem_of_getElem? hi) c hc p v' e
      rw[ha]at this;exact(Option.some.inj this).symm
     ·have kt10:bS H9 H10:=fun x xs e=>b10 _ _ (fun y=>by rw[y,N9.afd]at e;cases e) e
      refine⟨_,rfl,v,dv,rfl,pv9.keep kt10,_,rfl,bB ?_⟩;have c10:∀k v',aO kf10 k=some v'->aO kf9 k=some v'\/ ∃p:Nat,k=bQ t.nm c.nm p/\bV c.ys (p:Int)=some v':=fun k v' e=>by
       rcases hk with rfl|rfl
       ·exact .inl e
       ·rw[lX]at e
        by_cases hkk:k=bQ t.nm c.nm p
        ·rw[if_pos hkk]at e
         cases e;exact .inr ⟨p,hkk,ha⟩
        ·rw[if_neg hkk]at e
         exact .inl e
      have ki10:eO (cells tb) kf10:=by
       rcases hk with rfl|rfl
       ·exact N9.ki
       ·exact N9.ki.put (xH hi hc hp)
      have l10:kf10.length<=kf9.length+ 1:=by
       rcases hk with rfl|rfl
       ·exact Nat.le_succ _
       ·exact nP _ _ _
      have N10:=N9.found b10 e10 (N9.confl hi hc c10) ki10;exact⟨_,_,kf10,rfl,N10,b10 _ _ (fun y=>by rw[y,N9.afd]at hf9;cases hf9) hf9,N10.few,fun x o n1 n2 e=>b10 _ _ n1 (fr9 x o n1 n2 e),b10 _ _ nDf eD9⟩
    ·rintro σ H9 ⟨o8,o9,kf9,rfl,N9,hf9,l9,fr9,eD9⟩
     refine⟨_,rfl,.inl ⟨rfl,_,aN.of eD9⟩,D,_,rfl,rfl,eD9,?_⟩;have b11:bI D H9 (upd H9 D (.lst [])):=fun x o n e=>by rw[aF n];exact e
     refine⟨_,_,_,_,kf9,rfl,N6.off hD N9 b11 eD9,b11 _ _ nDt.symm hf9,N9.few,fun x o n1 n2 e=>b11 _ _ (fun y=>by rw[y]at e n1 n2;rw[fr6 _ _ n1 n2 e]at hD;cases hD) (fr9 x o n1 n2 e)⟩
   ·rintro σ H6 ⟨o6,o7,o8,o9,kf6,rfl,N6,hf6,l6,fr6⟩
    obtain⟨d6,sS6⟩:=N6.sh;obtain⟨_,_,nl6,hv6,bat6⟩:=N6.shat hi;refine⟨_,rfl,W.s,d6,_,rfl,sS6,cK,_,rfl,W.s,W.bd,W.ch,fi,d6,_,t.nm,t.B,rfl,sS6,N6.abd,nl6,hv6,bat6,fun H7 l7 s7 hl7 e7=>⟨.inl ⟨rfl,_,aN.of e7⟩,l7,_,_,rfl,rfl,e7,dQ (by rw[List.length_map];omega),?_⟩⟩;have b8:bI l7 H7 (upd H7 l7 (.lst (t.B.ord.map V.str++ [.str "x"]))):=fun x o n e=>by rw[aF n];exact e
    refine⟨_,_,_,_,_,_,_,_,kf6,rfl,N6.off hl7 (N6.same s7) b8 e7,b8 _ _ (fun y=>by rw[<- y,hf6]at hl7;cases hl7) (s7 _ _ hf6),N6.few,fun x o n1 n2 e=>b8 _ _ (fun y=>by rw[y]at e n1 n2;rw[fr6 _ _ n1 n2 e]at hl7;cases hl7) (s7 _ _ (fr6 x o n1 n2 e))⟩
  ·rintro σ H3 ⟨o2,o3,o4,o5,o6,o7,o8,o9,kf3,rfl,N3,hf3,l3,fr3⟩
   refine⟨W.td,ob,bO tb,nf,hf3,?_⟩;have b4:bI W.td H3 (upd H3 W.td (.dK (bO tb))):=fun x o n e=>by rw[aF n];exact e
   have t4:upd H3 W.td (.dK (bO tb)) W.td=some (.dK (bO tb)):=aK
   generalize upd H3 W.td (.dK (bO tb))=H4 at b4 t4|-
   have N4:=N3.tdc b4 t4 nk nk (fun _ _ _ y=>by cases y) nk;have fr4:∀x o,x≠fd->H x=some o->H4 x=some o:=fun x o n e=>by
    by_cases y:x=W.td
    ·rw[y]at e|-
     rw[htd]at e;rw[t4,<- e]
    ·exact b4 _ _ y (fr3 x o n y e)
   obtain⟨d4,sS4⟩:=N4.sh;refine⟨_,rfl,W.s,d4,_,rfl,sS4,cK,W.s,W.bd,W.ch,fi,d4,_,rfl,sS4,N4.abd,fun H5 l5 s5 hl5 e5=>⟨.inl ⟨rfl,_,aN.of e5⟩,l5,_,rfl,rfl,e5,?_⟩⟩;have b6:bI l5 H5 (upd H5 l5 (.lst [])):=fun x o n e=>by rw[aF n];exact e
   exact q _ kf3 (N4.off hl5 (N4.same s5) b6 e5) (b6 _ _ (fun y=>by rw[<- y,t4]at hl5;cases hl5) (s5 _ _ t4)) fun x o n e=>b6 _ _ (fun y=>by rw[y]at e n;rw[fr4 _ _ n e]at hl5;cases hl5) (s5 _ _ (fr4 x o n e))
end
theorem cB{α:Type}{xs:List α}(nd:xs.Nodup){x y:α}(hi:xs[i]?=some x)(hj:xs[j]?=some y)(n:i≠j):x≠y:=fun e=>by
 obtain⟨h1,e1⟩:=List.getElem?_eq_some_iff.mp hi;obtain⟨h2,e2⟩:=List.getElem?_eq_some_iff.mp hj;have pw:=List.pairwise_iff_getElem.mp (List.nodup_iff_pairwise_ne.mp nd)
 rcases Nat.lt_or_gt_of_ne n with h|h
 ·exact pw i j h1 h2 h (e1.trans (e.trans e2.symm))
 ·exact pw j i h2 h1 h (e2.trans (e.symm.trans e1.symm))
def TB.base(t:TB):List Addr:=[t.B.b,t.B.g,t.B.r,t.B.e,t.B.ru,t.B.me,t.B.od,t.tl,t.ol,t.hd]
noncomputable def TB.lists (t:TB):List Addr:=t.ts.map (·.l)++ t.hs.map (·.l)
theorem TB.foot_eq(t:TB):t.foot=t.base++ t.lists:=rfl
section
variable{t':TB}
theorem bZ.ndb(h:bZ K CB CT H t):t.base.Nodup/\t.lists.Nodup/\∀x∈t.base,∀y∈t.lists,x≠y:=by
 have:=h.nd;rw[TB.foot_eq,List.nodup_append]at this;exact this
theorem bZ.foot'(h:bZ K CB CT H t)(eb:t'.base=t.base)(ll:t'.lists.Nodup)(nw:∀x∈t'.lists,x∈t.lists\/ H x=none):t'.foot.Nodup/\∀x∈t'.foot,x∈t.foot\/ H x=none:=by
 obtain⟨n1,n2,n3⟩:=h.ndb;have al:∀x∈t.base,H x≠none:=fun x hx y=>by
  obtain⟨o,e,_⟩:=h.kind (show x∈t.foot by rw[TB.foot_eq];exact List.mem_append_left _ hx);rw[y]at e;cases e
 rw[TB.foot_eq,eb];refine⟨List.nodup_append.mpr ⟨n1,ll,fun x hx y hy e=> ?_⟩,fun x hx=> ?_⟩
 ·rcases nw y hy with z|z
  ·exact n3 x hx y z e
  ·exact al x hx (e▸z)
 ·rw[TB.foot_eq]
  rcases List.mem_append.mp hx with hx|hx
  ·exact .inl (List.mem_append_left _ hx)
  ·exact(nw x hx).imp (fun z=>List.mem_append_right _ z) id
theorem bZ.ts_l(h:bZ K CB CT H t)(hc:c∈t.ts):c.l∈t.lists:=List.mem_append_left _ (List.mem_map.mpr ⟨c,hc,rfl⟩)
theorem bZ.hs_l(h:bZ K CB CT H t)(hc:c∈t.hs):c.l∈t.lists:=List.mem_append_right _ (List.mem_map.mpr ⟨c,hc,rfl⟩)
theorem bZ.sep(h:bZ K CB CT H t):t.B.sep:=
 ⟨cB h.ndb.1 (i:=2) (j:=6) rfl rfl (by decide),cB h.ndb.1 (i:=3) (j:=4) rfl rfl (by decide),cB h.ndb.1 (i:=3) (j:=5) rfl rfl (by decide),cB h.ndb.1 (i:=4) (j:=5) rfl rfl (by decide)⟩
end
section
variable{W:eI}{tb:List TB}
theorem bR.shsep(N:bR K CS CF CB CT Hz W tb fi fd lk kf cs H)(h:tb[i]?=some t):jW W.bd W.ch t.B:=by
 obtain⟨_,o2,o3,_⟩:=N.out i t h;have m:∀{x:Addr},x∈t.base->x∈t.foot:=fun hx=>by rw[TB.foot_eq];exact List.mem_append_left _ hx
 exact⟨fun y=>o2 (y▸m (by simp[TB.base])),fun y=>o2 (y▸m (by simp[TB.base])),fun y=>o3 (y▸m (by simp[TB.base])),fun y=>o3 (y▸m (by simp[TB.base])),fun y=>o3 (y▸m (by simp[TB.base]))⟩
theorem bR.sheet(N:bR K CS CF CB CT Hz W tb fi fd lk kf cs H):jM CS W.s W.bd W.ch cs (tb.map fun t=>((.inr t.nm:aB),V.ref t.B.b)) H:=
 ⟨let ⟨dx,e⟩:=N.sh;⟨dx,fi,e⟩,N.ach,N.abd⟩
end
theorem a2g(nd:zs.Nodup)(h:∀x∈zs,x∈fH)(hz:z∈fH)(n:z∉zs):zs.length<8:=by
 have:=List.Nodup.length_le_of_subset (l₁:=z::zs) (l₂:=fH) (List.nodup_cons.mpr ⟨n,nd⟩) fun x hx=>by
  rcases List.mem_cons.mp hx with rfl|hx
  ·exact hz
  ·exact h x hx
 exact this
theorem sT:∀z∈fH,Nl z:=by
 intro z hz;simp only[fH,List.mem_cons,List.not_mem_nil,or_false]at hz
 rcases hz with rfl|rfl|rfl|rfl|rfl|rfl|rfl|rfl
 ·exact iQ.1
 ·exact iQ.2.2.2.1
 ·exact iQ.2.2.2.2.1
 ·exact iQ.2.2.2.2.2
 ·exact kK.1
 ·exact kK.2.1
 ·exact kK.2.2.1
 ·exact iQ.2.2.1
theorem a2C(m:Int):∃z∈fH,bV [V.str "a",V.str "b",V.str "ab",V.str "abc",V.str "z",V.str "zz",V.str "y",V.str "abcdefgh"] (m% 8)=some (.str z):=by
 rcases(show m% 8=0\/ m% 8=1\/ m% 8=2\/ m% 8=3\/ m% 8=4\/ m% 8=5\/ m% 8=6\/ m% 8=7 by omega)with h|h|h|h|h|h|h|h<;>rw[h]<;>exact⟨_,by simp[fH],rfl⟩
structure pS(t:TB)(z:Str)(l vl:Addr)(ys:List V)(kvs kvh:List (aB×V))(ord:List Str)(ts hs:List aZ):Prop where
 kv:kvs=tk ts
 kh:kvh=tk hs
 tin:∀q∈ts,q=⟨z,l,ys⟩\/ q∈t.ts
 tn:(ts.map (·.nm)).Nodup
 tl:(ts.map (·.l)).Nodup
 tz:⟨z,l,ys⟩∈ts
 hn:hs.map (·.nm)=ord
 hin:∀q∈hs,q=⟨z,vl,ys⟩\/ (q∈t.hs/\q.nm≠z)
 hl:(hs.map (·.l)).Nodup
 keep:∀q∈t.ts,q.nm≠z->q∈ts
 len:ts.length=hs.length
 on:ord.Nodup
 o8:∀x∈ord,x∈fH
 oz:∀q∈ts,q.nm∈ord
theorem yW:∀{ts:List aZ} {z:Str},z∉ts.map (·.nm)->aO (tk ts) (.inr z:aB)=none
 | [],_,_=>rfl
 |c::ts,z,h=>by
  rw[List.map_cons,List.mem_cons,not_or]at h;show aO (((.inr c.nm:aB),V.ref c.l)::tk ts) (.inr z:aB)=none;rw[eX (fun y=>h.1 (Sum.inr.inj y).symm)];exact yW h.2
theorem a3m(ts:List aZ)(c:aZ):tk (ts++ [c])=tk ts++ [((.inr c.nm:aB),V.ref c.l)]:=by
 unfold tk;rw[List.map_append];rfl
theorem sD(h:z∉ts.map (·.nm)):bH (tk ts) (.inr z:aB) (.ref l)=tk (ts++ [⟨z,l,ys⟩]):=by
 rw[jA _ (yW h),a3m]
noncomputable def gP (z:Str) (ts:List aZ):List aZ:=ts.filter fun c=>decide (c.nm≠z)
noncomputable def gN (z:Str) (l:Addr) (ys:List V) (ts:List aZ):List aZ:=ts.map fun c=>if c.nm=z then⟨z,l,ys⟩ else c
theorem zD(z:Str):∀ts:List aZ,cH (tk ts) (.inr z:aB)=tk (gP z ts)
 | []=>rfl
 |c::ts=>by
  have ih:=zD z ts;show cH (((.inr c.nm:aB),V.ref c.l)::tk ts) (.inr z:aB)=_
  unfold gP at ih|-
  by_cases h:c.nm=z
  ·rw[rE (by rw[h]),ih,List.filter_cons,if_neg (by simp[h])]
  ·rw[pX (fun y=>h (Sum.inr.inj y)),ih,List.filter_cons,if_pos (by simp[h])]
   rfl
theorem pH:c∈gP z ts↔c∈ts/\c.nm≠z:=by
 unfold gP;rw[List.mem_filter,decide_eq_true_eq]
theorem a0A{z:Str}:∀{ts:List aZ},(ts.map (·.nm)).Nodup->z∈ts.map (·.nm)->(gP z ts).length+ 1=ts.length
 | [],_,h=>by cases h
 |c::ts,nd,h=>by
  rw[List.map_cons,List.nodup_cons]at nd;unfold gP;rw[List.filter_cons];by_cases e:c.nm=z
  ·rw[if_neg (by simp[e]),List.length_cons]
   have:(ts.filter fun c=>decide (c.nm≠z))=ts:=List.filter_eq_self.mpr fun q hq=>decide_eq_true fun y=>nd.1 (by rw[e,<- y];exact List.mem_map.mpr ⟨q,hq,rfl⟩)
   rw[this]
  ·rw[if_pos (by simp[e]),List.length_cons,List.length_cons]
   have:=a0A nd.2 ((List.mem_cons.mp h).resolve_left fun y=>e y.symm);unfold gP at this;omega
theorem a2e(h:z∈ts.map (·.nm)):bH (tk ts) (.inr z:aB) (.ref l)=tk (gN z l ys ts):=by
 have any:((tk ts).any fun kv=>decide (kv.1=(.inr z:aB)))=true:=by
  obtain⟨c,hc,e⟩:=List.mem_map.mp h;exact List.any_eq_true.mpr ⟨((.inr c.nm:aB),V.ref c.l),List.mem_map.mpr ⟨c,hc,rfl⟩,decide_eq_true (by rw[e])⟩
 unfold bH;rw[if_pos any];unfold tk gN;rw[List.map_map,List.map_map];refine List.map_congr_left fun c _=> ?_
 show(if(.inr c.nm:aB)= .inr z then((.inr c.nm:aB),V.ref l) else((.inr c.nm:aB),V.ref c.l))=((.inr (if c.nm=z then(⟨z,l,ys⟩:aZ) else c).nm:aB),V.ref (if c.nm=z then(⟨z,l,ys⟩:aZ) else c).l);by_cases e:c.nm=z
 ·rw[if_pos (by rw[e]),if_pos e,e]
 ·rw[if_neg (fun y=>e (Sum.inr.inj y)),if_neg e]
theorem wX(ts:List aZ):(gN z l ys ts).map (·.nm)=ts.map (·.nm):=by
 unfold gN;rw[List.map_map];refine List.map_congr_left fun c _=> ?_
 show(if c.nm=z then(⟨z,l,ys⟩:aZ) else c).nm=c.nm;by_cases e:c.nm=z
 ·rw[if_pos e,e]
 ·rw[if_neg e]
theorem tS{q:aZ}(h:q∈gN z l ys ts):q=⟨z,l,ys⟩\/ (q∈ts/\q.nm≠z):=by
 unfold gN at h;obtain⟨c,hc,e⟩:=List.mem_map.mp h;by_cases y:c.nm=z
 ·rw[if_pos y]at e
  exact .inl e.symm
 ·rw[if_neg y]at e
  rw[<- e];exact .inr ⟨hc,y⟩
theorem wY{z:Str}{l:Addr}{ys:List V}:∀{ts:List aZ},(ts.map (·.nm)).Nodup->(ts.map (·.l)).Nodup->l∉ts.map (·.l)->((gN z l ys ts).map (·.l)).Nodup
 | [],_,_,_=>List.nodup_nil
 |c::ts,nd,na,nl=>by
  rw[List.map_cons,List.nodup_cons]at nd na;rw[List.map_cons,List.mem_cons,not_or]at nl;have ih:=wY (z:=z) (ys:=ys) nd.2 na.2 nl.2;show((if c.nm=z then(⟨z,l,ys⟩:aZ) else c).l::(gN z l ys ts).map (·.l)).Nodup;refine List.nodup_cons.mpr ⟨fun h=> ?_,ih⟩;obtain⟨q,hq,e⟩:=List.mem_map.mp h;by_cases y:c.nm=z
  ·rw[if_pos y]at e
   rcases tS hq with rfl|⟨hq',_⟩
   ·
    have:z∈(gN z l ys ts).map (·.nm):=List.mem_map.mpr ⟨_,hq,rfl⟩;rw[wX]at this;exact nd.1 (y▸this)
   ·exact nl.2 (List.mem_map.mpr ⟨q,hq',e⟩)
  ·rw[if_neg y]at e
   rcases tS hq with rfl|⟨hq',_⟩
   ·exact nl.1 e
   ·exact na.1 (List.mem_map.mpr ⟨q,hq',e⟩)
section
variable{vl:Addr}
theorem bZ.lsn(h:bZ K CB CT H t):(t.ts.map (·.l)).Nodup/\(t.hs.map (·.l)).Nodup/\∀x∈t.ts.map (·.l),∀y∈t.hs.map (·.l),x≠y:=List.nodup_append.mp h.ndb.2.1
theorem bZ.fresh(h:bZ K CB CT H t)(hl:H l=none):l∉t.lists:=fun hm=>by
 obtain⟨o,e,_⟩:=h.kind (show l∈t.foot by rw[TB.foot_eq];exact List.mem_append_right _ hm);rw[hl]at e;cases e
theorem iW{α:Type}{xs:List α}{x:α}(h:xs.Nodup)(n:x∉xs):(xs++ [x]).Nodup:=List.nodup_append.mpr ⟨h,List.pairwise_singleton _ _,fun a ha b hb e=>n (by rw[List.mem_singleton.mp hb]at e;exact e▸ha)⟩
theorem a38(h:bZ K CB CT H t)(hz:z∈fH)(n:z∉t.B.ord)(hl:H l=none)(hv:H vl=none):pS t z l vl ys (bH t.B.kvs (.inr z:aB) (.ref l)) (bH (tk t.hs) (.inr z:aB) (.ref vl)) (t.B.ord++ [z]) (t.ts++ [⟨z,l,ys⟩]) (t.hs++ [⟨z,vl,ys⟩]):=by
 have nt:z∉t.ts.map (·.nm):=fun hm=>by
  obtain⟨c,hc,e⟩:=List.mem_map.mp hm;exact n (e▸h.tm c hc)
 have nh:z∉t.hs.map (·.nm):=by rw[h.hn];exact n
 have f1:=h.fresh hl;have f2:=h.fresh hv;refine⟨by rw[h.kv];exact sD nt,sD nh,fun q hq=> ?_,?_,?_,by simp,?_,fun q hq=> ?_,?_,fun q hq _=>List.mem_append_left _ hq,by rw[List.length_append,List.length_append,h.lts];rfl,iW h.ond n,fun x hx=> ?_,fun q hq=> ?_⟩
 ·rcases List.mem_append.mp hq with hq|hq
  ·exact .inr hq
  ·exact .inl (List.mem_singleton.mp hq)
 ·rw[List.map_append]
  exact iW h.tbl.nod nt
 ·rw[List.map_append]
  exact iW h.lsn.1 fun hm=>f1 (List.mem_append_left _ hm)
 ·rw[List.map_append,h.hn]
  rfl
 ·rcases List.mem_append.mp hq with hq|hq
  ·exact .inr ⟨hq,fun e=>nh (e▸List.mem_map.mpr ⟨q,hq,rfl⟩)⟩
  ·exact .inl (List.mem_singleton.mp hq)
 ·rw[List.map_append]
  exact iW h.lsn.2.1 fun hm=>f2 (List.mem_append_right _ hm)
 ·rcases List.mem_append.mp hx with hx|hx
  ·exact h.n8 x hx
  ·rw[List.mem_singleton.mp hx];exact hz
 ·rcases List.mem_append.mp hq with hq|hq
  ·exact List.mem_append_left _ (h.tm q hq)
  ·rw[List.mem_singleton.mp hq];simp
theorem a37(h:bZ K CB CT H t)(n:z∈t.B.ord)(hl:H l=none)(hv:H vl=none):pS t z l vl ys (bH (cH t.B.kvs (.inr z:aB)) (.inr z:aB) (.ref l)) (bH (tk t.hs) (.inr z:aB) (.ref vl)) t.B.ord (gP z t.ts++ [⟨z,l,ys⟩]) (gN z vl ys t.hs):=by
 have nh:z∈t.hs.map (·.nm):=by rw[h.hn];exact n
 have nt:z∈t.ts.map (·.nm):=by
  obtain⟨c,hc,e⟩:=List.mem_map.mp nh;obtain⟨l',hm⟩:=h.mt c hc;exact e▸List.mem_map.mpr ⟨_,hm,rfl⟩
 have nd:z∉(gP z t.ts).map (·.nm):=fun hm=>by
  obtain⟨c,hc,e⟩:=List.mem_map.mp hm;exact(pH.mp hc).2 e
 have f1:=h.fresh hl;have f2:=h.fresh hv;have sub:(gP z t.ts).Sublist t.ts:=List.filter_sublist;refine⟨by rw[h.kv,zD];exact sD nd,a2e nh,fun q hq=> ?_,?_,?_,by simp,by rw[wX,h.hn],fun q hq=>tS hq,wY (by rw[h.hn];exact h.ond) h.lsn.2.1 (fun hm=>f2 (List.mem_append_right _ hm)),fun q hq e=>List.mem_append_left _ (pH.mpr ⟨hq,e⟩),?_,h.ond,h.n8,fun q hq=> ?_⟩
 ·rcases List.mem_append.mp hq with hq|hq
  ·exact .inr (pH.mp hq).1
  ·exact .inl (List.mem_singleton.mp hq)
 ·rw[List.map_append]
  exact iW (h.tbl.nod.sublist (sub.map _)) nd
 ·rw[List.map_append]
  exact iW (h.lsn.1.sublist (sub.map _)) fun hm=>f1 (List.mem_append_left _ ((sub.map _).subset hm))
 ·have:=a0A h.tbl.nod nt
  have:=h.lts;unfold gN;rw[List.length_append,List.length_map];show(gP z t.ts).length+ 1=_;omega
 ·rcases List.mem_append.mp hq with hq|hq
  ·exact h.tm q (pH.mp hq).1
  ·rw[List.mem_singleton.mp hq];exact n
end
section
variable{vl:Addr}{kvh:List (aB×V)}{ord:List Str}{hs:List aZ}
theorem bZ.given(h:bZ K CB CT H t)(G:pS t z l vl ys kvs kvh ord ts hs)(hl:H l=none)(hv:H vl=none)(nlv:l≠vl)(bat:bP CB CT H' {t.B with kvs:=kvs,ord:=ord})(el:H' l=some (.lst ys))(ev:H' vl=some (.lst ys))(etl:H' t.tl=some (.lst [.ref t.ol,.ref t.hd,.int (t.B.xs.length:Int)]))(eol:H' t.ol=some (.lst (ord.map V.str)))(ehd:H' t.hd=some (.dK kvh))
 (u:∀x o,x∈t.lists->H x=some o->H' x=some o)(kt:bS H H')(ly:ys.length=t.B.xs.length)(pv:∃ds,dC K H' ys ds)(nz:Nl z):
 bZ K CB CT H' {t with B:={t.B with kvs:=kvs,ord:=ord},ts:=ts,hs:=hs} /\∀x∈({t with B:={t.B with kvs:=kvs,ord:=ord},ts:=ts,hs:=hs}:TB).foot,x∈t.foot\/ H x=none:=by
 have f1:=h.fresh hl;have f2:=h.fresh hv
 have F:=h.foot' (t':={t with B:={t.B with kvs:=kvs,ord:=ord},ts:=ts,hs:=hs}) rfl (by
  show(ts.map (·.l)++ hs.map (·.l)).Nodup;refine List.nodup_append.mpr ⟨G.tl,G.hl,fun x hx y hy=> ?_⟩;obtain⟨q,hq,rfl⟩:=List.mem_map.mp hx;obtain⟨q',hq',rfl⟩:=List.mem_map.mp hy
  rcases G.tin q hq with rfl|hq<;>rcases G.hin q' hq' with rfl|⟨hq',_⟩
  ·exact nlv
  ·exact fun e=>f1 ((show l=q'.l from e)▸h.hs_l hq')
  ·exact fun e=>f2 ((show q.l=vl from e)▸h.ts_l hq)
  ·exact h.lsn.2.2 _ (List.mem_map.mpr ⟨q,hq,rfl⟩) _ (List.mem_map.mpr ⟨q',hq',rfl⟩)) (fun x hx=>by
  have hx:x∈ts.map (·.l)++ hs.map (·.l):=hx
  rcases List.mem_append.mp hx with hx|hx
  ·obtain⟨q,hq,rfl⟩:=List.mem_map.mp hx
   rcases G.tin q hq with rfl|hq
   ·exact .inr hl
   ·exact .inl (h.ts_l hq)
  ·obtain⟨q,hq,rfl⟩:=List.mem_map.mp hx
   rcases G.hin q hq with rfl|⟨hq,_⟩
   ·exact .inr hv
   ·exact .inl (h.hs_l hq))
 have l8:ts.length<=8:=by
  have e1:hs.length=ord.length:=by rw[<- G.hn,List.length_map]
  have e2:ord.length<=fH.length:=List.Nodup.length_le_of_subset G.on G.o8;have e3:fH.length=8:=rfl;have e4:=G.len;omega
 refine⟨⟨h.nl,bat,⟨?_,fun c hc=> ?_,fun c hc=> ?_,fun c hc=> ?_,G.tn,G.tl,fun c hc=> ?_,l8⟩,G.kv,h.ru,etl,eol,by rw[ehd,G.kh],G.hn,G.on,fun c hc=> ?_,fun c hc=> ?_,fun c hc=> ?_,G.oz,G.len,G.o8,h.six,F.1⟩,F.2⟩
 ·have:=bat.tab
  have e:({t.B with kvs:=kvs,ord:=ord}:BM).kvs=tk ts:=G.kv;rw[e]at this;exact this
 ·rcases G.tin c hc with rfl|hc
  ·exact el
  ·exact u _ _ (h.ts_l hc) (h.tbl.lst c hc)
 ·rcases G.tin c hc with rfl|hc
  ·exact ly
  ·exact h.tbl.len c hc
 ·rcases G.tin c hc with rfl|hc
  ·exact nz
  ·exact h.tbl.nms c hc
 ·rcases G.tin c hc with rfl|hc
  ·intro y
   have:=h.bat.tab.rows;have y:l=t.B.r:=y;rw[<- y,hl]at this;cases this
  ·exact h.tbl.apr c hc
 ·rcases G.hin c hc with rfl|⟨hc,_⟩
  ·exact ev
  ·exact u _ _ (h.hs_l hc) (h.hl c hc)
 ·rcases G.hin c hc with rfl|⟨hc,_⟩
  ·exact pv
  ·obtain⟨ds,p⟩:=h.pv c hc
   exact⟨ds,p.keep kt⟩
 ·rcases G.hin c hc with rfl|⟨hc,n⟩
  ·exact⟨l,G.tz⟩
  ·obtain⟨l',hm⟩:=h.mt c hc
   exact⟨l',G.keep _ hm n⟩
end
section
variable{ae:Heap}
theorem mB{c A B:Prop} [Decidable c](h2:¬c->B)(h1:c->A):if c then A else B:=dX h1 h2
theorem cutN{G:Prop}{N:Hp->Prop}(Pv:Hp->Prop)(h:∀H,Pv H->N H)(k:(∀H,Pv H->N H)->G):G:=k h
theorem Vd.lay24(h:Vd d):d.canLay0=true/\d.depth<=2:=by
 rcases h with⟨i,rfl,_⟩|⟨y,rfl,hy⟩
 ·exact⟨rfl,by simp[PyData.depth]⟩
 ·exact⟨pJ hy,by simp[PyData.depth,PyData.depthAll]⟩
theorem a3G:∀{ys:List V} {ds:List PyData},dC K H ys ds->cY K H ys ds/\PyData.canLayAll0 ds=true/\PyData.depthAll ds<=2:=by
 intro ys ds h
 induction h with
 |nil=>exact⟨.nil,rfl,by simp[PyData.depthAll]⟩
 |cons h t ih=>
  obtain⟨a,b,c⟩:=ih;obtain⟨l,m⟩:=h.vd.lay24;refine⟨.cons h.dt a,?_,?_⟩
  ·rw[PyData.canLayAll0,l,b];rfl
  ·simp only[PyData.depthAll]
   omega
def lF(K:Fg)(CS CF CB CT:Addr)(Hz:Hp)(W:eI)(tb:List TB)(cs:List V)(i:Nat)(t:TB)(H:Hp)(Q:VK):Prop:=
 ∀H' fi' fd' lk' cs' t' kf',bR K CS CF CB CT Hz W (tb.set i t') fi' fd' lk' kf' cs' H'->t'.nm=t.nm->t'.tl=t.tl->cs'.length<=cs.length+ 1->(∀x o,x≠W.s->x≠W.ch->x∉t.foot->H x=some o->H' x=some o)->Q (.bl true) H'
inductive uD(K:Fg)(CS CF CB CT:Addr)(vs:List V)(H:Hp)(Q:VK)(E:XK):Prop
 |mk (Hz:Hp) (W:eI) (tb:List TB) (fi fd lk:Addr) (kf:List (Ky×V)) (cs:List V) (i:Nat) (t:TB) (a:Addr) (sc:List Int) (ix:Int):vs= [.ref a,.int ix,.ref W.s,.str t.nm,.ref t.tl] ->bR K CS CF CB CT Hz W tb fi fd lk kf cs H->tb[i]?=some t->aN K Hz a (sc.map V.int)->sc.length<=63->0<=ix->ix<=1000->cs.length<800->lF K CS CF CB CT Hz W tb cs i t H Q->uD K CS CF CB CT vs H Q E
abbrev qP:List Str:=["_law_script","_law_at","_law_sheet","_law_name","_law_tab","_law_order","_law_held","_law_many","_law_column","_law_values","_law_handed"]
theorem jU:aX qP ["_law_script","_law_at","_law_sheet","_law_name","_law_tab"] (aR mX):={}
def GvR(K:Fg)(CS CF CB CT:Addr):Addr->Sp->Prop:=fun C sp=>C=CS/\(sp=qH K CS CF CB CT\/ sp=oQ K CS CF CB CT)
theorem a31(T:aW K mg)(Y:dE K mg CS)(F:dZ K mg CF)(Wb:cF K mg CB)(U:bX K mg CT)(C:jH K mg CC):bA P w K mg ae aD 10 "_law_given" ["_law_script","_law_at","_law_sheet","_law_name","_law_tab"] (uD K CS CF CB CT):=by
 have G_mixed:bA P w K mg ae aD 1 "_law_mixed" ["_law_script","_law_k"] (lG K):=rR T;have G_value:bA P w K mg ae aD 1 "_law_value" ["_law_cell"] (kT K):=sK T;have G_give:∀D sp,GvR K CS CF CB CT D sp->cX K D/\aL P w K mg ae aD 9 D "give" ["self","table","column","values"] sp:=fun D sp h=>by
  obtain⟨rfl,rfl|rfl⟩:=h
  ·exact⟨Y.cl,a4J T Y F Wb U C⟩
  ·exact⟨Y.cl,a0Y T Y F Wb U C⟩
 refine T.d_law_given.known jU (fun _ _ _ _ _ _ us hl=>lA (fun _ _ _ _ _=>rfl) us hl) (fun vs H Q E h=> ?_) (fun f ag A af s H vs Q E hr h=> ?_)
 ·obtain⟨Hz,W,tb,fi,fd,lk,kf,cs,i,t,a,sc,ix,rfl,_⟩:=h
  rfl
 ·obtain⟨Hz,W,tb,fi,fd,lk,kf,cs,i,t,a,sc,ix,rfl,N,hi,hS,hl,i0,i1,c8,q⟩:=h
  have hu:=cR hr;have hcl:∀x,(eG aD P w K mg ae qP "_law_given" (aR mX) f ag A af s H E).nox.env.scope.names.lookup x=some .cell->∃c,(eG aD P w K mg ae qP "_law_given" (aR mX) f ag A af s H E).nox.env.cells.lookup x=some c:=fun x hx=>Option.isSome_iff_exists.mp (PySem.W.cellsFrom_some _ _ _ (.inl hx))
  refine⟨_,(aG (jB (pv 4) (nW rfl (fP (dF (i:=5) jU.nd rfl (.inl rfl)) (fP (dF (i:=6) jU.nd rfl (.inl rfl)) (fP (dF (i:=7) jU.nd rfl (.inl rfl)) lS)))))
   (aG (cN (i:=8) jU.nd rfl (Or.inl rfl) (dH eQ (hG (aA eL (aA eL (aA eL (aA eL (aA eL (aA eL (aA eL (aA eL aE))))))))) (aY dD (bJ G_mixed hr.mn aI (aA (pv 0) (aA (pv 1) aE))) aT) (fun _ _=>rfl)))
   (aG (a3t (te:=oC (kT K) [] E0 (gH (oC (lG K) [] E0 (gH (eV 1) (gH (kC _ (kC _ (eV 2) (tC (.int 1))) (eV 0)) gC))) gC)) (i:=9) jU.nd rfl rfl (nY (sc:=aR mX) (N:=qP) (cp:=[(0,"_law_script"),(1,"_law_at")]) hcl) rfl rfl (by decide) (lK rfl T.range (aA (pv 7) aE)) (fun _ _ _ _ _=>lO) (fun _ _ _ _ _=>(bJ G_value hr.mn aI (aA (bJ G_mixed hr.mn aI (aA (pv 1) (aA (aY cW (aY cW (pv 2) aT) (pv 0)) aE))) aE))) rfl)
   (aG (cN (i:=10) jU.nd rfl (Or.inl rfl) (gT rF rfl T.list gF (aA (pv 9) aE)))
   (aG (bF (PW.pt (dO (bW rT (a2T (pv 2) G_give hr aI (aA (pv 3) (aA (pv 8) (aA (pv 10) aE)))) fM (cC _)) (eM (bW (sE hr.units) (pv 10) (pv 9) (cC _))))) (aH (bM fA)) bN)
   (aG (bL (mN PySem.F.plainAttrs_list PySem.F.slot_list_reverse PySem.F.type_list_reverse a4D (pv 10)))
   (aG (bL (gR PySem.F.plainAttrs_list PySem.F.slot_list_append PySem.F.type_list_append kZ (pv 10) (aA aT aE)))
   (aG (bF (bW lE (pv 8) (pv 5) (by with_unfolding_all rfl)) (aH (bL (gR PySem.F.plainAttrs_list PySem.F.slot_list_append PySem.F.type_list_append kZ (pv 5) (aA (pv 8) aE)))) bN)
   (aG (lQ hu (pv 6) (pv 8) (pv 9) rfl)
   (aH (bM fA))))))))))),?_⟩
  have ok:=N.ok i t hi;have six:=ok.six;obtain⟨nb1,nb2,nb3⟩:=ok.ndb;refine⟨_,rfl,t.tl,_,rfl,aN.of ok.atl,rfl,_,_,rfl,_,_,rfl,_,_,rfl,rfl,?_⟩;refine⟨sl,fun l0 hl0=> ?_⟩;have s1:=aJ.new (o:=.lst [V.str "a",V.str "b",V.str "ab",V.str "abc",V.str "z",V.str "zz",V.str "y",V.str "abcdefgh"]) hl0;have c1:upd H l0 (.lst [V.str "a",V.str "b",V.str "ab",V.str "abc",V.str "z",V.str "zz",V.str "y",V.str "abcdefgh"]) l0=some (.lst [V.str "a",V.str "b",V.str "ab",V.str "abc",V.str "z",V.str "zz",V.str "y",V.str "abcdefgh"]):=aK
  generalize upd H l0 (.lst [V.str "a",V.str "b",V.str "ab",V.str "abc",V.str "z",V.str "zz",V.str "y",V.str "abcdefgh"])=H1 at s1 c1|-
  refine⟨_,rfl,_,rfl,a,sc,_,rfl,(N.old.trans s1).seq hS,hl,i0,by omega,fun m0 _ _=>⟨_,_,rfl,rfl,(show(0:Int)<8 by decide),?_⟩⟩;obtain⟨z,hz,az⟩:=a2C m0;refine⟨l0,_,_,.str z,rfl,rfl,aN.of c1,az,?_⟩;refine⟨_,rfl,(t.B.xs.length:Int),rfl,by omega,by omega,fun vl hvl=> ?_⟩;rw[Int.toNat_natCast];refine tW (lo:=0) (n:=t.B.xs.length) (fun k ys Hk=>aJ H1 Hk/\ys.length=k/\∃ds,dC K Hk ys ds) ⟨aJ.new hvl,rfl,[],.nil⟩ ?_ ?_
  ·rintro k ys Hk hk hkD ⟨sk,lk',ds,pk⟩
   refine⟨_,rfl,_,rfl,_,_,rfl,rfl,_,rfl,_,_,rfl,rfl,a,sc,_,rfl,((N.old.trans s1).trans sk).seq hS,hl,by omega,by omega,fun m2 _ _=>⟨m2,rfl,fun H3 v d s3 hv=> ?_⟩⟩;have h3D:=s3 _ _ hkD;have kt:bS H3 (upd H3 vl (.lst (ys++ [v]))):=bS.upd h3D nk;exact⟨h3D,dQ (by omega),(sk.trans s3).on hvl,by rw[List.length_append,lk'];rfl,ds++ [d],Paired.snoc (hv.keep kt) (dC.keep kt (pk.keep (bS.of s3)))⟩
  rintro ys H2 hv2 ⟨s2,ly,ds,pv2⟩;refine⟨_,rfl,vl,_,rfl,.inl (aN.of hv2),fun hn hhn=> ?_⟩;have s3:=aJ.new (o:=.lst ys) hhn;have c3:upd H2 hn (.lst ys) hn=some (.lst ys):=aK
  generalize upd H2 hn (.lst ys)=H3 at s3 c3|-
  have s03:=(s1.trans s2).trans s3;have N3:=N.same s03;have ok3:=N3.ok i t hi;have hv3:=s3 _ _ hv2;have pv3:=pv2.keep (bS.of s3);have hvl0:H vl=none:=dA s1 hvl;have hhn0:H hn=none:=dA (s1.trans s2) hhn;have nvh:vl≠hn:=fun y=>by rw[y,hhn]at hv2;cases hv2
  obtain⟨dS,sS⟩:=N3.sh;obtain⟨_,_,nl3,hb3,bat3⟩:=N3.shat hi;have al:∀{x:Addr},x∈t.foot->H x≠none:=fun hx y=>by
   obtain⟨o,e,_⟩:=ok.kind hx;rw[y]at e;cases e
  obtain⟨o1,o2,o3,o4⟩:=N.out i t hi;have inb:∀{x:Addr},x∈t.base->x∈t.foot:=fun hx=>by rw[TB.foot_eq];exact List.mem_append_left _ hx
  have inl:∀{x:Addr},x∈t.lists->x∈t.foot:=fun hx=>by rw[TB.foot_eq];exact List.mem_append_right _ hx
  obtain⟨dS0,sS0⟩:=N.sh;have nhb:∀{x:Addr},x∈t.foot->x≠hn:=fun hx y=>al hx (y▸hhn0)
  have nvb:∀{x:Addr},x∈t.foot->x≠vl:=fun hx y=>al hx (y▸hvl0)
  have b_od:t.B.od∈t.base:=by simp[TB.base]
  have b_e:t.B.e∈t.base:=by simp[TB.base]
  have b_ol:t.ol∈t.base:=by simp[TB.base]
  have b_hd:t.hd∈t.base:=by simp[TB.base]
  have ns:∀{x:Addr} {o:HO},H3 x=some o->(∀a b c,o≠ .ins a b c)->x≠W.s:=fun e n y=>by rw[y,sS]at e;exact n _ _ _ (Option.some.inj e).symm
  let Af:Hp->Prop:=fun H4=>∃(fi' fd' lk' c' l:Addr) (kvs:List (aB×V)) (ord:List Str) (ts hs:List aZ),pS t z l vl ys kvs (bH (tk t.hs) (.inr z:aB) (.ref vl)) ord ts hs/\(ord=if z∈t.B.ord then t.B.ord else t.B.ord++ [z])/\H3 l=none/\jC CS CF W.s W.bd W.ch fi' fd' lk' (cs++ [.ref c']) (tb.map fun t=>((.inr t.nm:aB),V.ref t.B.b)) H3 H4/\bP CB CT H4 {t.B with kvs:=kvs,ord:=ord} /\H4 l=some (.lst ys)/\∀x o,x≠W.s->x≠W.ch->x≠t.B.od->x≠t.B.e->H3 x=some o->H4 x=some o
  obtain⟨sp0,hsp,hpr⟩:∃sp0,(sp0=qH K CS CF CB CT\/ sp0=oQ K CS CF CB CT)/\∀Q:VK,(∀H4,Af H4->Q .non H4)->sp0 [.ref W.s,.str t.nm,.str z,.ref hn] H3 Q E0:=by
   by_cases hzo:z∈t.B.ord
   ·have hzh:z∈t.hs.map (·.nm):=by rw[ok.hn];exact hzo
    obtain⟨c,hc,rfl⟩:=List.mem_map.mp hzh;obtain⟨lo,go,_⟩:=ok3.gv hc;refine⟨_,.inr rfl,fun Q tl=> ?_⟩
    have k8:t.B.kvs.length<=8:=by
     rw[ok.kv];unfold tk;rw[List.length_map];exact ok.tbl.few
    refine⟨W.s,W.bd,W.ch,hn,lo,c.ys,cs,_,t.nm,c.nm,ys,ds,t.B,rfl,N3.sheet,by omega,nl3,hb3,bat3,ok.sep,N.shsep hi,go,c3,pv3,ly,by omega,k8,fun H4 fi' fd' lk' c' l Fr hl4 B4 l4 u4=>tl H4 ?_⟩;refine⟨fi',fd',lk',c',l,_,t.B.ord,_,_,a37 ok hzo (dA s03 hl4) hvl0,(if_pos hzo).symm,hl4,Fr,B4,l4,fun x o n1 n2 _ n4 e=>u4 x o n1 n2 n4 e⟩
   ·refine⟨_,.inl rfl,fun Q tl=> ?_⟩
    have o8:=a2g ok.ond ok.n8 hz hzo
    have k8:t.B.kvs.length<8:=by
     rw[ok.kv];unfold tk;rw[List.length_map,ok.lts]
     have:t.hs.length=t.B.ord.length:=by rw[<- ok.hn,List.length_map]
     omega
    refine⟨W.s,W.bd,W.ch,hn,cs,_,t.nm,z,ys,ds,t.B,rfl,N3.sheet,by omega,nl3,hb3,bat3,ok.sep,N.shsep hi,⟨by rw[ok.ru];rfl,hzo⟩,sT z hz,c3,(nhb (inb b_od)).symm,pv3,ly,by omega,k8,o8,fun H4 fi' fd' lk' c' l Fr hl4 B4 l4 u4=>tl H4 ?_⟩;refine⟨fi',fd',lk',c',l,_,_,_,_,a38 ok hz hzo (dA s03 hl4) hvl0,(if_neg hzo).symm,hl4,Fr,B4,l4,u4⟩
  refine⟨_,rfl,CS,sp0,W.s,dS,_,⟨rfl,hsp⟩,rfl,sS,cK,_,rfl,_,rfl,_,rfl,hpr _ ?_⟩;rintro H4 ⟨fi',fd',lk',c',l,kvs,ord,ts,hs,G,eo,hl3,⟨⟨dx4,f1⟩,f2,f3,⟨df4,f4⟩,f5,f6,f7,f8,f9,f10⟩,B4,l4,u4⟩;have nch:∀{x:Addr} {o:HO},H3 x=some o->(∀y,o≠ .lst y)->x≠W.ch:=fun e n y=>by rw[y,N3.ach]at e;exact n _ (Option.some.inj e).symm
  have kt4:bS H3 H4:=fun x xs e=>u4 _ _ (ns e (fun _ _ _ y=>by cases y)) (nch e nk) (fun y=>by rw[y,bat3.ord]at e;cases e) (fun y=>by rw[y,bat3.tab.kept]at e;cases e) e
  have nhc:hn≠W.ch:=fun y=>by rw[y,N.ach]at hhn0;cases hhn0
  have nvc:vl≠W.ch:=fun y=>by rw[y,N.ach]at hvl0;cases hvl0
  have hn4:H4 hn=some (.lst ys):=u4 _ _ (ns c3 (fun _ _ _ y=>by cases y)) nhc (nhb (inb b_od)).symm (nhb (inb b_e)).symm c3;have vl4:H4 vl=some (.lst ys):=u4 _ _ (ns hv3 (fun _ _ _ y=>by cases y)) nvc (nvb (inb b_od)).symm (nvb (inb b_e)).symm hv3;have pv4:=pv3.keep kt4;obtain⟨dt4,lay4,dep4⟩:=a3G pv4;refine⟨rfl,_,rfl,bB ⟨_,rfl,_,rfl,.list ds,.list ds,.lst (aN.of hn4) dt4,.lst (aN.of vl4) dt4,lay4,lay4,by simp only[PyData.depth];omega,?_⟩⟩;rw[SeqAt.eqv_refl (.list ds) lay4];refine⟨_,rfl,bB ?_⟩;refine⟨_,rfl,.inl ⟨rfl,_,aN.of hn4⟩,hn,_,rfl,rfl,hn4,?_⟩;have b5:bI hn H4 (upd H4 hn (.lst ys.reverse)):=fun x o n e=>by rw[aF n];exact e
  have h5:upd H4 hn (.lst ys.reverse) hn=some (.lst ys.reverse):=aK
  generalize upd H4 hn (.lst ys.reverse)=H5 at b5 h5|-
  refine⟨_,rfl,.inl ⟨rfl,_,aN.of h5⟩,hn,_,_,rfl,rfl,h5,dQ (by rw[List.length_reverse];omega),?_⟩;have b6:bI hn H4 (upd H5 hn (.lst (ys.reverse++ [.int 7]))):=fun x o n e=>by rw[aF n];exact b5 _ _ n e
  generalize upd H5 hn (.lst (ys.reverse++ [.int 7]))=H6 at b6|-
  have st4:∀{x:Addr} {o:HO},x∈t.base->x≠t.B.od->x≠t.B.e->H x=some o->H4 x=some o:=fun hx n1 n2 e=>u4 _ _ (fun y=>o1 (y▸inb hx)) (fun y=>o2 (y▸inb hx)) n1 n2 (s03 _ _ e)
  have ol6:H6 t.ol=some (.lst (t.B.ord.map V.str)):=b6 _ _ (nhb (inb b_ol)) (st4 b_ol (cB nb1 (i:=8) (j:=6) rfl rfl (by decide)) (cB nb1 (i:=8) (j:=3) rfl rfl (by decide)) ok.aol);have hd6:H6 t.hd=some (.dK (tk t.hs)):=b6 _ _ (nhb (inb b_hd)) (st4 b_hd (cB nb1 (i:=9) (j:=6) rfl rfl (by decide)) (cB nb1 (i:=9) (j:=3) rfl rfl (by decide)) ok.ahd);have noh:t.ol≠t.hd:=cB nb1 (i:=8) (j:=9) rfl rfl (by decide);refine⟨_,rfl,_,rfl,t.ol,_,rfl,.inl (aN.of ol6),rfl,gG _,_,rfl,?_⟩;rw[show (if true=true then !dL (.str z) (t.B.ord.map V.str) else dL (.str z) (t.B.ord.map V.str))= !decide (z∈t.B.ord)by rw[if_pos rfl,gK]];refine cutN (fun H7=>bI t.ol H6 H7/\H7 t.ol=some (.lst (ord.map V.str))) ?tail (fun tl=>mB (fun hb=>tl H6 ⟨fun x o _ e=>e,?_⟩) (fun hb=>⟨_,rfl,.inl ⟨rfl,_,aN.of ol6⟩,_,rfl,t.ol,_,_,rfl,rfl,ol6,dQ ?_,tl _ ⟨fun x o n e=>by rw[aF n];exact e,?_⟩⟩))
  case tail=>
   rintro H7 ⟨b7,ol7⟩;have hd7:=b7 _ _ noh.symm hd6
   have lhs:(tk t.hs).length<=8:=by
    unfold tk;rw[List.length_map,<- ok.lts];exact ok.tbl.few
   refine⟨_,rfl,_,rfl,_,rfl,t.hd,_,rfl,iR.k (k:=Sum.inr z) hd7 (dQ (by omega)),?_⟩;have b8:bI t.hd H7 (upd H7 t.hd (.dK (bH (tk t.hs) (.inr z:aB) (.ref vl)))):=fun x o n e=>by rw[aF n];exact e
   have hd8:upd H7 t.hd (.dK (bH (tk t.hs) (.inr z:aB) (.ref vl))) t.hd=some (.dK (bH (tk t.hs) (.inr z:aB) (.ref vl))):=aK
   generalize upd H7 t.hd (.dK (bH (tk t.hs) (.inr z:aB) (.ref vl)))=H8 at b8 hd8|-
   have k8:∀{x:Addr} {o:HO},x≠hn->x≠t.ol->x≠t.hd->H4 x=some o->H8 x=some o:=fun n1 n2 n3 e=>b8 _ _ n3 (b7 _ _ n2 (b6 _ _ n1 e))
   have ft:∀{x:Addr} {o:HO},x≠W.s->x≠W.ch->x≠t.B.od->x≠t.B.e->x≠t.ol->x≠t.hd->H x=some o->H8 x=some o:=fun n1 n2 n3 n4 n5 n6 e=>k8 (fun y=>by rw[y,hhn0]at e;cases e) n5 n6 (u4 _ _ n1 n2 n3 n4 (s03 _ _ e))
   have nsb:∀{x:Addr},x∈t.foot->x≠W.s/\x≠W.ch:=fun hx=>⟨fun y=>o1 (y▸hx),fun y=>o2 (y▸hx)⟩
   have hl0:H l=none:=dA s03 hl3;have lb:∀{x:Addr},x∈t.foot->l≠x:=fun hx y=>al hx (y▸hl0)
   have nlh:l≠hn:=fun y=>by rw[y,c3]at hl3;cases hl3
   have nlv:l≠vl:=fun y=>by rw[y,hv3]at hl3;cases hl3
   have bb:∀{x:Addr} {o:HO},x∈t.base->x≠t.ol->x≠t.hd->H4 x=some o->H8 x=some o:=fun hx n1 n2 e=>k8 (nhb (inb hx)) n1 n2 e
   have B8:bP CB CT H8 {t.B with kvs:=kvs,ord:=ord}:=by
    obtain⟨⟨d1,b1⟩,⟨⟨d2,b2⟩,b3,b4⟩,b5',b6',b7'⟩:=B4;exact⟨⟨d1,bb (x:=t.B.b) (by simp[TB.base]) (cB nb1 (i:=0) (j:=8) rfl rfl (by decide)) (cB nb1 (i:=0) (j:=9) rfl rfl (by decide)) b1⟩,⟨⟨d2,bb (x:=t.B.g) (by simp[TB.base]) (cB nb1 (i:=1) (j:=8) rfl rfl (by decide)) (cB nb1 (i:=1) (j:=9) rfl rfl (by decide)) b2⟩,bb (x:=t.B.r) (by simp[TB.base]) (cB nb1 (i:=2) (j:=8) rfl rfl (by decide)) (cB nb1 (i:=2) (j:=9) rfl rfl (by decide)) b3,bb (x:=t.B.e) b_e (cB nb1 (i:=3) (j:=8) rfl rfl (by decide)) (cB nb1 (i:=3) (j:=9) rfl rfl (by decide)) b4⟩,bb (x:=t.B.ru) (by simp[TB.base]) (cB nb1 (i:=4) (j:=8) rfl rfl (by decide)) (cB nb1 (i:=4) (j:=9) rfl rfl (by decide)) b5',bb (x:=t.B.me) (by simp[TB.base]) (cB nb1 (i:=5) (j:=8) rfl rfl (by decide)) (cB nb1 (i:=5) (j:=9) rfl rfl (by decide)) b6',bb (x:=t.B.od) b_od (cB nb1 (i:=6) (j:=8) rfl rfl (by decide)) (cB nb1 (i:=6) (j:=9) rfl rfl (by decide)) b7'⟩
   have b_tl:t.tl∈t.base:=by simp[TB.base]
   have kt8:bS H H8:=fun x xs e=>ft (fun y=>by rw[y,sS0]at e;cases e) (fun y=>by rw[y,N.ach]at e;cases e) (fun y=>by rw[y,ok.bat.ord]at e;cases e) (fun y=>by rw[y,ok.bat.tab.kept]at e;cases e) (fun y=>by rw[y,ok.aol]at e;cases e) (fun y=>by rw[y,ok.ahd]at e;cases e) e
   have pv8:∃ds,dC K H8 ys ds:=⟨ds,pv4.keep fun x xs e=>k8 (fun y=>by rw[y,hn4]at e;cases e) (fun y=>by rw[y,st4 b_ol (cB nb1 (i:=8) (j:=6) rfl rfl (by decide)) (cB nb1 (i:=8) (j:=3) rfl rfl (by decide)) ok.aol]at e;cases e) (fun y=>by rw[y,st4 b_hd (cB nb1 (i:=9) (j:=6) rfl rfl (by decide)) (cB nb1 (i:=9) (j:=3) rfl rfl (by decide)) ok.ahd]at e;cases e) e⟩;obtain⟨ok8,f8'⟩:=ok.given G hl0 hvl0 nlv B8 (k8 nlh (lb (inb b_ol)) (lb (inb b_hd)) l4) (k8 nvh (fun y=>nvb (inb b_ol) y.symm) (fun y=>nvb (inb b_hd) y.symm) vl4) (ft (nsb (inb b_tl)).1 (nsb (inb b_tl)).2 (cB nb1 (i:=7) (j:=6) rfl rfl (by decide)) (cB nb1 (i:=7) (j:=3) rfl rfl (by decide)) (cB nb1 (i:=7) (j:=8) rfl rfl (by decide)) (cB nb1 (i:=7) (j:=9) rfl rfl (by decide)) ok.atl) (b8 _ _ noh ol7) hd8 (fun x o hx e=>ft (nsb (inl hx)).1 (nsb (inl hx)).2 (fun y=>nb3 _ b_od _ hx y.symm) (fun y=>nb3 _ b_e _ hx y.symm) (fun y=>nb3 _ b_ol _ hx y.symm) (fun y=>nb3 _ b_hd _ hx y.symm) e) kt8 ly pv8 (sT z hz);have fu:∀x o,x≠W.s->x≠W.ch->x∉t.foot->H x=some o->H8 x=some o:=fun x o n1 n2 n3 e=>ft n1 n2 (fun y=>n3 (y▸inb b_od)) (fun y=>n3 (y▸inb b_e)) (fun y=>n3 (y▸inb b_ol)) (fun y=>n3 (y▸inb b_hd)) e
   have n3o:∀{x:Addr},H3 x=none->x≠hn/\x≠t.ol/\x≠t.hd:=fun e=>⟨fun y=>(by rw[y,c3]at e;cases e),fun y=>(by rw[y,s03 _ _ ok.aol]at e;cases e),fun y=>(by rw[y,s03 _ _ ok.ahd]at e;cases e)⟩
   have sx:W.s≠hn/\W.s≠t.ol/\W.s≠t.hd:=⟨fun y=>(by rw[<- y,sS0]at hhn0;cases hhn0),fun y=>o1 (y▸inb b_ol),fun y=>o1 (y▸inb b_hd)⟩;have cx:W.ch≠hn/\W.ch≠t.ol/\W.ch≠t.hd:=⟨nhc.symm,fun y=>o2 (y▸inb b_ol),fun y=>o2 (y▸inb b_hd)⟩;obtain⟨x1,x2,x3⟩:=n3o f8;obtain⟨w1,w2,w3⟩:=n3o f9;exact q H8 fi' fd' lk' (cs++ [.ref c']) _ [] (N.chg hi ⟨dx4,k8 sx.1 sx.2.1 sx.2.2 f1⟩ (k8 cx.1 cx.2.1 cx.2.2 f2) ⟨df4,k8 x1 x2 x3 f4⟩ (k8 w1 w2 w3 f5) (dA s03 f9) ok8 rfl rfl rfl f8' fu) rfl rfl (by rw[List.length_append];exact Nat.le_refl _) fu
  ·have hb:z∈t.B.ord:=by simpa using hb
   rw[eo,if_pos hb];exact ol6
  ·rw[List.length_map]
   have:t.B.ord.length<=fH.length:=List.Nodup.length_le_of_subset ok.ond ok.n8;have e3:fH.length=8:=rfl;omega
  ·have hb:z∉t.B.ord:=by simpa using hb
   rw[aK,eo,if_neg hb,List.map_append];rfl
end
noncomputable def mxc (c k:Int):Int:=(c% 2147483629+ 6151* k+ 1)* 48271% 2147483647* ((c% 2147483629+ 6151* k+ 1)* 48271% 2147483647% 65519+ k+ 2)% 2147483629
noncomputable def gE (ns:List Int) (k:Int):Int:=mxc (if 0<ns.length then ns.getD (k% (ns.length:Int)).toNat 0 else 7) k
theorem zJ(ns:List Int)(k:Int):0<=gE ns k:=Int.emod_nonneg _ (by decide)
section
variable{ae:Heap}
inductive sW(K:Fg)(vs:List V)(H:Hp)(Q:VK)(E:XK):Prop
 |mk (a:Addr) (ns:List Int) (k:Int):vs= [.ref a,.int k] ->aN K H a (ns.map V.int)->ns.length<=63->0<=k->k<=1000000->Q (.int (gE ns k)) H->sW K vs H Q E
theorem a1F(T:aW K mg):bA P w K mg ae aD 1 "_law_mixed" ["_law_script","_law_k"] (sW K):=by
 refine T.d_law_mixed.known iY (fun _ _ _ _ _ _ us hl=>cT (fun _ _=>rfl) us hl) (fun vs H Q E h=> ?_) (fun f ag A af s H vs Q E hr h=> ?_)
 ·obtain⟨a,ns,k,rfl,_⟩:=h
  rfl
 ·obtain⟨a,ns,k,rfl,hS,hl,h0,h6,q⟩:=h
  have dU:∃t,dP (eG aD P w K mg ae ["_law_script","_law_k","_law_cell"] "_law_mixed" (aR lI) f ag A af s H E).nox ((fK lI).drop 2) t/\∀c:Int,mxc c k=gE ns k->t {nx:=fun _ H'=>Q .non H',rt:=Q} [some (.ref a),some (.int k),some (.int c)] H:=by
   refine⟨_,(aG (cN (i:=2) iY.nd rfl (Or.inl rfl) (aY dD (aY jR (aY cW (aY cW (aY dD (pv 2) aT) (aY jR aT (pv 1))) aT) aT) aT))
    (aH (bM (aY dD (aY jR (pv 2) (aY cW (aY cW (aY dD (pv 2) aT) (pv 1)) aT)) aT)))),fun c hc=> ?_⟩
   refine⟨_,rfl,_,_,rfl,rfl,(show(0:Int)<2147483629 by decide),_,rfl,_,_,rfl,rfl,.inl ⟨by decide,by decide⟩,_,_,rfl,rfl,_,_,rfl,rfl,_,_,rfl,rfl,.inr ⟨by decide,by decide⟩,_,_,rfl,rfl,(show(0:Int)<2147483647 by decide),?_⟩;have e1:=Int.emod_nonneg ((c% 2147483629+ 6151* k+ 1)* 48271) (show(2147483647:Int)≠0 by decide);have e2:=Int.emod_lt_of_pos ((c% 2147483629+ 6151* k+ 1)* 48271) (show(0:Int)<2147483647 by decide);refine⟨_,rfl,_,rfl,_,_,rfl,rfl,(show(0:Int)<65519 by decide),_,rfl,_,_,rfl,rfl,_,_,rfl,rfl,_,_,rfl,rfl,.inl ⟨by omega,by omega⟩,_,_,rfl,rfl,(show(0:Int)<2147483629 by decide),?_⟩;rw[<- hc]at q;exact q
  obtain⟨t,ht,hq⟩:=dU
  refine⟨_,(aG (cN (i:=2) iY.nd rfl (Or.inl rfl) aT)
   (aG (bF (bW zV (cA eW rfl T.len dY (aA (pv 0) aE)) aT (cC _)) (aH (cN (i:=2) iY.nd rfl (Or.inl rfl) (dH eQ (pv 0) (aY dD (pv 1) (cA eW rfl T.len dY (aA (pv 0) aE))) (fun _ _=>rfl)))) bN) ht)),?_⟩
  have el:((ns.map V.int).length:Int)=(ns.length:Int):=by rw[List.length_map]
  refine⟨_,rfl,_,_,rfl,.inl ⟨_,hS,rfl⟩,_,_,rfl,rfl,_,rfl,?_⟩;rw[el];refine dX (fun h2=> ?_) (fun h2=> ?_)
  ·have h2':0<(ns.length:Int):=by simpa using h2
   have hm:=Int.emod_nonneg k (Int.ne_of_gt h2');have hm':=Int.emod_lt_of_pos k h2';exact⟨_,rfl,_,rfl,_,rfl,_,_,rfl,.inl ⟨_,hS,rfl⟩,_,_,rfl,rfl,by rw[el];exact h2',a,_,_,_,rfl,rfl,hS,by rw[el];exact xW ns _ hm hm',hq _ (by unfold gE;rw[if_pos (by omega)])⟩
  ·exact hq _ (by unfold gE;rw[if_neg (fun y=>h2 (decide_eq_true (by omega)))])
end
def dJ(F:Str->List V->List V)(ts:List aZ):List aZ:=ts.map fun c=>⟨c.nm,c.l,F c.nm c.ys⟩
def TB.rows(t:TB)(F:Str->List V->List V)(xs:List V)(n:Int):TB:={t with B:={t.B with xs:=xs,n:=n},ts:=dJ F t.ts,hs:=dJ F t.hs}
theorem yU(F:Str->List V->List V)(ts:List aZ):(dJ F ts).map (·.nm)=ts.map (·.nm):=by
 unfold dJ;rw[List.map_map];rfl
theorem rC(F:Str->List V->List V)(ts:List aZ):(dJ F ts).map (·.l)=ts.map (·.l):=by
 unfold dJ;rw[List.map_map];rfl
theorem sF(F:Str->List V->List V)(ts:List aZ):tk (dJ F ts)=tk ts:=by
 unfold tk dJ;rw[List.map_map];rfl
theorem jK{F:Str->List V->List V}(h:c∈dJ F ts):∃d∈ts,c=⟨d.nm,d.l,F d.nm d.ys⟩:=by
 unfold dJ at h;obtain⟨d,hd,e⟩:=List.mem_map.mp h;exact⟨d,hd,e.symm⟩
theorem oH(t:TB)(F:Str->List V->List V)(xs:List V)(n:Int):(t.rows F xs n).foot=t.foot:=by
 show t.base++ ((dJ F t.ts).map (·.l)++ (dJ F t.hs).map (·.l))=_;rw[rC,rC];rfl
section
theorem bZ.rows(h:bZ K CB CT H t){F:Str->List V->List V}{n:Int}(bat:bP CB CT H' {t.B with xs:=xs,n:=n})(ets:∀c∈t.ts,H' c.l=some (.lst (F c.nm c.ys)))(ehs:∀c∈t.hs,H' c.l=some (.lst (F c.nm c.ys)))(etl:H' t.tl=some (.lst [.ref t.ol,.ref t.hd,.int (xs.length:Int)]))(eol:H' t.ol=some (.lst (t.B.ord.map V.str)))(ehd:H' t.hd=some (.dK (tk t.hs)))
 (len:∀c∈t.ts,(F c.nm c.ys).length=xs.length)(pv:∀c∈t.hs,∃ds,dC K H' (F c.nm c.ys) ds)(six:xs.length<=6):bZ K CB CT H' (t.rows F xs n):=by
 refine⟨h.nl,bat,⟨?_,fun c hc=> ?_,fun c hc=> ?_,fun c hc=> ?_,?_,?_,fun c hc=> ?_,?_⟩,?_,h.ru,etl,eol,?_,?_,h.ond,fun c hc=> ?_,fun c hc=> ?_,fun c hc=> ?_,fun c hc=> ?_,?_,h.n8,six,?_⟩
 ·have:=bat.tab
  have e:({t.B with xs:=xs,n:=n}:BM).kvs=tk (dJ F t.ts):=by rw[sF];exact h.kv
  rw[e]at this;exact this
 ·obtain⟨d,hd,rfl⟩:=jK hc
  exact ets d hd
 ·obtain⟨d,hd,rfl⟩:=jK hc
  exact len d hd
 ·obtain⟨d,hd,rfl⟩:=jK hc
  exact h.tbl.nms d hd
 ·show((dJ F t.ts).map (·.nm)).Nodup
  rw[yU];exact h.tbl.nod
 ·show((dJ F t.ts).map (·.l)).Nodup
  rw[rC];exact h.tbl.apt
 ·obtain⟨d,hd,rfl⟩:=jK hc
  exact h.tbl.apr d hd
 ·show(dJ F t.ts).length<=8
  unfold dJ;rw[List.length_map];exact h.tbl.few
 ·show t.B.kvs=tk (dJ F t.ts)
  rw[sF];exact h.kv
 ·show H' t.hd=some (.dK (tk (dJ F t.hs)))
  rw[sF];exact ehd
 ·show(dJ F t.hs).map (·.nm)=t.B.ord
  rw[yU];exact h.hn
 ·obtain⟨d,hd,rfl⟩:=jK hc
  exact ehs d hd
 ·obtain⟨d,hd,rfl⟩:=jK hc
  exact pv d hd
 ·obtain⟨d,hd,rfl⟩:=jK hc
  obtain⟨l,hm⟩:=h.mt d hd;exact⟨l,List.mem_map.mpr ⟨_,hm,rfl⟩⟩
 ·obtain⟨d,hd,rfl⟩:=jK hc
  exact h.tm d hd
 ·show(dJ F t.ts).length=(dJ F t.hs).length
  unfold dJ;rw[List.length_map,List.length_map];exact h.lts
 ·rw[oH]
  exact h.nd
end
theorem a49{m:Int}{k:Nat}(hj:j<k)(hk:k<n)(h:((j:Int)+ m)% (n:Int)=((k:Int)+ m)% (n:Int)):False:=by
 have:=Int.emod_eq_emod_iff_emod_sub_eq_zero.mp h.symm;rw[show (k:Int)+ m- ((j:Int)+ m)=(k:Int)- (j:Int)by omega,Int.emod_eq_of_lt (by omega) (by omega)]at this;omega
section
variable{W:eI}{tb:List TB}
theorem bR.asks(N:bR K CS CF CB CT Hz W tb fi fd lk kf cs H)(hi:tb[i]?=some t)(u:∀x o,x∉t.hs.map (·.l)->x≠t.tl->H x=some o->H' x=some o):jM CS W.s W.bd W.ch cs (tb.map fun t=>((.inr t.nm:aB),V.ref t.B.b)) H'/\aO (tb.map fun t=>((.inr t.nm:aB),V.ref t.B.b)) (.inr t.nm:aB)=some (.ref t.B.b)/\bP CB CT H' t.B/\jW W.bd W.ch t.B/\eS CT H' t.B.g t.B.r t.B.e t.B.xs t.B.n t.ts/\sI W.ch t.B t.ts:=by
 have ok:=N.ok i t hi;obtain⟨o1,o2,o3,o4⟩:=N.out i t hi;obtain⟨nb1,nb2,nb3⟩:=ok.ndb;have inl:∀{x:Addr},x∈t.lists->x∈t.foot:=fun hx=>by rw[TB.foot_eq];exact List.mem_append_right _ hx
 have inh:∀{x:Addr},x∈t.hs.map (·.l)->x∈t.lists:=fun hx=>List.mem_append_right _ hx
 have inb:∀{x:Addr},x∈t.base->x∈t.foot:=fun hx=>by rw[TB.foot_eq];exact List.mem_append_left _ hx
 have b_tl:t.tl∈t.base:=by simp[TB.base]
 have ub:∀{x:Addr} {o:HO} (k:Nat),t.base[k]?=some x->k≠7->H x=some o->H' x=some o:=fun k hx n e=>u _ _ (fun hm=>nb3 _ (List.mem_of_getElem? hx) _ (inh hm) rfl) (cB nb1 hx (show t.base[7]?=some t.tl from rfl) n) e
 have ut:∀c∈t.ts,∀{o:HO},H c.l=some o->H' c.l=some o:=fun c hc o e=>u _ _ (fun hm=>ok.lsn.2.2 _ (List.mem_map.mpr ⟨c,hc,rfl⟩) _ hm rfl) (fun y=>nb3 _ b_tl _ (ok.ts_l hc) y.symm) e
 obtain⟨⟨d1,b1⟩,⟨⟨d2,b2⟩,b3,b4⟩,b5,b6,b7⟩:=ok.bat;obtain⟨⟨⟨d3,c1⟩,c2,c3⟩,e2,e3,e4,e5,e6,e7,e8⟩:=ok.tbl;have m:∀{x:Addr},x∈t.base->x∈t.base:=id;refine⟨⟨let ⟨dx,e⟩:=N.sh;⟨dx,fi,u _ _ (fun hm=>o1 (inl (inh hm))) (fun y=>o1 (y▸inb b_tl)) e⟩,u _ _ (fun hm=>o2 (inl (inh hm))) (fun y=>o2 (y▸inb b_tl)) N.ach,u _ _ (fun hm=>o3 (inl (inh hm))) (fun y=>o3 (y▸inb b_tl)) N.abd⟩,(N.shat hi).2.2.2.1,⟨⟨d1,ub 0 rfl (by decide) b1⟩,⟨⟨d2,ub 1 rfl (by decide) b2⟩,ub 2 rfl (by decide) b3,ub 3 rfl (by decide) b4⟩,ub 4 rfl (by decide) b5,ub 5 rfl (by decide) b6,ub 6 rfl (by decide) b7⟩,N.shsep hi,⟨⟨⟨d3,ub 1 rfl (by decide) c1⟩,ub 2 rfl (by decide) c2,ub 3 rfl (by decide) c3⟩,fun c hc=>ut c hc (e2 c hc),e3,e4,e5,e6,e7,e8⟩,⟨ok.kv,fun c hc y=>o2 (y▸inl (ok.ts_l hc)),fun c hc y=>nb3 _ (show t.B.od∈t.base by simp[TB.base]) _ (ok.ts_l hc) y.symm,ok.sep.ro⟩⟩
end
def gI(vis:Str->Option V)(p:Nat):Str->List V->List V:=fun z ys=>match vis z with
 |none=>ys
 |some v=>cS ys p v
section
variable{α β:Type}{R:α->β->Prop}
theorem zN{x:α}{y:β}(h:R x y):∀{xs:List α} {ys:List β} (i:Nat),Paired R xs ys->Paired R (cS xs i x) (cS ys i y)
 |_,_,0,p=> .cons h p
 |_,_,_+ 1,.nil=> .cons h .nil
 |_,_,i+ 1,.cons h' t=> .cons h' (zN h i t)
end
section
variable{ae:Heap}
theorem a4L{p:Nat}(h:bV xs (p:Int)=some v):xs[p]?=some v:=by
 by_cases hp:p<xs.length
 ·have e:=iC (i:=p) (List.getElem?_eq_getElem hp)
  rw[h]at e;rw[List.getElem?_eq_getElem hp,Option.some.inj e]
 ·exfalso
  unfold bV at h
  cases e:gD xs.length (p:Int)with
  |none=>rw[e]at h;cases h
  |some j=>
   rw[e]at h;have hj:j<xs.length:=(List.getElem?_eq_some_iff.mp h).1;unfold gD at e;split at e<;>simp at e<;>omega
theorem oV{κ:Type} [DecidableEq κ]:∀{kvs:List (κ×V)} {k:κ} {v:V},aO kvs k=some v->(k,v)∈kvs
 | [],_,_,h=>by cases h
 |x::xs,k,v,h=>by
  by_cases e:x.1=k
  ·rw[fN e]at h
   cases h;exact List.mem_cons.mpr (.inl (by rw[<- e]))
  ·rw[eX e]at h
   exact List.mem_cons_of_mem _ (oV h)
theorem a3l{vis:Str->Option V}{p:Nat}:gI (fun y=>if y=z then some v else vis y) p z ys=cS ys p v:=by
 unfold gI;show(match (if z=z then some v else vis z)with|none=>ys|some v=>cS ys p v)=_;rw[if_pos rfl]
theorem a40{vis:Str->Option V}{p:Nat}{y:Str}(h:¬y=z):gI (fun y=>if y=z then some v else vis y) p y ys=gI vis p y ys:=by
 unfold gI;show(match (if y=z then some v else vis y)with|none=>ys|some v=>cS ys p v)=_;rw[if_neg h]
theorem vH{x:Int}(h0:0<=x)(h1:x<(zs.length:Int)):∃z,z∈zs/\bV (zs.map V.str) x=some (.str z):=by
 obtain⟨k,rfl⟩:=Int.eq_ofNat_of_zero_le h0
 have hk:k<zs.length:=by omega
 exact⟨zs[k],List.getElem_mem hk,iC (by rw[List.getElem?_map,List.getElem?_eq_getElem hk];rfl)⟩
theorem a1p(nd:zs.Nodup){x y:Int}(hx:0<=x)(hy:0<=y)(h1:bV (zs.map V.str) x=some (.str z))(h2:bV (zs.map V.str) y=some (.str z)):x=y:=by
 obtain⟨k,rfl⟩:=Int.eq_ofNat_of_zero_le hx;obtain⟨j,rfl⟩:=Int.eq_ofNat_of_zero_le hy;have e:∀{k:Nat},bV (zs.map V.str) (k:Int)=some (.str z)->zs[k]?=some z:=fun{k} h=>by
  have:=a4L h;rw[List.getElem?_map]at this
  cases e:zs[k]? with
  |none=>rw[e]at this;cases this
  |some u=>rw[e]at this;cases this;rfl
 by_cases hkj:k=j
 ·rw[hkj]
 ·exact absurd rfl (cB nd (e h1) (e h2) hkj)
inductive xM(K:Fg)(W:eI)(t:TB)(a:Addr)(ix:Int)(p:Nat)(m1:Int)(vd:Addr)(H:Hp)(k:Nat)(σ:St)(Hk:Hp):Prop
 |mk (o10 o11 o12:Option V) (vis:Str->Option V) (kvs:List (aB×V)):σ= [some (.ref a),some (.int ix),some (.ref W.s),some (.str t.nm),some (.ref t.tl),some (.ref t.ol),some (.ref t.hd),some (.int (t.B.xs.length:Int)),some (.int (p:Int)),some (.ref vd),o10,o11,o12] ->Hk vd=some (.dK kvs)->kvs.length=k->(∀z,aO kvs (.inr z:aB)=vis z)->(kvs.map (·.1)).Nodup->(∀q∈kvs,∃z d,q.1= .inr z/\z∈t.B.ord/\Pv K Hk q.2 d)->(∀z,vis z≠none->∃j,j<k/\bV (t.B.ord.map V.str) (((j:Int)+ m1)% (t.B.ord.length:Int))=some (.str z))->(∀c∈t.hs,Hk c.l=some (.lst (gI vis p c.nm c.ys)))->(∀x o,x∉t.hs.map (·.l)->H x=some o->Hk x=some o)->xM K W t a ix p m1 vd H k σ Hk
inductive uO(K:Fg)(CS CF CB CT:Addr)(vs:List V)(H:Hp)(Q:VK)(E:XK):Prop
 |mk (Hz:Hp) (W:eI) (tb:List TB) (fi fd lk:Addr) (kf:List (Ky×V)) (cs:List V) (i:Nat) (t:TB) (a:Addr) (sc:List Int) (ix:Int):vs= [.ref a,.int ix,.ref W.s,.str t.nm,.ref t.tl] ->bR K CS CF CB CT Hz W tb fi fd lk kf cs H->tb[i]?=some t->aN K Hz a (sc.map V.int)->sc.length<=63->0<=ix->ix<=1000->cs.length<800->t.B.xs.length<6->lF K CS CF CB CT Hz W tb cs i t H Q->uO K CS CF CB CT vs H Q E
abbrev Npi:List Str:=["_law_script","_law_at","_law_sheet","_law_name","_law_tab","_law_order","_law_held","_law_many","_law_place","_law_values","_law_k","_law_column","_law_handed"]
theorem iI:aX Npi ["_law_script","_law_at","_law_sheet","_law_name","_law_tab"] (aR tI):={}
theorem a3L(T:aW K mg){CI:Addr}(Y:dE K mg CS)(F:dZ K mg CF)(Wb:cF K mg CB)(U:bX K mg CT)(PI:lN K mg CI):bA P w K mg ae aD 10 "_law_put_in" ["_law_script","_law_at","_law_sheet","_law_name","_law_tab"] (uO K CS CF CB CT):=by
 have G_mixed:bA P w K mg ae aD 1 "_law_mixed" ["_law_script","_law_k"] (sW K):=a1F T;have G_value:bA P w K mg ae aD 1 "_law_value" ["_law_cell"] (kT K):=sK T;have G_ins:aL P w K mg ae aD 9 CS "put_in" ["self","table","place","values"] (tQ K CS CF CB CT):=a28 T Y F Wb U PI;refine T.d_law_put_in.known iI (fun _ _ _ _ _ _ us hl=>lA (fun _ _ _ _ _=>rfl) us hl) (fun vs H Q E h=> ?_) (fun f ag A af s H vs Q E hr h=> ?_)
 ·obtain⟨Hz,W,tb,fi,fd,lk,kf,cs,i,t,a,sc,ix,rfl,_⟩:=h
  rfl
 ·obtain⟨Hz,W,tb,fi,fd,lk,kf,cs,i,t,a,sc,ix,rfl,N,hi,hS,hl,i0,i1,c8,x6,q⟩:=h
  have hu:=cR hr
  have hu0:(A.deeper (PyProof.Rows.envOfC "_law_put_in" (aR tI) s.heap.objs.size f ag)).units<cLine:=by have:=hr.units;omega
  refine⟨_,(aG (jB (pv 4) (nW rfl (fP (dF (i:=5) iI.nd rfl (.inl rfl)) (fP (dF (i:=6) iI.nd rfl (.inl rfl)) (fP (dF (i:=7) iI.nd rfl (.inl rfl)) lS)))))
   (aG (cN (i:=8) iI.nd rfl (Or.inl rfl) (aY dD (bJ G_mixed hr.mn aI (aA (pv 0) (aA (pv 1) aE))) (aY cW (pv 7) aT)))
   (aG (cN (i:=9) iI.nd rfl (Or.inl rfl) kE)
   (aG (hW PassesOwn.never rfl (lK rfl T.range (aA (cA eW rfl T.len dY (aA (pv 5) aE)) aE)) (dF (i:=10) iI.nd rfl (Or.inl rfl))
    (aG (cN (i:=11) iI.nd rfl (Or.inl rfl) (dH eQ (pv 5) (aY dD (aY cW (pv 10) (bJ G_mixed hr.mn aI (aA (pv 0) (aA (aY cW (pv 1) aT) aE)))) (cA eW rfl T.len dY (aA (pv 5) aE))) (fun _ _=>rfl)))
    (aG (lQ hu (pv 9) (pv 11) (bJ G_value hr.mn aI (aA (bJ G_mixed hr.mn aI (aA (pv 0) (aA (aY cW (aY cW (pv 1) aT) (pv 10)) aE))) aE)) rfl)
    (aH (bL (gR PySem.F.plainAttrs_list PySem.F.slot_list_insert PySem.F.type_list_insert rQ (eN hu (pv 6) (pv 11) (fun _ _=>rfl)) (aA (pv 8) (aA (eN hu (pv 9) (pv 11) (fun _ _=>rfl)) aE))))))))
   (aG (cN (i:=12) iI.nd rfl (Or.inl rfl) (gT a4e rfl T.dict rM (aA (pv 9) aE)))
   (aG (bF (PW.pt (dO (bW rT (bG (pv 2) Y.cl G_ins hr aI (aA (pv 3) (aA (pv 8) (aA (pv 12) aE)))) fM (cC _)) (eM (bW (a2j hu0) (pv 12) (pv 9) (cC _))))) (aH (bM fA)) bN)
   (aG (bL (mN PySem.F.plainAttrs_dict PySem.F.slot_dict_clear PySem.F.type_dict_clear a2A (pv 12)))
   (aG (jB (aY cW (pv 7) aT) (oA (pv 4) aT qD (fun _=>rfl)))
   (aH (bM fA)))))))))),?_⟩
  have ok:=N.ok i t hi;obtain⟨nb1,nb2,nb3⟩:=ok.ndb;refine⟨_,rfl,t.tl,_,rfl,aN.of ok.atl,rfl,_,_,rfl,_,_,rfl,_,_,rfl,rfl,?_⟩;refine⟨_,rfl,_,rfl,a,sc,_,rfl,N.old.seq hS,hl,i0,by omega,?_⟩;have mlo:=zJ sc ix;refine⟨_,rfl,_,_,rfl,rfl,_,_,rfl,rfl,by omega,?_⟩;have g1:=Int.emod_nonneg (gE sc ix) (show(t.B.xs.length:Int)+ 1≠0 by omega);have g2:=Int.emod_lt_of_pos (gE sc ix) (show(0:Int)<(t.B.xs.length:Int)+ 1 by omega);obtain⟨p,hp'⟩:∃p:Nat,gE sc ix% ((t.B.xs.length:Int)+ 1)=(p:Int):=⟨(gE sc ix% ((t.B.xs.length:Int)+ 1)).toNat,by omega⟩
  have hp:p<=t.B.xs.length:=by omega
  dsimp only;rw[hp'];intro vd hvd;have s1:=aJ.new (o:=.dK []) hvd;have v1:upd H vd (.dK []) vd=some (.dK []):=aK
  generalize upd H vd (.dK [])=H1 at s1 v1|-
  have n8:t.B.ord.length<=8:=List.Nodup.length_le_of_subset ok.ond ok.n8;have inh:∀{x:Addr},x∈t.hs.map (·.l)->x∈t.lists:=fun hx=>List.mem_append_right _ hx
  have inl:∀{x:Addr},x∈t.lists->x∈t.foot:=fun hx=>by rw[TB.foot_eq];exact List.mem_append_right _ hx
  have inb:∀{x:Addr},x∈t.base->x∈t.foot:=fun hx=>by rw[TB.foot_eq];exact List.mem_append_left _ hx
  have nbh:∀{x:Addr},x∈t.base->x∉t.hs.map (·.l):=fun hx hm=>nb3 _ hx _ (inh hm) rfl
  have b_ol:t.ol∈t.base:=by simp[TB.base]
  have b_hd:t.hd∈t.base:=by simp[TB.base]
  have b_tl:t.tl∈t.base:=by simp[TB.base]
  have nvd:∀{x:Addr},x∈t.foot->x≠vd:=fun hx y=>by
   obtain⟨o,e,_⟩:=ok.kind hx;rw[y,hvd]at e;cases e
  have m1lo:=zJ sc (ix+ 1);refine⟨_,rfl,_,_,rfl,.inl ⟨_,aN.of (s1 _ _ ok.aol),rfl⟩,_,rfl,by omega,by rw[List.length_map];omega,?_⟩;rw[List.length_map,Int.toNat_natCast];refine pO (lo:=0) (n:=t.B.ord.length) (fun k σ Hk=>xM K W t a ix p (gE sc (ix+ 1)) vd H k σ Hk) ⟨_,_,_,fun _=>none,[],rfl,v1,rfl,fun _=>rfl,List.nodup_nil,fun q hq=>(by cases hq),fun z h=>absurd rfl h,fun c hc=>s1 _ _ (ok.hl c hc),fun x o _ e=>s1 _ _ e⟩ ?_ ?_
  ·rintro k σ Hk hk ⟨o10,o11,o12,vis,kvs,rfl,vdk,lk',hv,nd,pk,vz,lsk,fr⟩
   rw[Int.zero_add];have olk:=fr _ _ (nbh b_ol) ok.aol;have hdk:=fr _ _ (nbh b_hd) ok.ahd;have oldk:aJ Hz Hk:=fun x o e=>fr x o (fun hm=>by rw[N.zf i t hi x (inl (inh hm))]at e;cases e) (N.old _ _ e)
   have npos:(0:Int)<(t.B.ord.length:Int):=by omega
   have r0:=Int.emod_nonneg ((k:Int)+ gE sc (ix+ 1)) (Int.ne_of_gt npos);have r1:=Int.emod_lt_of_pos ((k:Int)+ gE sc (ix+ 1)) npos;obtain⟨z,hz,az⟩:=vH (zs:=t.B.ord) r0 r1;refine⟨_,rfl,_,rfl,_,rfl,_,rfl,_,_,rfl,rfl,a,sc,_,rfl,oldk.seq hS,hl,by omega,by omega,_,_,rfl,rfl,_,rfl,_,_,rfl,.inl ⟨_,aN.of olk,rfl⟩,_,_,rfl,rfl,by rw[List.length_map];exact npos,t.ol,_,_,.str z,rfl,rfl,aN.of olk,by rw[List.length_map];exact az,?_⟩;refine⟨_,rfl,_,rfl,_,_,rfl,rfl,_,rfl,_,_,rfl,rfl,a,sc,_,rfl,oldk.seq hS,hl,by omega,by omega,_,rfl,fun H3 v d s3 hv3=> ?_⟩
   have vz0:vis z=none:=by
    cases e:vis z with
    |none=>rfl
    |some v'=>
     obtain⟨j,hj,aj⟩:=vz z (by rw[e];exact fun y=>by cases y);exact(a49 hj hk (a1p ok.ond (Int.emod_nonneg _ (Int.ne_of_gt npos)) r0 aj az)).elim
   have vk0:aO kvs (.inr z:aB)=none:=by rw[hv];exact vz0
   refine⟨_,rfl,_,rfl,vd,_,rfl,iR.k (k:=Sum.inr z) (s3 _ _ vdk) (dQ (by omega)),?_⟩;rw[jA _ vk0];have b4:bI vd H3 (upd H3 vd (.dK (kvs++ [((.inr z:aB),v)]))):=fun x o n e=>by rw[aF n];exact e
   have v4:upd H3 vd (.dK (kvs++ [((.inr z:aB),v)])) vd=some (.dK (kvs++ [((.inr z:aB),v)])):=aK
   generalize upd H3 vd (.dK (kvs++ [((.inr z:aB),v)]))=H4 at b4 v4|-
   obtain⟨c,hc,rfl⟩:=List.mem_map.mp (show z∈t.hs.map (·.nm)by rw[ok.hn];exact hz);have hvh:aO (tk t.hs) (.inr c.nm:aB)=some (.ref c.l):=jG (kv:=((.inr c.nm:aB),V.ref c.l)) (kX (by rw[ok.hn];exact ok.ond)) (List.mem_map.mpr ⟨c,hc,rfl⟩)
   have hvv:aO (kvs++ [((.inr c.nm:aB),v)]) (.inr c.nm:aB)=some v:=by rw[<- jA v vk0,lX,if_pos rfl]
   have l4:∀c'∈t.hs,H4 c'.l=some (.lst (gI vis p c'.nm c'.ys)):=fun c' hc'=>b4 _ _ (nvd (inl (ok.hs_l hc'))) (s3 _ _ (lsk c' hc'))
   have lc4:H4 c.l=some (.lst c.ys):=by
    have:=l4 c hc;unfold gI at this;rw[vz0]at this;exact this
   have lcy:c.ys.length=t.B.xs.length:=by
    obtain⟨l,g,_⟩:=ok.gv hc;exact g.ly
   refine⟨_,rfl,_,rfl,t.hd,.ref c.l,rfl,hvh▸cG.k (k:=Sum.inr c.nm) (b4 _ _ (nvd (inb b_hd)) (s3 _ _ hdk)),.inl ⟨rfl,_,aN.of lc4⟩,_,rfl,_,rfl,_,rfl,vd,v,rfl,hvv▸cG.k (k:=Sum.inr c.nm) v4,c.l,_,_,_,rfl,rfl,lc4,by omega,by omega,dQ (by omega),?_⟩;rw[Int.toNat_natCast];have b5:bI c.l H4 (upd H4 c.l (.lst (cS c.ys p v))):=fun x o n e=>by rw[aF n];exact e
   have l5:upd H4 c.l (.lst (cS c.ys p v)) c.l=some (.lst (cS c.ys p v)):=aK
   generalize upd H4 c.l (.lst (cS c.ys p v))=H5 at b5 l5|-
   have kt5:bS H3 H5:=fun x xs e=>b5 _ _ (fun y=>by rw[y,s3 _ _ (lsk c hc)]at e;cases e) (b4 _ _ (fun y=>by rw[y,s3 _ _ vdk]at e;cases e) e)
   refine⟨_,_,_,fun y=>if y=c.nm then some v else vis y,_,rfl,b5 _ _ (nvd (inl (ok.hs_l hc))).symm v4,by rw[List.length_append,lk'];rfl,fun y=> ?_,?_,fun q hq=> ?_,fun y hy=> ?_,fun c' hc'=> ?_,fun x o n e=> ?_⟩
   ·rw[<- jA v vk0,lX]
    by_cases hy:y=c.nm
    ·rw[if_pos (by rw[hy]),if_pos hy]
    ·rw[if_neg (fun e=>hy (Sum.inr.inj e)),if_neg hy]
     exact hv y
   ·rw[List.map_append]
    exact iW nd (tP vk0)
   ·rcases List.mem_append.mp hq with hq|hq
    ·obtain⟨y,d',e1,e2,e3⟩:=pk q hq
     exact⟨y,d',e1,e2,(e3.keep (bS.of s3)).keep kt5⟩
    ·rw[List.mem_singleton.mp hq]
     exact⟨c.nm,d,rfl,hz,hv3.keep kt5⟩
   ·by_cases hyc:y=c.nm
    ·exact⟨k,Nat.lt_succ_self k,by rw[hyc];exact az⟩
    ·rw[if_neg hyc]at hy
     obtain⟨j,hj,aj⟩:=vz y hy;exact⟨j,Nat.lt_succ_of_lt hj,aj⟩
   ·by_cases e:c'.nm=c.nm
    ·have:=gJ (by rw[ok.hn];exact ok.ond) hc' hc e
     subst this;rw[a3l];exact l5
    ·have e5:H5 c'.l=some (.lst (gI vis p c'.nm c'.ys)):=b5 _ _ (fun y=>e (by rw[gJ ok.lsn.2.1 hc' hc y])) (l4 c' hc')
     rw[a40 e];exact e5
   ·exact b5 _ _ (fun y=>n (y▸List.mem_map.mpr ⟨c,hc,rfl⟩)) (b4 _ _ (fun y=>by rw[y,hvd]at e;cases e) (s3 _ _ (fr x o n e)))
  ·rintro σ Hk ⟨o10,o11,o12,vis,kvs,rfl,vdk,lk',hv,nd,pk,vz,lsk,fr⟩
   obtain⟨sh,hb,bat,ss,tbl,ts⟩:=N.asks hi fun x o n _ e=>fr x o n e
   have sS:=sh.1;obtain⟨dS,fiS,sS⟩:=sS;refine⟨_,rfl,vd,kvs,rfl,.inl vdk,fun hn hhn=> ?_⟩;have s2:=aJ.new (o:=.dK kvs) hhn;have c2:upd Hk hn (.dK kvs) hn=some (.dK kvs):=aK
   generalize upd Hk hn (.dK kvs)=H2 at s2 c2|-
   have lts:t.ts.length=t.B.ord.length:=by rw[ok.lts,<- ok.hn,List.length_map]
   have all:∀z∈t.B.ord,∃v,vis z=some v:=fun z hz=>by
    cases e:vis z with
    |some v=>exact⟨v,rfl⟩
    |none=>
     have vk0:aO kvs (.inr z:aB)=none:=by rw[hv];exact e
     have:=List.Nodup.length_le_of_subset (l₁:=(.inr z:aB)::kvs.map (·.1)) (l₂:=t.B.ord.map fun y=>(.inr y:aB)) (List.nodup_cons.mpr ⟨tP vk0,nd⟩) fun x hx=>by
      rcases List.mem_cons.mp hx with rfl|hx
      ·exact List.mem_map.mpr ⟨z,hz,rfl⟩
      ·obtain⟨q',hq,rfl⟩:=List.mem_map.mp hx
       obtain⟨y,d,e1,e2,_⟩:=pk q' hq;exact List.mem_map.mpr ⟨y,e2,e1.symm⟩
     rw[List.length_cons,List.length_map,List.length_map,lk']at this;omega
   have vof:∀{z:Str} {v:V},vis z=some v->∃d,Pv K H2 v d:=fun{z v} e=>by
    have hm:=oV (show aO kvs (.inr z:aB)=some v by rw[hv];exact e);obtain⟨_,d,_,_,e3⟩:=pk _ hm;exact⟨d,e3.keep (bS.of s2)⟩
   refine⟨_,rfl,W.s,dS,_,rfl,s2 _ _ sS,cK,_,rfl,_,rfl,_,rfl,W.s,W.bd,W.ch,hn,cs,_,t.nm,p,t.B,t.ts,kvs,fun c=>(vis c.nm).getD .non,rfl,⟨⟨dS,fiS,s2 _ _ sS⟩,s2 _ _ sh.2.1,s2 _ _ sh.2.2⟩,by omega,ok.nl,hb,bat.same s2,ss,tbl.same s2,ts,hp,by omega,c2,⟨by rw[lts];exact lk',fun q' hq=> ?_,fun c hc=> ?_⟩,fun H3 fi' fd' lk3 c' Fr B3 l3 u3=> ?_⟩
   ·obtain⟨y,d,e1,e2,e3⟩:=pk q' hq
    refine⟨y,d,e1,?_,e3.keep (bS.of s2)⟩;rw[<- ok.hn]at e2;obtain⟨c,hc,e⟩:=List.mem_map.mp e2;obtain⟨l,hm⟩:=ok.mt c hc;exact List.mem_map.mpr ⟨_,hm,e⟩
   ·obtain⟨v,e⟩:=all _ (ok.tm c hc)
    rw[hv,e];rfl
   obtain⟨⟨dx3,f1⟩,f2,f3,⟨df3,f4⟩,f5,f6,f7,f8,f9,f10⟩:=Fr;obtain⟨o1,o2,o3,o4⟩:=N.out i t hi;obtain⟨dS0,sS0⟩:=N.sh;obtain⟨⟨dg,g0⟩,r0,e0⟩:=bat.tab
   have b_g:t.B.g∈t.base:=by simp[TB.base]
   have b_r:t.B.r∈t.base:=by simp[TB.base]
   have nhn:∀{x:Addr} {o:HO},Hk x=some o->x≠hn:=fun e y=>by rw[y,hhn]at e;cases e
   have nv0:∀{x:Addr} {o:HO},H x=some o->vd≠x:=fun e y=>by rw[<- y,hvd]at e;cases e
   have hn3:=u3 _ _ (nhn sS).symm (nhn sh.2.1).symm (nhn g0).symm (nhn r0).symm (fun c hc=>(nhn (tbl.lst c hc)).symm) c2;have vd3:=u3 _ _ (nv0 sS0) (nv0 N.ach) (nvd (inb b_g)).symm (nvd (inb b_r)).symm (fun c hc=>(nvd (inl (ok.ts_l hc))).symm) (s2 _ _ vdk);refine⟨rfl,_,rfl,bB ⟨_,rfl,_,rfl,hn,vd,kvs,rfl,rfl,.inl hn3,.inl vd3,fun q' hq=>⟨?_,jG nd hq⟩,_,rfl,bB ?_⟩⟩
   ·obtain⟨_,d,_,_,e3⟩:=pk q' hq
    rcases e3 with⟨j,e,_⟩|⟨b,y,e,_⟩<;>rw[e]<;>trivial
   refine⟨_,rfl,.inr (.inr (.inl ⟨rfl,.inl ⟨_,hn3⟩⟩)),hn,_,rfl,rfl,hn3,?_⟩;have b4:bI hn H3 (upd H3 hn (.dK [])):=fun x o n e=>by rw[aF n];exact e
   generalize upd H3 hn (.dK [])=H4 at b4|-
   have ne10:∀{i j:Nat} {x y:Addr},t.base[i]?=some x->t.base[j]?=some y->i≠j->x≠y:=fun h1 h2 h3=>cB nb1 h1 h2 h3
   have st3:∀{x:Addr} {o:HO},x∈t.base->x≠t.B.g->x≠t.B.r->H x=some o->H3 x=some o:=fun hx n1 n2 e=>u3 _ _ (fun y=>o1 (y▸inb hx)) (fun y=>o2 (y▸inb hx)) n1 n2 (fun c hc y=>nb3 _ hx _ (ok.ts_l hc) y) (s2 _ _ (fr _ _ (nbh hx) e))
   have bhn:∀{x:Addr},x∈t.base->x≠hn:=fun hx=>by
    obtain⟨o,e,_⟩:=ok.kind (inb hx);exact nhn (fr _ _ (nbh hx) e)
   have tl4:H4 t.tl=some (.lst [.ref t.ol,.ref t.hd,.int (t.B.xs.length:Int)]):=b4 _ _ (bhn b_tl) (st3 b_tl (ne10 (i:=7) (j:=1) rfl rfl (by decide)) (ne10 (i:=7) (j:=2) rfl rfl (by decide)) ok.atl);refine⟨_,rfl,_,_,rfl,rfl,_,rfl,t.tl,_,(2:Int),2,rfl,rfl,tl4,rfl,?_⟩;have b5:bI t.tl H4 (upd H4 t.tl (.lst ([V.ref t.ol,.ref t.hd,.int (t.B.xs.length:Int)].set 2 (.int ((t.B.xs.length:Int)+ 1))))):=fun x o n e=>by rw[aF n];exact e
   have tl5:upd H4 t.tl (.lst ([V.ref t.ol,.ref t.hd,.int (t.B.xs.length:Int)].set 2 (.int ((t.B.xs.length:Int)+ 1)))) t.tl=some (.lst [.ref t.ol,.ref t.hd,.int ((t.B.xs.length:Int)+ 1)]):=aK
   generalize upd H4 t.tl (.lst ([V.ref t.ol,.ref t.hd,.int (t.B.xs.length:Int)].set 2 (.int ((t.B.xs.length:Int)+ 1))))=H5 at b5 tl5|-
   have kk:∀{x:Addr} {o:HO},x≠hn->x≠t.tl->H3 x=some o->H5 x=some o:=fun n1 n2 e=>b5 _ _ n2 (b4 _ _ n1 e)
   have bb:∀{x:Addr} {o:HO},x∈t.base->x≠t.tl->H3 x=some o->H5 x=some o:=fun hx n e=>kk (bhn hx) n e
   have B5:bP CB CT H5 {t.B with xs:=cS t.B.xs p (.int t.B.n),n:=t.B.n+ 1}:=by
    obtain⟨⟨d1,b1⟩,⟨⟨d2,b2⟩,b3,b4'⟩,b5',b6',b7'⟩:=B3;exact⟨⟨d1,bb (x:=t.B.b) (by simp[TB.base]) (ne10 (i:=0) (j:=7) rfl rfl (by decide)) b1⟩,⟨⟨d2,bb (x:=t.B.g) b_g (ne10 (i:=1) (j:=7) rfl rfl (by decide)) b2⟩,bb (x:=t.B.r) b_r (ne10 (i:=2) (j:=7) rfl rfl (by decide)) b3,bb (x:=t.B.e) (by simp[TB.base]) (ne10 (i:=3) (j:=7) rfl rfl (by decide)) b4'⟩,bb (x:=t.B.ru) (by simp[TB.base]) (ne10 (i:=4) (j:=7) rfl rfl (by decide)) b5',bb (x:=t.B.me) (by simp[TB.base]) (ne10 (i:=5) (j:=7) rfl rfl (by decide)) b6',bb (x:=t.B.od) (by simp[TB.base]) (ne10 (i:=6) (j:=7) rfl rfl (by decide)) b7'⟩
   have ltl:∀{x:Addr},x∈t.lists->x≠t.tl:=fun hx y=>nb3 _ b_tl _ hx y.symm
   have lhn:∀c∈t.hs,c.l≠hn:=fun c hc=>nhn (lsk c hc)
   have aP:∀c∈t.ts,c.l≠hn:=fun c hc=>nhn (tbl.lst c hc)
   have fv:∀z∈t.B.ord,∀ys,gI vis p z ys=cS ys p ((vis z).getD .non):=fun z hz ys=>by
    obtain⟨v,e⟩:=all z hz;unfold gI;rw[e];rfl
   have hso:∀c∈t.hs,c.nm∈t.B.ord:=fun c hc=>by rw[<- ok.hn];exact List.mem_map.mpr ⟨c,hc,rfl⟩
   have kt5:bS H2 H5:=fun x xs e=>kk (fun y=>by rw[y,c2]at e;cases e) (fun y=>by rw[y,s2 _ _ (fr _ _ (nbh b_tl) ok.atl)]at e;cases e) (u3 _ _ (fun y=>by rw[y,s2 _ _ sS]at e;cases e) (fun y=>by rw[y,s2 _ _ sh.2.1]at e;cases e) (fun y=>by rw[y,s2 _ _ g0]at e;cases e) (fun y=>by rw[y,s2 _ _ r0]at e;cases e) (fun c hc y=>by rw[y,s2 _ _ (tbl.lst c hc)]at e;cases e) e)
   have ktk:bS H Hk:=fun x xs e=>fr _ _ (fun hm=>by
    obtain⟨c,hc,y⟩:=List.mem_map.mp hm;rw[<- y,ok.hl c hc]at e
    cases e) e
   have ok5:bZ K CB CT H5 (t.rows (gI vis p) (cS t.B.xs p (.int t.B.n)) (t.B.n+ 1)):=by
    refine ok.rows B5 (fun c hc=> ?_) (fun c hc=> ?_) ?_ (bb b_ol (ne10 (i:=8) (j:=7) rfl rfl (by decide)) (st3 b_ol (ne10 (i:=8) (j:=1) rfl rfl (by decide)) (ne10 (i:=8) (j:=2) rfl rfl (by decide)) ok.aol)) (bb b_hd (ne10 (i:=9) (j:=7) rfl rfl (by decide)) (st3 b_hd (ne10 (i:=9) (j:=1) rfl rfl (by decide)) (ne10 (i:=9) (j:=2) rfl rfl (by decide)) ok.ahd)) (fun c hc=> ?_) (fun c hc=> ?_) (by rw[mZ];omega)
    ·rw[fv _ (ok.tm c hc)]
     exact kk (aP c hc) (ltl (ok.ts_l hc)) (l3 c hc)
    ·exact kk (lhn c hc) (ltl (ok.hs_l hc)) (u3 _ _ (fun y=>o1 (y▸inl (ok.hs_l hc))) (fun y=>o2 (y▸inl (ok.hs_l hc))) (fun y=>nb3 _ b_g _ (ok.hs_l hc) y.symm) (fun y=>nb3 _ b_r _ (ok.hs_l hc) y.symm) (fun c' hc' y=>ok.lsn.2.2 _ (List.mem_map.mpr ⟨c',hc',rfl⟩) _ (List.mem_map.mpr ⟨c,hc,rfl⟩) y.symm) (s2 _ _ (lsk c hc)))
    ·rw[tl5,mZ]
     rfl
    ·rw[fv _ (ok.tm c hc),mZ,mZ,ok.tbl.len c hc]
    ·obtain⟨ds,pv⟩:=ok.pv c hc
     obtain⟨v,e⟩:=all _ (hso c hc);obtain⟨d,pd⟩:=vof e;refine⟨cS ds p d,?_⟩;rw[fv _ (hso c hc),e];exact zN (pd.keep kt5) p (((pv.keep ktk).keep (bS.of s2)).keep kt5)
   have fu:∀x o,x≠W.s->x≠W.ch->x∉t.foot->H x=some o->H5 x=some o:=fun x o n1 n2 n3 e=>by
    have ek:=fr x o (fun hm=>n3 (inl (inh hm))) e;exact kk (nhn ek) (fun y=>n3 (y▸inb b_tl)) (u3 _ _ n1 n2 (fun y=>n3 (y▸inb b_g)) (fun y=>n3 (y▸inb b_r)) (fun c hc y=>n3 (y▸inl (ok.ts_l hc))) (s2 _ _ ek))
   have n2o:∀{x:Addr},H2 x=none->x≠hn/\x≠t.tl:=fun e=>⟨fun y=>(by rw[y,c2]at e;cases e),fun y=>(by rw[y,s2 _ _ (fr _ _ (nbh b_tl) ok.atl)]at e;cases e)⟩
   obtain⟨x1,x2⟩:=n2o f8;obtain⟨w1,w2⟩:=n2o f9
   have fd0:H fd'=none:=by
    cases e:H fd' with
    |none=>rfl
    |some o=>
     by_cases hm:fd'∈t.hs.map (·.l)
     ·obtain⟨c,hc,y⟩:=List.mem_map.mp hm
      rw[<- y,s2 _ _ (lsk c hc)]at f9;cases f9
     ·rw[s2 _ _ (fr _ _ hm e)]at f9
      cases f9
   exact q H5 fi' fd' lk3 (cs++ [.ref c']) _ [] (N.chg hi ⟨dx3,kk (nhn sS) (fun y=>o1 (y▸inb b_tl)) f1⟩ (kk (nhn sh.2.1) (fun y=>o2 (y▸inb b_tl)) f2) ⟨df3,kk x1 x2 f4⟩ (kk w1 w2 f5) fd0 ok5 rfl rfl rfl (fun x hx=> .inl (by rw[oH]at hx;exact hx)) fu) rfl rfl (by rw[List.length_append];exact Nat.le_refl _) fu
end
theorem a2I{α:Type}{xs:List α}{x:α}(h:xs[i]?=some x):xs.set i x=xs:=by
 have:=oB (f:=id) h (y:=x) rfl;rw[List.map_id,List.map_id]at this;exact this
theorem cutP{G N:Prop}(h:N)(k:N->G):G:=k h
section
variable{α β:Type}{R:α->β->Prop}
theorem vL:∀{xs:List α} {ys:List β} (i:Nat),Paired R xs ys->Paired R (xs.eraseIdx i) (ys.eraseIdx i)
 |_,_,_,.nil=> .nil
 |_,_,0,.cons _ t=>t
 |_,_,i+ 1,.cons h t=> .cons h (vL i t)
theorem wQ{x:α}{y:β}(h:R x y):∀{xs:List α} {ys:List β} (i:Nat),Paired R xs ys->Paired R (xs.set i x) (ys.set i y)
 |_,_,_,.nil=> .nil
 |_,_,0,.cons _ t=> .cons h t
 |_,_,i+ 1,.cons h' t=> .cons h' (wQ h i t)
end
def lT(zs:List Str)(p:Nat):Str->List V->List V:=fun z ys=>if z∈zs then ys.eraseIdx p else ys
noncomputable def mJ (z:Str) (p:Nat) (v:V):Str->List V->List V:=fun y ys=>if y=z then ys.set p v else ys
theorem a4U:PyData.eqv (.list ((z::zs).map PyData.str)) (.list [])=false:=by
 simp[PyData.eqv,PyData.eqvAll]
section
variable{ae:Heap}
inductive vB(W:eI)(t:TB)(a:Addr)(ix m0:Int)(p:Nat)(H:Hp)(j:Nat)(σ:St)(Hk:Hp):Prop
 |mk (o10:Option V):σ= [some (.ref a),some (.int ix),some (.ref W.s),some (.str t.nm),some (.ref t.tl),some (.ref t.ol),some (.ref t.hd),some (.int (t.B.xs.length:Int)),some (.int m0),some (.int (p:Int)),o10] ->(∀c∈t.hs,Hk c.l=some (.lst (lT (t.B.ord.take j) p c.nm c.ys)))->(∀x o,x∉t.hs.map (·.l)->H x=some o->Hk x=some o)->vB W t a ix m0 p H j σ Hk
inductive uP(K:Fg)(CS CF CB CT:Addr)(vs:List V)(H:Hp)(Q:VK)(E:XK):Prop
 |mk (Hz:Hp) (W:eI) (tb:List TB) (fi fd lk:Addr) (kf:List (Ky×V)) (cs:List V) (i:Nat) (t:TB) (a:Addr) (sc:List Int) (ix:Int):vs= [.ref a,.int ix,.ref W.s,.str t.nm,.ref t.tl] ->bR K CS CF CB CT Hz W tb fi fd lk kf cs H->tb[i]?=some t->aN K Hz a (sc.map V.int)->sc.length<=63->0<=ix->ix<=900->cs.length<800->lF K CS CF CB CT Hz W tb cs i t H Q->uP K CS CF CB CT vs H Q E
abbrev Nch:List Str:=["_law_script","_law_at","_law_sheet","_law_name","_law_tab","_law_order","_law_held","_law_many","_law_kind","_law_place","_law_column"]
theorem iZ:aX Nch ["_law_script","_law_at","_law_sheet","_law_name","_law_tab"] (aR a0i):={}
theorem a08(T:aW K mg){CI CO CV:Addr}(Y:dE K mg CS)(F:dZ K mg CF)(Wb:cF K mg CB)(U:bX K mg CT)(C:jH K mg CC)(PI:lN K mg CI)(TO:lY K mg CO)(VP:nH K mg CV):bA P w K mg ae aD 11 "_law_change" ["_law_script","_law_at","_law_sheet","_law_name","_law_tab"] (uP K CS CF CB CT):=by
 have G_mixed:bA P w K mg ae aD 1 "_law_mixed" ["_law_script","_law_k"] (lG K):=rR T;have G_value:bA P w K mg ae aD 1 "_law_value" ["_law_cell"] (kT K):=sK T;have G_given:bA P w K mg ae aD 10 "_law_given" ["_law_script","_law_at","_law_sheet","_law_name","_law_tab"] (uD K CS CF CB CT):=a31 T Y F Wb U C;have G_pin:bA P w K mg ae aD 10 "_law_put_in" ["_law_script","_law_at","_law_sheet","_law_name","_law_tab"] (uO K CS CF CB CT):=a3L T Y F Wb U PI;have G_out:aL P w K mg ae aD 9 CS "take_out" ["self","table","place"] (qR CS CF CB CT):=a5k T Y F Wb U TO;have G_put:aL P w K mg ae aD 9 CS "put" ["self","table","column","place","value"] (uR K CS CF CB CT):=a2c T Y F Wb U VP;refine T.d_law_change.known iZ (fun _ _ _ _ _ _ us hl=>lA (fun _ _ _ _ _=>rfl) us hl) (fun vs H Q E h=> ?_) (fun f ag A af s H vs Q E hr h=> ?_)
 ·obtain⟨Hz,W,tb,fi,fd,lk,kf,cs,i,t,a,sc,ix,rfl,_⟩:=h
  rfl
 ·obtain⟨Hz,W,tb,fi,fd,lk,kf,cs,i,t,a,sc,ix,rfl,N,hi,hS,hl,i0,i1,c8,q⟩:=h
  have hu:=cR hr
  refine⟨_,(aG (jB (pv 4) (nW rfl (fP (dF (i:=5) iZ.nd rfl (.inl rfl)) (fP (dF (i:=6) iZ.nd rfl (.inl rfl)) (fP (dF (i:=7) iZ.nd rfl (.inl rfl)) lS)))))
   (aG (cN (i:=8) iZ.nd rfl (Or.inl rfl) (aY dD (bJ G_mixed hr.mn aI (aA (pv 0) (aA (pv 1) aE))) aT))
   (aG (bF (PW.pt (dO (bW mE (pv 8) aT (cC _)) (eM (bW (tT hr.units) (pv 5) (hG aE) (cC _))))) (aH (bM (bJ G_given hr aI (aA (pv 0) (aA (aY cW (pv 1) aT) (aA (pv 2) (aA (pv 3) (aA (pv 4) aE)))))))) bN)
   (aG (bF (PW.pt (mS (bW mE (pv 8) aT (cC _)) (lV (bW mE (pv 7) aT (cC _))))) (aH (bM (bJ G_pin hr aI (aA (pv 0) (aA (aY cW (pv 1) aT) (aA (pv 2) (aA (pv 3) (aA (pv 4) aE)))))))) bN)
   (aG (bF (bW mY (pv 7) aT (cC _)) (aH (bM fA)) bN)
   (aG (cN (i:=9) iZ.nd rfl (Or.inl rfl) (aY dD (bJ G_mixed hr.mn aI (aA (pv 0) (aA (aY cW (pv 1) aT) aE))) (pv 7)))
   (aG (bF (bW mY (pv 8) aT (cC _)) (aG (hW PassesOwn.never rfl (mQ (pv 5)) (dF (i:=10) iZ.nd rfl (Or.inl rfl)) (aH (bL (gR PySem.F.plainAttrs_list PySem.F.slot_list_pop PySem.F.type_list_pop qU (eN hu (pv 6) (pv 10) (fun _ _=>rfl)) (aA (pv 9) aE)))))
    (aG (jB (aY pZ (pv 7) aT) (oA (pv 4) aT qD (fun _=>rfl)))
    (aH (bM (iV nM (bG (pv 2) Y.cl G_out hr.mn aI (aA (pv 3) (aA (pv 9) aE))) fM (cC _)))))) bN)
   (aG (cN (i:=10) iZ.nd rfl (Or.inl rfl) (dH eQ (pv 5) (aY dD (bJ G_mixed hr.mn aI (aA (pv 0) (aA (aY cW (pv 1) aT) aE))) (cA eW rfl T.len dY (aA (pv 5) aE))) (fun _ _=>rfl)))
   (aG (jB (bJ G_value hr.mn aI (aA (bJ G_mixed hr.mn aI (aA (pv 0) (aA (aY cW (pv 1) aT) aE))) aE)) (oA (eN hu (pv 6) (pv 10) (fun _ _=>rfl)) (pv 9) qD (fun _=>rfl)))
   (aH (bM (iV nM (bG (pv 2) Y.cl G_put hr.mn aI (aA (pv 3) (aA (pv 10) (aA (pv 9) (aA (dH eQ (eN hu (pv 6) (pv 10) (fun _ _=>rfl)) (pv 9) (fun _ _=>rfl)) aE))))) fM (cC _))))))))))))),?_⟩
  have ok:=N.ok i t hi;obtain⟨nb1,nb2,nb3⟩:=ok.ndb;have six:=ok.six;refine⟨_,rfl,t.tl,_,rfl,aN.of ok.atl,rfl,_,_,rfl,_,_,rfl,_,_,rfl,rfl,?_⟩;refine⟨_,rfl,_,rfl,a,sc,_,rfl,N.old.seq hS,hl,i0,by omega,fun m0 _ _=>⟨_,_,rfl,rfl,(show(0:Int)<7 by decide),?_⟩⟩;have cg:∀{H1:Hp},aJ H H1->∀{Q':VK},lF K CS CF CB CT Hz W tb cs i t H1 Q'↔lF K CS CF CB CT Hz W tb cs i t H1 Q':=fun _=>Iff.rfl
  have q1:∀{H1:Hp},aJ H H1->lF K CS CF CB CT Hz W tb cs i t H1 Q:=fun s1 H' fi' fd' lk' cs' t' kf' n1 n2 n3 n4 n6=>q H' fi' fd' lk' cs' t' kf' n1 n2 n3 n4 fun x o h1 h2 h3 e=>n6 x o h1 h2 h3 (s1 _ _ e)
  refine⟨_,rfl,_,_,rfl,rfl,_,rfl,?_⟩;refine dX (fun _=>cZ ⟨_,rfl,_,rfl,_,_,rfl,rfl,_,rfl,_,rfl,_,rfl,Hz,W,tb,fi,fd,lk,kf,cs,i,t,a,sc,_,rfl,N,hi,hS,hl,by omega,by omega,c8,q⟩) (fun k3=> ?_);refine⟨_,rfl,sl,fun l0 hl0=> ?_⟩;have s1:=aJ.new (o:=.lst []) hl0;have c1:upd H l0 (.lst []) l0=some (.lst []):=aK
  generalize upd H l0 (.lst [])=H1 at s1 c1|-
  have N1:=N.same s1;have ok1:=N1.ok i t hi;have ordN:∀z∈t.B.ord,Nl z:=fun z hz=>sT z (ok.n8 z hz)
  obtain⟨dn,n1,n2,n3,n4⟩:=sQ (K:=K) ordN;have lay:(PyData.list (t.B.ord.map PyData.str)).canLay0=true:=tK ordN;refine⟨.list (t.B.ord.map PyData.str),.list [],.lst (aN.of ok1.aol) (uC _),.lst (aN.of c1) .nil,lay,rfl,a0v _,_,rfl,?_⟩
  cases eo:t.B.ord with
  |nil=>
   refine cZ ⟨_,rfl,_,rfl,_,_,rfl,rfl,_,rfl,_,rfl,_,rfl,Hz,W,tb,fi,fd,lk,kf,cs,i,t,a,sc,_,rfl,N1,hi,hS,hl,by omega,by omega,c8,q1 s1⟩
  |cons z0 zs0=>
   rw[a4U];refine bB ?_
   have opos:0<t.B.ord.length:=by rw[eo];exact Nat.succ_pos _
   clear eo;have dec:∀i j:Int,decide (V.int i=V.int j)=true↔i=j:=fun i j=>by rw[decide_eq_true_eq];exact⟨fun h=>V.int.inj h,fun h=>by rw[h]⟩
   refine⟨_,rfl,_,_,rfl,rfl,_,rfl,?_⟩;refine cutP ?dU (fun tl=>mB (fun _=>bB tl) (fun _=>⟨_,rfl,_,_,rfl,rfl,_,rfl,mB (fun _=>tl) (fun h6=>⟨_,rfl,_,rfl,_,_,rfl,rfl,_,rfl,_,rfl,_,rfl,Hz,W,tb,fi,fd,lk,kf,cs,i,t,a,sc,_,rfl,N1,hi,hS,hl,by omega,by omega,c8,?_,q1 s1⟩)⟩))
   case dU=>
    refine⟨_,rfl,rfl,_,rfl,?_⟩;refine mB (fun hm0=> ?_) (fun _=>q1 s1 H1 fi fd lk cs t kf (by rw[a2I hi];exact N1) rfl rfl (Nat.le_succ _) (fun x o _ _ _ e=>e))
    have xpos:0<t.B.xs.length:=by
     have:¬(t.B.xs.length:Int)=0:=fun y=>hm0 ((dec _ 0).mpr y)
     omega
    refine⟨_,rfl,_,rfl,_,_,rfl,rfl,a,sc,_,rfl,N1.old.seq hS,hl,by omega,by omega,fun m1 _ _=>⟨_,rfl,_,_,rfl,rfl,by omega,?_⟩⟩;have f1:=Int.emod_nonneg m1 (show(t.B.xs.length:Int)≠0 by omega);have f2:=Int.emod_lt_of_pos m1 (show(0:Int)<(t.B.xs.length:Int)by omega);obtain⟨p,hp'⟩:∃p:Nat,m1% (t.B.xs.length:Int)=(p:Int):=⟨(m1% (t.B.xs.length:Int)).toNat,by omega⟩
    have hp:p<t.B.xs.length:=by omega
    dsimp only;rw[hp'];have inh:∀{x:Addr},x∈t.hs.map (·.l)->x∈t.lists:=fun hx=>List.mem_append_right _ hx
    have inl:∀{x:Addr},x∈t.lists->x∈t.foot:=fun hx=>by rw[TB.foot_eq];exact List.mem_append_right _ hx
    have inb:∀{x:Addr},x∈t.base->x∈t.foot:=fun hx=>by rw[TB.foot_eq];exact List.mem_append_left _ hx
    have nbh:∀{x:Addr},x∈t.base->x∉t.hs.map (·.l):=fun hx hm=>nb3 _ hx _ (inh hm) rfl
    have b_ol:t.ol∈t.base:=by simp[TB.base]
    have b_hd:t.hd∈t.base:=by simp[TB.base]
    have b_tl:t.tl∈t.base:=by simp[TB.base]
    have b_r:t.B.r∈t.base:=by simp[TB.base]
    have ne10:∀{i j:Nat} {x y:Addr},t.base[i]?=some x->t.base[j]?=some y->i≠j->x≠y:=fun h1 h2 h3=>cB nb1 h1 h2 h3
    have hvh:∀c∈t.hs,aO (tk t.hs) (.inr c.nm:aB)=some (.ref c.l):=fun c hc=>jG (kv:=((.inr c.nm:aB),V.ref c.l)) (kX (by rw[ok.hn];exact ok.ond)) (List.mem_map.mpr ⟨c,hc,rfl⟩)
    have lcy:∀c∈t.hs,c.ys.length=t.B.xs.length:=fun c hc=>by
     obtain⟨l,g,_⟩:=ok.gv hc;exact g.ly
    obtain⟨o1,o2,o3,o4⟩:=N1.out i t hi;refine⟨_,rfl,rfl,_,rfl,?_⟩;refine mB (fun _=> ?put) (fun _=> ?out)
    case out=>
     refine⟨_,rfl,t.ol,rfl,⟨_,aN.of ok1.aol⟩,?_⟩;refine qC (K:=K) (a:=t.ol) (xs:=t.B.ord.map V.str) (fun j σ H6=>vB W t a ix (m0% 7) p H1 j σ H6) ⟨_,rfl,fun c hc=> ?_,fun x o _ e=>e⟩ (fun j σ H6 _ h=>by obtain⟨_,_,_,fr⟩:=h;exact aN.of (fr _ _ (nbh b_ol) ok1.aol)) ?_ ?_
     ·show H1 c.l=some (.lst (if c.nm∈([]:List Str) then _ else c.ys))
      rw[if_neg (by simp)];exact ok1.hl c hc
     ·rintro j x σ H6 hx ⟨o10,rfl,ls,fr⟩
      obtain⟨c,hcj,rfl⟩:∃c,t.hs[j]?=some c/\x= .str c.nm:=by
       rw[<- ok.hn,List.map_map,List.getElem?_map]at hx
       cases e:t.hs[j]? with
       |none=>rw[e]at hx;cases hx
       |some c=>rw[e]at hx;exact⟨c,rfl,(Option.some.inj hx).symm⟩
      have hc:=List.mem_of_getElem? hcj
      have oj:t.B.ord[j]?=some c.nm:=by rw[<- ok.hn,List.getElem?_map,hcj];rfl
      have nj:c.nm∉t.B.ord.take j:=fun hm=>by
       obtain⟨k,hk⟩:=List.getElem?_of_mem hm
       have kl:k<j:=by
        have:=(List.getElem?_eq_some_iff.mp hk).1;rw[List.length_take]at this;omega
       rw[List.getElem?_take_of_lt kl]at hk;exact cB ok.ond hk oj (by omega) rfl
      have lc:H6 c.l=some (.lst c.ys):=by
       have:=ls c hc;unfold lT at this;rw[if_neg nj]at this;exact this
      have hy:c.ys[p]?=some (c.ys[p]'(by have:=lcy c hc;omega)):=List.getElem?_eq_getElem _;have ll:=lcy c hc;refine⟨_,rfl,_,rfl,t.hd,.ref c.l,rfl,hvh c hc▸cG.k (k:=Sum.inr c.nm) (fr _ _ (nbh b_hd) ok1.ahd),.inl ⟨rfl,_,aN.of lc⟩,_,rfl,c.l,_,(p:Int),p,_,rfl,rfl,lc,by omega,by omega,(by have:=seqIndex_of (k:=(p:Int)) (n:=c.ys.length) (by omega) (by omega);simpa using this),hy,?_⟩;have b7:bI c.l H6 (upd H6 c.l (.lst (c.ys.eraseIdx p))):=fun x o n e=>by rw[aF n];exact e
      have l7:upd H6 c.l (.lst (c.ys.eraseIdx p)) c.l=some (.lst (c.ys.eraseIdx p)):=aK
      generalize upd H6 c.l (.lst (c.ys.eraseIdx p))=H7 at b7 l7|-
      have tk1:t.B.ord.take (j+ 1)=t.B.ord.take j++ [c.nm]:=by rw[List.take_add_one,oj];rfl
      refine⟨_,rfl,fun c' hc'=> ?_,fun x o n e=>b7 _ _ (fun y=>n (y▸List.mem_map.mpr ⟨c,hc,rfl⟩)) (fr x o n e)⟩;unfold lT;rw[tk1];by_cases e:c'.nm=c.nm
      ·have:=gJ (by rw[ok.hn];exact ok.ond) hc' hc e
       subst this;rw[if_pos (by simp)];exact l7
      ·have e7:=b7 _ _ (fun y=>e (by rw[gJ ok.lsn.2.1 hc' hc y])) (ls c' hc')
       unfold lT at e7;by_cases hm:c'.nm∈t.B.ord.take j
       ·rw[if_pos hm]at e7
        rw[if_pos (List.mem_append_left _ hm)];exact e7
       ·rw[if_neg hm]at e7
        rw[if_neg (fun h=>(List.mem_append.mp h).elim hm fun h=>e (List.mem_singleton.mp h))];exact e7
     ·rintro σ H6 ⟨o10,rfl,ls,fr⟩
      have ls:∀c∈t.hs,H6 c.l=some (.lst (c.ys.eraseIdx p)):=fun c hc=>by
       have:=ls c hc;unfold lT at this;rw[List.length_map,List.take_length,if_pos (by rw[<- ok.hn];exact List.mem_map.mpr ⟨c,hc,rfl⟩)]at this;exact this
      have tl6:=fr _ _ (nbh b_tl) ok1.atl;refine⟨_,rfl,_,_,rfl,rfl,_,rfl,t.tl,_,(2:Int),2,rfl,rfl,tl6,rfl,?_⟩;have b7:bI t.tl H6 (upd H6 t.tl (.lst ([V.ref t.ol,.ref t.hd,.int (t.B.xs.length:Int)].set 2 (.int ((t.B.xs.length:Int)- 1))))):=fun x o n e=>by rw[aF n];exact e
      have tl7:upd H6 t.tl (.lst ([V.ref t.ol,.ref t.hd,.int (t.B.xs.length:Int)].set 2 (.int ((t.B.xs.length:Int)- 1)))) t.tl=some (.lst [.ref t.ol,.ref t.hd,.int ((t.B.xs.length:Int)- 1)]):=aK
      generalize upd H6 t.tl (.lst ([V.ref t.ol,.ref t.hd,.int (t.B.xs.length:Int)].set 2 (.int ((t.B.xs.length:Int)- 1))))=H7 at b7 tl7|-
      have u7:∀x o,x∉t.hs.map (·.l)->x≠t.tl->H1 x=some o->H7 x=some o:=fun x o n1 n2 e=>b7 _ _ n2 (fr x o n1 e)
      obtain⟨sh,hb,bat,ss,tbl,ts⟩:=N1.asks hi u7;obtain⟨⟨dS,fiS,sS⟩,sch,sbd⟩:=id sh;refine⟨_,rfl,W.s,dS,_,rfl,sS,cK,_,rfl,_,rfl,W.s,W.bd,W.ch,cs,_,t.nm,p,t.B,t.ts,rfl,sh,by omega,ok.nl,hb,bat,ss,tbl,ts,hp,by omega,fun H8 fi' fd' lk' c' Fr B8 l8 u8=>⟨rfl,?_⟩⟩;show Q (.bl true) H8;obtain⟨⟨dx8,f1⟩,f2,f3,⟨df8,f4⟩,f5,f6,f7,f8,f9,f10⟩:=Fr;have st:∀{x:Addr} {o:HO},x∈t.base->x≠t.B.r->x≠t.tl->H1 x=some o->H8 x=some o:=fun hx n1 n2 e=>u8 _ _ (fun y=>o1 (y▸inb hx)) (fun y=>o2 (y▸inb hx)) n1 (fun c hc y=>nb3 _ hx _ (ok.ts_l hc) y) (u7 _ _ (nbh hx) n2 e)
      have kt:bS H1 H8:=fun x xs e=>by
       have e7:=u7 x _ (fun hm=>by
        obtain⟨c,hc,y⟩:=List.mem_map.mp hm;rw[<- y,ok1.hl c hc]at e
        cases e) (fun y=>by rw[y,ok1.atl]at e;cases e) e
       exact u8 _ _ (fun y=>by rw[y,sS]at e7;cases e7) (fun y=>by rw[y,sch]at e7;cases e7) (fun y=>by rw[y,bat.tab.rows]at e7;cases e7) (fun c hc y=>by rw[y,tbl.lst c hc]at e7;cases e7) e7
      have lx:(t.B.xs.eraseIdx p).length=t.B.xs.length- 1:=by rw[List.length_eraseIdx,if_pos hp]
      have ok8:bZ K CB CT H8 (t.rows (fun _ ys=>ys.eraseIdx p) (t.B.xs.eraseIdx p) t.B.n):=by
       refine ok1.rows B8 (fun c hc=>l8 c hc) (fun c hc=> ?_) ?_ (st b_ol (ne10 (i:=8) (j:=2) rfl rfl (by decide)) (ne10 (i:=8) (j:=7) rfl rfl (by decide)) ok1.aol) (st b_hd (ne10 (i:=9) (j:=2) rfl rfl (by decide)) (ne10 (i:=9) (j:=7) rfl rfl (by decide)) ok1.ahd) (fun c hc=> ?_) (fun c hc=> ?_) (by rw[lx];omega)
       ·exact u8 _ _ (fun y=>o1 (y▸inl (ok.hs_l hc))) (fun y=>o2 (y▸inl (ok.hs_l hc))) (fun y=>nb3 _ b_r _ (ok.hs_l hc) y.symm) (fun c' hc' y=>ok.lsn.2.2 _ (List.mem_map.mpr ⟨c',hc',rfl⟩) _ (List.mem_map.mpr ⟨c,hc,rfl⟩) y.symm) (b7 _ _ (fun y=>nb3 _ b_tl _ (ok.hs_l hc) y.symm) (ls c hc))
       ·rw[lx,show((t.B.xs.length- 1:Nat):Int)=(t.B.xs.length:Int)- 1 by omega]
        exact u8 _ _ (fun y=>o1 (y▸inb b_tl)) (fun y=>o2 (y▸inb b_tl)) (ne10 (i:=7) (j:=2) rfl rfl (by decide)) (fun c hc y=>nb3 _ b_tl _ (ok.ts_l hc) y) tl7
       ·show(c.ys.eraseIdx p).length=_
        have:=ok.tbl.len c hc;rw[lx,List.length_eraseIdx,if_pos (by omega),this]
       ·obtain⟨ds,pv⟩:=ok1.pv c hc
        exact⟨ds.eraseIdx p,vL p (dC.keep kt pv)⟩
      have fu:∀x o,x≠W.s->x≠W.ch->x∉t.foot->H1 x=some o->H8 x=some o:=fun x o n1 n2 n3 e=>u8 _ _ n1 n2 (fun y=>n3 (y▸inb b_r)) (fun c hc y=>n3 (y▸inl (ok.ts_l hc))) (u7 _ _ (fun hm=>n3 (inl (inh hm))) (fun y=>n3 (y▸inb b_tl)) e)
      have fd0:H1 fd'=none:=by
       cases e:H1 fd' with
       |none=>rfl
       |some o=>
        by_cases hm:fd'∈t.hs.map (·.l)
        ·obtain⟨c,hc,y⟩:=List.mem_map.mp hm
         rw[<- y,b7 _ _ (fun y=>nb3 _ b_tl _ (ok.hs_l hc) y.symm) (ls c hc)]at f9;cases f9
        ·by_cases hm2:fd'=t.tl
         ·rw[hm2,tl7]at f9
          cases f9
         ·rw[u7 _ _ hm hm2 e]at f9
          cases f9
      exact q1 s1 H8 fi' fd' lk' (cs++ [.ref c']) _ [] (N1.chg hi ⟨dx8,f1⟩ f2 ⟨df8,f4⟩ f5 fd0 ok8 rfl rfl rfl (fun x hx=> .inl (by rw[oH]at hx;exact hx)) fu) rfl rfl (by rw[List.length_append];exact Nat.le_refl _) fu
    case put=>
     have npos:(0:Int)<(t.B.ord.length:Int):=by omega
     refine⟨_,rfl,_,rfl,_,rfl,_,_,rfl,rfl,a,sc,_,rfl,N1.old.seq hS,hl,by omega,by omega,fun m2 _ _=> ?_⟩;obtain⟨z,hz,az⟩:=vH (zs:=t.B.ord) (Int.emod_nonneg m2 (Int.ne_of_gt npos)) (Int.emod_lt_of_pos m2 npos);obtain⟨c,hc,rfl⟩:=List.mem_map.mp (show z∈t.hs.map (·.nm)by rw[ok.hn];exact hz);refine⟨_,rfl,_,_,rfl,.inl ⟨_,aN.of ok1.aol,rfl⟩,_,_,rfl,rfl,by rw[List.length_map];exact npos,t.ol,_,_,.str c.nm,rfl,rfl,aN.of ok1.aol,by rw[List.length_map];exact az,?_⟩;refine⟨_,rfl,_,rfl,_,_,rfl,rfl,a,sc,_,rfl,N1.old.seq hS,hl,by omega,by omega,fun m3 _ _=>⟨m3,rfl,fun H2 v d s2 hv=> ?_⟩⟩;have N2:=N1.same s2;have ok2:=N2.ok i t hi;have ll:=lcy c hc;refine⟨_,rfl,_,rfl,t.hd,.ref c.l,rfl,hvh c hc▸cG.k (k:=Sum.inr c.nm) ok2.ahd,_,rfl,c.l,c.ys,(p:Int),p,rfl,rfl,ok2.hl c hc,by rw[uQ (by omega) (by omega),Int.toNat_natCast],?_⟩;have b3:bI c.l H2 (upd H2 c.l (.lst (c.ys.set p v))):=fun x o n e=>by rw[aF n];exact e
     have l3:upd H2 c.l (.lst (c.ys.set p v)) c.l=some (.lst (c.ys.set p v)):=aK
     generalize upd H2 c.l (.lst (c.ys.set p v))=H3 at b3 l3|-
     have u3:∀x o,x∉t.hs.map (·.l)->x≠t.tl->H2 x=some o->H3 x=some o:=fun x o n1 _ e=>b3 _ _ (fun y=>n1 (y▸List.mem_map.mpr ⟨c,hc,rfl⟩)) e
     obtain⟨sh,hb,bat,ss,tbl,ts⟩:=N2.asks hi u3;obtain⟨⟨dS,fiS,sS⟩,sch,sbd⟩:=id sh;have hd3:H3 t.hd=some (.dK (tk t.hs)):=b3 _ _ (fun y=>nb3 _ b_hd _ (ok.hs_l hc) y) ok2.ahd;have kt3:bS H2 H3:=fun x xs e=>b3 _ _ (fun y=>by rw[y,ok2.hl c hc]at e;cases e) e
     obtain⟨l,g,hlm⟩:=ok2.gv hc;have av:bV (c.ys.set p v) (p:Int)=some v:=iC (List.getElem?_set_self (by omega));have hlm':=ok.ts_l hlm
     have b_od:t.B.od∈t.base:=by simp[TB.base]
     refine⟨_,rfl,W.s,dS,_,rfl,sS,cK,_,rfl,_,rfl,_,rfl,_,rfl,_,rfl,t.hd,.ref c.l,rfl,hvh c hc▸cG.k (k:=Sum.inr c.nm) hd3,_,rfl,c.l,_,_,v,rfl,rfl,aN.of l3,av,W.s,W.bd,W.ch,l,cs,_,t.nm,c.nm,p,v,d,c.ys,t.B,rfl,sh,by omega,ok.nl,hb,bat,ss,g.nl,g.od,g.ru,g.kv,tbl.lst ⟨c.nm,l,c.ys⟩ hlm,hp,ll,hv.keep kt3,ts.ch ⟨c.nm,l,c.ys⟩ hlm,tbl.apr ⟨c.nm,l,c.ys⟩ hlm,ts.od ⟨c.nm,l,c.ys⟩ hlm,fun H4 fi' fd' lk' c' Fr B4 l4 u4=>⟨rfl,?_⟩⟩;show Q (.bl true) H4;obtain⟨⟨dx4,f1⟩,f2,f3,⟨df4,f4⟩,f5,f6,f7,f8,f9,f10⟩:=Fr;have s12:=s1.trans s2;have st:∀{x:Addr} {o:HO},x∈t.base->H2 x=some o->H4 x=some o:=fun hx e=>u4 _ _ (fun y=>o1 (y▸inb hx)) (fun y=>o2 (y▸inb hx)) (fun y=>nb3 _ hx _ hlm' y) (b3 _ _ (fun y=>nb3 _ hx _ (ok.hs_l hc) y) e)
     have kt:bS H2 H4:=fun x xs e=>by
      have e3:=kt3 _ _ e;exact u4 _ _ (fun y=>by rw[y,sS]at e3;cases e3) (fun y=>by rw[y,sch]at e3;cases e3) (fun y=>by rw[y,tbl.lst ⟨c.nm,l,c.ys⟩ hlm]at e3;cases e3) e3
     have oh:∀c'∈t.hs,∀{o:HO},H3 c'.l=some o->H4 c'.l=some o:=fun c' hc' o e=>u4 _ _ (fun y=>o1 (y▸inl (ok.hs_l hc'))) (fun y=>o2 (y▸inl (ok.hs_l hc'))) (fun y=>ok.lsn.2.2 _ (List.mem_map.mpr ⟨_,hlm,rfl⟩) _ (List.mem_map.mpr ⟨c',hc',rfl⟩) y.symm) e
     have ok4:bZ K CB CT H4 (t.rows (mJ c.nm p v) t.B.xs t.B.n):=by
      refine ok2.rows B4 (fun c1 h1=> ?_) (fun c1 h1=> ?_) (st b_tl ok2.atl) (st b_ol ok2.aol) (st b_hd ok2.ahd) (fun c1 h1=> ?_) (fun c1 h1=> ?_) six
      ·unfold mJ
       by_cases e:c1.nm=c.nm
       ·have:=gJ ok.tbl.nod h1 hlm e
        subst this;rw[if_pos rfl];exact l4
       ·rw[if_neg e]
        refine u4 _ _ (fun y=>o1 (y▸inl (ok.ts_l h1))) (fun y=>o2 (y▸inl (ok.ts_l h1))) (fun y=>e ?_) (tbl.lst c1 h1);rw[gJ ok.tbl.apt h1 hlm y]
      ·unfold mJ
       by_cases e:c1.nm=c.nm
       ·have:=gJ (by rw[ok.hn];exact ok.ond) h1 hc e
        subst this;rw[if_pos rfl];exact oh c1 h1 l3
       ·rw[if_neg e]
        exact oh c1 h1 (b3 _ _ (fun y=>e (by rw[gJ ok.lsn.2.1 h1 hc y])) (ok2.hl c1 h1))
      ·unfold mJ
       have:=ok.tbl.len c1 h1;by_cases e:c1.nm=c.nm
       ·rw[if_pos e,List.length_set,this]
       ·rw[if_neg e,this]
      ·obtain⟨ds,pv⟩:=ok2.pv c1 h1
       unfold mJ;by_cases e:c1.nm=c.nm
       ·rw[if_pos e]
        exact⟨ds.set p d,wQ (hv.keep kt) p (dC.keep kt pv)⟩
       ·rw[if_neg e]
        exact⟨ds,pv.keep kt⟩
     have fu:∀x o,x≠W.s->x≠W.ch->x∉t.foot->H2 x=some o->H4 x=some o:=fun x o n1 n2 n3 e=>u4 _ _ n1 n2 (fun y=>n3 (y▸inl hlm')) (b3 _ _ (fun y=>n3 (y▸inl (ok.hs_l hc))) e)
     have fd0:H2 fd'=none:=by
      cases e:H2 fd' with
      |none=>rfl
      |some o=>
       by_cases hm:fd'=c.l
       ·rw[hm,l3]at f9
        cases f9
       ·rw[b3 _ _ hm e]at f9
        cases f9
     exact q1 s12 H4 fi' fd' lk' (cs++ [.ref c']) _ [] (N2.chg hi ⟨dx4,f1⟩ f2 ⟨df4,f4⟩ f5 fd0 ok4 rfl rfl rfl (fun x hx=> .inl (by rw[oH]at hx;exact hx)) fu) rfl rfl (by rw[List.length_append];exact Nat.le_refl _) fu
   ·have h6:(t.B.xs.length:Int)<6:=of_decide_eq_true h6
    omega
end
section
variable{W:eI}{tb:List TB}
theorem kQ{α:Type}{xs:List α}{x y:α}(h:(xs++ [x])[i]?=some y):xs[i]?=some y\/ (i=xs.length/\y=x):=by
 rw[List.getElem?_append]at h;by_cases hi:i<xs.length
 ·rw[if_pos hi]at h
  exact .inl h
 ·rw[if_neg hi]at h
  cases e:i- xs.length with
  |zero=>rw[e]at h;exact .inr ⟨by omega,(Option.some.inj h).symm⟩
  |succ n=>rw[e]at h;cases h
theorem bR.tell(N:bR K CS CF CB CT Hz W tb fi fd lk kf cs H)(l4:tb.length<4)(nn:t.nm∉tb.map (·.nm)){fi' fd' lk':Addr}{cs':List V}(hs:∃dx,H' W.s=some (.ins CS dx (cQ W.bd W.ch fi')))(hc:H' W.ch=some (.lst cs'))(hb:H' W.bd=some (.dK ((tb++ [t]).map fun t=>((.inr t.nm:aB),V.ref t.B.b))))(htd:∃o,H' W.td=some o/\(∀y,o≠ .dT y)/\(∀y,o≠ .lst y)/\(∀a b c,o≠ .ins a b c)/\∀y,o≠ .tup y)(hf:∃df,H' fi'=some (.ins CF df (eT W.bd fd' lk')))(hd:H' fd'=some (.dT []))(hd0:H fd'=none)(ok':bZ K CB CT H' t)(ft:∀x∈t.foot,H x=none)
 (zb:Hz W.bd=none)(u:∀x o,x≠W.s->x≠W.ch->x≠W.bd->x≠W.td->H x=some o->H' x=some o):bR K CS CF CB CT Hz W (tb++ [t]) fi' fd' lk' [] cs' H':=by
 obtain⟨dx,sh⟩:=N.sh;obtain⟨otd,etd,t1,t2,t3,t4⟩:=N.atd;have kt:bS H H':=fun x xs e=>u _ _ (fun y=>by rw[y,sh]at e;cases e) (fun y=>by rw[y,N.ach]at e;cases e) (fun y=>by rw[y,N.abd]at e;cases e) (fun y=>by rw[y,etd]at e;exact t4 _ (Option.some.inj e)) e
 have nf:∀{x:Addr} {o:HO},H x=some o->x∉t.foot:=fun e hx=>by rw[ft _ hx]at e;cases e
 refine⟨hs,hc,hb,htd,hf,hd,fun i t2 h=> ?_,?_,fun i t2 h=> ?_,fun i j t2 t3 h1 h2 ne=> ?_,fun t2 ht2 c hc' p v e=>(by cases e),N.ntb,by rw[List.length_append];show tb.length+ 1<=4;omega,eO.nil,fun x o e=> ?_,⟨N.zs.1,N.zs.2.1,N.zs.2.2.1,dA N.old hd0⟩,fun i t2 h=> ?_⟩
 ·rcases kQ h with h|⟨_,rfl⟩
  ·obtain⟨p1,p2,p3,p4⟩:=N.out i t2 h
   exact(N.ok i t2 h).mv (fun x o hx e=>u _ _ (fun y=>p1 (y▸hx)) (fun y=>p2 (y▸hx)) (fun y=>p3 (y▸hx)) (fun y=>p4 (y▸hx)) e) kt
  ·exact ok'
 ·rw[List.map_append]
  exact iW N.nms nn
 ·rcases kQ h with h|⟨_,rfl⟩
  ·exact N.out i t2 h
  ·exact⟨nf sh,nf N.ach,nf N.abd,nf etd⟩
 ·rcases kQ h1 with h1'|⟨e1,rfl⟩
  ·rcases kQ h2 with h2'|⟨e2,rfl⟩
   ·exact N.apt i j t2 t3 h1' h2' ne
   ·intro x hx
    obtain⟨o,e,_⟩:=(N.ok i t2 h1').kind hx;exact nf e
  ·rcases kQ h2 with h2'|⟨e2,rfl⟩
   ·intro x hx hx2
    obtain⟨o,e,_⟩:=(N.ok j t3 h2').kind hx2;exact nf e hx
   ·exact absurd (e1.trans e2.symm) ne
 ·exact u _ _ (fun y=>by rw[y,N.zs.1]at e;cases e) (fun y=>by rw[y,N.zs.2.1]at e;cases e) (fun y=>by rw[y,zb]at e;cases e) (fun y=>by rw[y,N.zs.2.2.1]at e;cases e) (N.old _ _ e)
 ·rcases kQ h with h|⟨_,rfl⟩
  ·exact N.zf i t2 h
  ·exact fun x hx=>dA N.old (ft x hx)
end
theorem a5j(h:bP CB CT H B)(sp:BM.sep B):[B.b,B.g,B.r,B.e,B.ru,B.me,B.od].Nodup:=by
 obtain⟨⟨d1,kb⟩,⟨⟨d2,kg⟩,kr,ke⟩,ku,km,ko⟩:=h;have df:∀{x y:Addr} {o1 o2:HO},H x=some o1->H y=some o2->o1≠o2->x≠y:=fun e1 e2 n h=>by
  rw[h,e2]at e1;exact n (Option.some.inj e1).symm
 have bg:B.b≠B.g:=df kb kg fun y=>by
  injection y with _ _ y
  have:=congrArg List.length y;cases this
 simp only[List.nodup_cons,List.mem_cons,List.not_mem_nil,or_false,not_or,List.nodup_nil,not_false_eq_true,and_true];exact⟨⟨bg,df kb kr nofun,df kb ke nofun,df kb ku nofun,df kb km nofun,df kb ko nofun⟩,⟨df kg kr nofun,df kg ke nofun,df kg ku nofun,df kg km nofun,df kg ko nofun⟩,⟨df kr ke nofun,df kr ku nofun,df kr km nofun,sp.ro⟩,⟨sp.eu,sp.em,df ke ko nofun⟩,⟨sp.um,df ku ko nofun⟩,df km ko nofun⟩
noncomputable def iA:List Str:=["t","u","table","abcdefgh"]
theorem a00{k:Nat}(h:k<4):∃z,iA[k]?=some z/\z∈iA/\bV [V.str "t",V.str "u",V.str "table",V.str "abcdefgh"] (k:Int)=some (.str z):=by
 rcases(show k=0\/ k=1\/ k=2\/ k=3 by omega)with rfl|rfl|rfl|rfl<;>exact⟨_,rfl,by simp[iA],rfl⟩
theorem qE:∀z∈iA,Nl z:=by
 intro z hz;simp only[iA,List.mem_cons,List.not_mem_nil,or_false]at hz
 rcases hz with rfl|rfl|rfl|rfl
 ·exact kK.2.2.2.1
 ·exact kK.2.2.2.2.1
 ·exact kK.2.2.2.2.2
 ·exact iQ.2.2.1
theorem nd4:iA.Nodup:=by unfold iA;decide+kernel
section
variable{ae:Heap}
inductive rH(K:Fg)(vs:List V)(H:Hp)(Q:VK)(E:XK):Prop
 |mk (a:Addr) (ns:List Int):vs= [.ref a] ->aN K H a (ns.map V.int)->ns.length<=63->(∀H',Q (.bl true) H')->rH K vs H Q E
abbrev Nlw:List Str:=["_law_script","_law_sheet","_law_tabs","_law_k","_law_name","_law_many"]
theorem jJ:aX Nlw ["_law_script"] (aR rK):={}
inductive tY(K:Fg)(CS CF CB CT:Addr)(Hz:Hp)(W:eI)(a:Addr)(pr:List TB->Prop)(n:Nat)(σ:St)(H:Hp):Prop
 |mk (o3 o4 o5:Option V) (tb:List TB) (fi fd lk:Addr) (kf:List (Ky×V)) (cs:List V):σ= [some (.ref a),some (.ref W.s),some (.ref W.td),o3,o4,o5] ->bR K CS CF CB CT Hz W tb fi fd lk kf cs H->H W.td=some (.dK (bO tb))->cs.length<=n->pr tb->tY K CS CF CB CT Hz W a pr n σ H
theorem a1S(T:aW K mg){fd:FuncData}(F:iF K "law" "law" rK f fd):eY P w K mg ae aD 14 f fd ["_law_script"] (rH K):=by
 obtain⟨CS,Y⟩:=T.t_Sheet;obtain⟨CF,Fi⟩:=T.t_Finder;obtain⟨CB,Wb⟩:=T.t_Board;obtain⟨CT,U⟩:=T.t_Table;obtain⟨CV,VP⟩:=T.t_ValuePut;obtain⟨CI,PI⟩:=T.t_RowPutIn;obtain⟨CO,TO⟩:=T.t_RowTakenOut;obtain⟨CC,CSt⟩:=T.t_ColumnSet;obtain⟨CW,TT⟩:=T.t_TableTold;have G_mixed:bA P w K mg ae aD 1 "_law_mixed" ["_law_script","_law_k"] (lG K):=rR T;have GS:dM P w K mg ae aD 3 CS ["self"] (tF CS CF):=a1G T Y Fi;have G_table:aL P w K mg ae aD 9 CS "table" ["self","name","many"] (rP CS CF CB CT):=a4Y T Y Fi Wb U TT;have G_change:bA P w K mg ae aD 11 "_law_change" ["_law_script","_law_at","_law_sheet","_law_name","_law_tab"] (uP K CS CF CB CT):=a08 T Y Fi Wb U CSt PI TO VP;have G_right:bA P w K mg ae aD 8 "_law_right" ["_law_sheet","_law_tabs"] (sH K CS CF CB CT):=a1K T Y Fi Wb U;refine F.ok jJ (fun vs H Q E h=> ?_) (fun ag A af s H vs Q E hr h=> ?_)
 ·obtain⟨a,ns,rfl,_⟩:=h
  rfl
 ·obtain⟨a,sc,rfl,hS,hl,q⟩:=h
  have hu:=cR hr
  refine⟨_,(aG (cN (i:=1) jJ.nd rfl (Or.inl rfl) (a15 GS hr.mn Y.c aI))
   (aG (cN (i:=2) jJ.nd rfl (Or.inl rfl) kE)
   (aG (hW PassesOwn.never rfl (lK rfl T.range (aA (aY cW aT (aY dD (bJ G_mixed hr.mn aI (aA (pv 0) (aA aT aE))) aT)) aE)) (dF (i:=3) jJ.nd rfl (Or.inl rfl))
    (aG (cN (i:=4) jJ.nd rfl (Or.inl rfl) (dH eQ (hG (aA eL (aA eL (aA eL (aA eL aE))))) (pv 3) (fun _ _=>rfl)))
    (aG (cN (i:=5) jJ.nd rfl (Or.inl rfl) (aY dD (bJ G_mixed hr.mn aI (aA (pv 0) (aA (aY cW aT (pv 3)) aE))) aT))
    (aG (bF (bW rT (bG (pv 1) Y.cl G_table hr.mn aI (aA (pv 4) (aA (pv 5) aE))) fM (cC _)) (aH (bM fA)) bN)
    (aH (lQ hu (pv 2) (pv 4) (hG (aA (hG aE) (aA kE (aA (pv 5) aE)))) rfl))))))
   (aG (hW PassesOwn.never rfl (lK rfl T.range (aA aT aE)) (dF (i:=3) jJ.nd rfl (Or.inl rfl))
    (aG (cN (i:=4) jJ.nd rfl (Or.inl rfl) (dH eQ (gT (oK rfl) rfl T.list gF (aA (pv 2) aE)) (aY dD (bJ G_mixed hr.mn aI (aA (pv 0) (aA (aY cW aT (aY jR aT (pv 3))) aE))) (cA qF rfl T.len dY (aA (pv 2) aE))) (fun _ _=>rfl)))
    (aH (bF (PW.pt (dO (cV (cU (bJ G_change hr.mn aI (aA (pv 0) (aA (aY cW aT (aY jR aT (pv 3))) (aA (pv 1) (aA (pv 4) (aA (eN hu (pv 2) (pv 4) (fun _ _=>rfl)) aE)))))) (fun _=>rfl))) (eM (cV (cU (bJ G_right hr.mn aI (aA (pv 1) (aA (pv 2) aE))) (fun _=>rfl)))))) (aH (bM fA)) bN))))
   (aH (bM (bJ G_right hr.mn aI (aA (pv 1) (aA (pv 2) aE))))))))),?_⟩
  intro s' dSh hs hds ne;refine⟨s',dSh,rfl,aK,fun H2 bd ch fi0 fd0 lk0 df fr nfl g1 g2 g3 g4 g5 g6 b1=>⟨rfl,?_⟩⟩;have s2:aJ H H2:=fun x o e=>b1 _ _ (bK e hs) (by rw[aF (bK e hs),aF (bK e hds)];exact e)
  have fr0:∀x∈ [bd,ch,fi0,fd0,lk0],H x=none:=fun x hx=>(gY (gY (fr x hx)).1).1
  intro td htd;have s3:=aJ.new (o:=.dK []) htd;have td3:upd H2 td (.dK []) td=some (.dK []):=aK
  generalize upd H2 td (.dK [])=H3 at s3 td3|-
  let W:eI:=⟨s',bd,ch,td⟩
  have zb:H W.bd=none:=fr0 bd (by simp);have N0:bR K CS CF CB CT H W [] fi0 fd0 lk0 [] [] H3:=
   ⟨⟨dSh,s3 _ _ g1⟩,s3 _ _ g3,s3 _ _ g2,⟨_,td3,fun _ y=>(by cases y),fun _ y=>(by cases y),fun _ _ _ y=>(by cases y),fun _ y=>(by cases y)⟩,⟨df,s3 _ _ g4⟩,s3 _ _ g5,fun i t h=>(by cases h),List.nodup_nil,fun i t h=>(by cases h),fun i j t u h=>(by cases h),fun t ht=>(by cases ht),fun y=>(by have y:bd=td:=y;rw[<- y,g2]at htd;cases htd),Nat.zero_le _,eO.nil,s2.trans s3,⟨hs,fr0 ch (by simp),dA s2 htd,fr0 fd0 (by simp)⟩,fun i t h=>(by cases h)⟩
  refine⟨_,rfl,a,sc,_,rfl,N0.old.seq hS,hl,by decide,by decide,fun m0 _ _=> ?_⟩;have e1:=Int.emod_nonneg m0 (show(4:Int)≠0 by decide);have e2:=Int.emod_lt_of_pos m0 (show(0:Int)<4 by decide);refine⟨_,_,rfl,rfl,(show(0:Int)<4 by decide),_,_,rfl,rfl,_,rfl,by omega,by omega,?_⟩
  have n1:1<=(1+ m0% 4).toNat:=by omega
  have n4:(1+ m0% 4).toNat<=4:=by omega
  refine pO (lo:=0) (n:=(1+ m0% 4).toNat) (fun k σ Hk=>tY K CS CF CB CT H W a (fun tb=>tb.map (·.nm)=iA.take k) k σ Hk) ⟨none,none,none,[],fi0,fd0,lk0,[],[],rfl,N0,td3,Nat.le_refl _,rfl⟩ ?_ ?_
  ·rintro k σ Hk hk ⟨o3,o4,o5,tb,fi,fd,lk,kf,cs,rfl,N,htdk,lc,hnm⟩
   rw[Int.zero_add];obtain⟨z,hz4,hzm,az⟩:=a00 (show k<4 by omega)
   have ltb:tb.length=k:=by
    have:=congrArg List.length hnm;rw[List.length_map,List.length_take]at this;have e4:iA.length=4:=rfl;omega
   have nn:z∉tb.map (·.nm):=fun hm=>by
    rw[hnm]at hm;obtain⟨j,hj⟩:=List.getElem?_of_mem hm
    have jl:j<k:=by
     have:=(List.getElem?_eq_some_iff.mp hj).1;rw[List.length_take]at this;omega
    rw[List.getElem?_take_of_lt jl]at hj;exact cB nd4 hj hz4 (by omega) rfl
   refine⟨sl,fun l0 hl0=> ?_⟩;have s4:=aJ.new (o:=.lst [V.str "t",V.str "u",V.str "table",V.str "abcdefgh"]) hl0;have c4:upd Hk l0 (.lst [V.str "t",V.str "u",V.str "table",V.str "abcdefgh"]) l0=some (.lst [V.str "t",V.str "u",V.str "table",V.str "abcdefgh"]):=aK
   generalize upd Hk l0 (.lst [V.str "t",V.str "u",V.str "table",V.str "abcdefgh"])=H4 at s4 c4|-
   have N4:=N.same s4;refine⟨_,rfl,l0,_,_,.str z,rfl,rfl,aN.of c4,az,?_⟩;refine⟨_,rfl,_,rfl,_,_,rfl,rfl,a,sc,_,rfl,N4.old.seq hS,hl,by omega,by omega,fun m1 _ _=>⟨_,_,rfl,rfl,(show(0:Int)<7 by decide),?_⟩⟩;have f1:=Int.emod_nonneg m1 (show(7:Int)≠0 by decide);have f2:=Int.emod_lt_of_pos m1 (show(0:Int)<7 by decide);obtain⟨mm,hmm⟩:∃mm:Nat,m1% 7=(mm:Int):=⟨(m1% 7).toNat,by omega⟩
   have mm6:mm<=6:=by omega
   dsimp only;rw[hmm];obtain⟨d4,sS4⟩:=N4.sh
   have vk0:aO (tb.map fun t=>((.inr t.nm:aB),V.ref t.B.b)) (.inr z:aB)=none:=by
    cases e:aO (tb.map fun t=>((.inr t.nm:aB),V.ref t.B.b)) (.inr z:aB)with
    |none=>rfl
    |some v=>
     obtain⟨t,ht,et⟩:=List.mem_map.mp (oV e);exact absurd (List.mem_map.mpr ⟨t,ht,Sum.inr.inj (Prod.mk.inj et).1⟩) nn
   refine⟨_,rfl,W.s,d4,_,rfl,sS4,cK,_,rfl,_,rfl,W.s,W.bd,W.ch,cs,_,z,mm,rfl,N4.sheet,by omega,by rw[List.length_map];omega,qE z hzm,vk0,by omega,fun H5 fi' fd' lk' c' b g r e ru me od Fr B5 sp5 fr5 u5=>⟨rfl,_,rfl,bB ?_⟩⟩;obtain⟨⟨dx5,q1⟩,q2,q3,⟨df5,q4⟩,q5,q6,q7,q8,q9,q10⟩:=Fr;rw[jA _ vk0]at q3;refine⟨sl,fun ol hol=> ?_⟩;have s6:=aJ.new (o:=.lst []) hol;have c6:upd H5 ol (.lst []) ol=some (.lst []):=aK
   generalize upd H5 ol (.lst [])=H6 at s6 c6|-
   intro hd hhd;have s7:=aJ.new (o:=.dK []) hhd;have c7:upd H6 hd (.dK []) hd=some (.dK []):=aK
   generalize upd H6 hd (.dK [])=H7 at s7 c7|-
   refine⟨_,rfl,sl,fun tl htl=> ?_⟩;have s8:=aJ.new (o:=.lst [V.ref ol,V.ref hd,V.int (mm:Int)]) htl;have c8:upd H7 tl (.lst [V.ref ol,V.ref hd,V.int (mm:Int)]) tl=some (.lst [V.ref ol,V.ref hd,V.int (mm:Int)]):=aK
   generalize upd H7 tl (.lst [V.ref ol,V.ref hd,V.int (mm:Int)])=H8 at s8 c8|-
   have s58:=(s6.trans s7).trans s8;have htd4:H4 td=some (.dK (bO tb)):=s4 _ _ htdk;have td5:H5 td=some (.dK (bO tb)):=u5 _ _ (fun y=>by rw[y,show H4 s'=_ from sS4]at htd4;cases htd4) (fun y=>by rw[y,show H4 ch=_ from N4.ach]at htd4;cases htd4) (fun y=>N4.ntb y.symm) htd4;have td8:=s58 _ _ td5
   have vt0:aO (bO tb) (.inr z:aB)=none:=by
    cases e:aO (bO tb) (.inr z:aB)with
    |none=>rfl
    |some v=>
     obtain⟨t,ht,et⟩:=List.mem_map.mp (oV e);exact absurd (List.mem_map.mpr ⟨t,ht,Sum.inr.inj (Prod.mk.inj et).1⟩) nn
   refine⟨_,rfl,_,rfl,td,_,rfl,iR.k (k:=Sum.inr z) td8 (dQ (by unfold bO;rw[List.length_map];omega)),?_⟩;rw[jA _ vt0];have b9:bI td H8 (upd H8 td (.dK (bO tb++ [((.inr z:aB),V.ref tl)]))):=fun x o n e=>by rw[aF n];exact e
   have v9:upd H8 td (.dK (bO tb++ [((.inr z:aB),V.ref tl)])) td=some (.dK (bO tb++ [((.inr z:aB),V.ref tl)])):=aK
   generalize upd H8 td (.dK (bO tb++ [((.inr z:aB),V.ref tl)]))=H9 at b9 v9|-
   have nb:∀{x:Addr},H5 x=none->H4 x=none:=fun{x} hx=>by
    cases e:H4 x with
    |none=>rfl
    |some o=>
     have:=u5 x o (fun y=>by rw[y,q1]at hx;cases hx) (fun y=>by rw[y,q2]at hx;cases hx) (fun y=>by rw[y,q3]at hx;cases hx) e;rw[this]at hx;cases hx
   have ol4:H4 ol=none:=nb hol;have hd5:H5 hd=none:=dA s6 hhd;have tl5:H5 tl=none:=dA (s6.trans s7) htl
   let t:TB:=⟨z,⟨b,g,r,e,ru,me,od,fO 0 mm,(mm:Int),[],[],[],[]⟩,[],tl,ol,hd,[]⟩
   have al:∀x∈ [b,g,r,e,ru,me,od],H5 x≠none:=fun x hx=>by
    obtain⟨⟨d1,kb⟩,⟨⟨d2,kg⟩,kr,ke⟩,ku,km,ko⟩:=B5;simp only[List.mem_cons,List.not_mem_nil,or_false]at hx
    rcases hx with rfl|rfl|rfl|rfl|rfl|rfl|rfl<;>intro y
    ·rw[kb]at y;cases y
    ·rw[kg]at y;cases y
    ·rw[kr]at y;cases y
    ·rw[ke]at y;cases y
    ·rw[ku]at y;cases y
    ·rw[km]at y;cases y
    ·rw[ko]at y;cases y
   have nd3:[tl,ol,hd].Nodup:=by
    simp only[List.nodup_cons,List.mem_cons,List.not_mem_nil,or_false,not_or,List.nodup_nil,not_false_eq_true,and_true];exact⟨⟨fun y=>(by rw[y,s7 _ _ c6]at htl;cases htl),fun y=>(by rw[y,c7]at htl;cases htl)⟩,fun y=>(by rw[<- y,c6]at hhd;cases hhd)⟩
   have ok8:bZ K CB CT H8 t:=
    ⟨qE z hzm,B5.same s58,⟨B5.tab.same s58,fun c hc=>(by cases hc),fun c hc=>(by cases hc),fun c hc=>(by cases hc),List.nodup_nil,List.nodup_nil,fun c hc=>(by cases hc),Nat.zero_le _⟩,rfl,rfl,by rw[show t.B.xs.length=mm from mH 0 mm];exact c8,s8 _ _ (s7 _ _ c6),s8 _ _ c7,rfl,List.nodup_nil,fun c hc=>(by cases hc),fun c hc=>(by cases hc),fun c hc=>(by cases hc),fun c hc=>(by cases hc),rfl,fun c hc=>(by cases hc),(by rw[show t.B.xs.length=mm from mH 0 mm];exact mm6),
     (List.nodup_append.mpr ⟨a5j B5 sp5,nd3,fun x hx y hy e=>al x hx (by
      rw[e];simp only[List.mem_cons,List.not_mem_nil,or_false]at hy
      rcases hy with rfl|rfl|rfl
      ·exact tl5
      ·exact hol
      ·exact hd5)⟩:([b,g,r,e,ru,me,od] ++ [tl,ol,hd]).Nodup)⟩
   have ft:∀x∈t.foot,H4 x=none:=fun x hx=>by
    rcases List.mem_append.mp (show x∈ [b,g,r,e,ru,me,od] ++ [tl,ol,hd] from hx)with hx|hx
    ·exact fr5 x hx
    ·simp only[List.mem_cons,List.not_mem_nil,or_false]at hx
     rcases hx with rfl|rfl|rfl
     ·exact nb tl5
     ·exact ol4
     ·exact nb hd5
   have N8:=N4.tell (t:=t) (cs':=cs++ [.ref c']) (by omega) nn ⟨dx5,s58 _ _ q1⟩ (s58 _ _ q2) (by rw[List.map_append];exact s58 _ _ q3) ⟨_,td8,nofun,nofun,nofun,nofun⟩ ⟨df5,s58 _ _ q4⟩ (s58 _ _ q5) q9 ok8 ft zb (fun x o n1 n2 n3 _ e=>s58 _ _ (u5 _ _ n1 n2 n3 e));have N9:=N8.tdc b9 v9 nofun nofun nofun nofun;exact⟨_,_,_,tb++ [t],fi',fd',lk',[],cs++ [.ref c'],rfl,N9,by unfold bO;rw[List.map_append];exact v9,by rw[List.length_append];exact Nat.add_le_add_right lc 1,by rw[List.map_append,hnm,List.take_succ,hz4];rfl⟩
  ·rintro σ Hk ⟨o3,o4,o5,tb,fi,fd,lk,kf,cs,rfl,N,htdk,lc,hnm⟩
   have ltb:1<=tb.length:=by
    have:=congrArg List.length hnm;rw[List.length_map,List.length_take]at this;have e4:iA.length=4:=rfl;omega
   refine⟨_,rfl,by decide,by decide,?_⟩;have tw:(12:Int).toNat=12:=rfl;refine pO (lo:=0) (n:=(12:Int).toNat) (fun k σ Hk=>tY K CS CF CB CT H W a (fun tb=>1<=tb.length) (4+ k) σ Hk) ⟨_,_,_,tb,fi,fd,lk,kf,cs,rfl,N,htdk,by omega,ltb⟩ ?_ ?_
   ·rintro k σ Hk hk ⟨o3,o4,o5,tb,fi,fd,lk,kf,cs,rfl,N,htdk,lc,ltb⟩
    rw[Int.zero_add];refine⟨_,rfl,td,bO tb,rfl,htdk,fun l hl0=> ?_⟩;have s1:=aJ.new (o:=.lst ((bO tb).map fun p=>kV p.1)) hl0;have c1:upd Hk l (.lst ((bO tb).map fun p=>kV p.1)) l=some (.lst ((bO tb).map fun p=>kV p.1)):=aK
    generalize upd Hk l (.lst ((bO tb).map fun p=>kV p.1))=H1 at s1 c1|-
    have N1:=N.same s1;have td1:H1 td=some (.dK (bO tb)):=s1 _ _ htdk;refine⟨_,rfl,_,rfl,_,_,rfl,rfl,.inl (by decide),_,_,rfl,rfl,a,sc,_,rfl,N1.old.seq hS,hl,by omega,by omega,fun m1 _ _=> ?_⟩
    have len:(bO tb).length=tb.length:=by unfold bO;rw[List.length_map]
    have pos:(0:Int)<((bO tb).length:Int):=by omega
    have f1:=Int.emod_nonneg m1 (Int.ne_of_gt pos);have f2:=Int.emod_lt_of_pos m1 pos
    obtain⟨t,i,hi,at1⟩:∃(t:TB) (i:Nat),tb[i]?=some t/\bV ((bO tb).map fun p=>kV p.1) (m1% ((bO tb).length:Int))=some (.str t.nm):=by
     obtain⟨j,hj⟩:∃j:Nat,m1% ((bO tb).length:Int)=(j:Int):=⟨(m1% ((bO tb).length:Int)).toNat,by omega⟩
     have jl:j<tb.length:=by omega
     refine⟨tb[j],j,List.getElem?_eq_getElem jl,?_⟩;rw[hj];refine sO ?_;unfold bO;rw[List.map_map,List.getElem?_map,List.getElem?_eq_getElem jl];rfl
    refine⟨_,rfl,td,_,rfl,td1,_,_,rfl,rfl,pos,l,_,_,.str t.nm,rfl,rfl,aN.of c1,at1,?_⟩;refine⟨_,rfl,_,rfl,_,_,rfl,rfl,.inl (by decide),_,_,rfl,rfl,_,rfl,_,rfl,_,rfl,_,rfl,td,.ref t.tl,rfl,N1.tdg hi▸cG.k (k:=Sum.inr t.nm) td1,?_⟩;refine⟨H,W,tb,fi,fd,lk,kf,cs,i,t,a,sc,_,rfl,N1,hi,hS,hl,by omega,by omega,by omega,?_⟩;intro H2 fi' fd' lk' cs' t' kf' N2 en et lc2 u2
    have td2:H2 td=some (.dK (bO (tb.set i t'))):=by
     have e:bO (tb.set i t')=bO tb:=oB (f:=fun t:TB=>((.inr t.nm:aB),V.ref t.tl)) hi (by rw[en,et]);rw[e];obtain⟨dS,sS⟩:=N1.sh;exact u2 _ _ (fun y=>by rw[y,show H1 s'=_ from sS]at td1;cases td1) (fun y=>by rw[y,show H1 ch=_ from N1.ach]at td1;cases td1) (N1.out i t hi).2.2.2 td1
    refine⟨_,rfl,bB ⟨_,rfl,_,rfl,H,W,tb.set i t',fi',fd',lk',kf',cs',rfl,N2,td2,fun H3 kf3 N3 td3 _=>⟨_,rfl,bB ?_⟩⟩⟩;exact⟨_,_,_,tb.set i t',fi',fd',lk',kf3,cs',rfl,N3,td3,by omega,by rw[List.length_set];exact ltb⟩
   ·rintro σ Hk ⟨o3,o4,o5,tb,fi,fd,lk,kf,cs,rfl,N,htdk,lc,ltb⟩
    exact⟨_,rfl,_,rfl,H,W,tb,fi,fd,lk,kf,cs,rfl,N,htdk,fun H' kf' _ _ _=>q _⟩
end
theorem walk{l:W.OpenLaw}{q:Program}{loose:List Str}{XP:(Str->Option Value)->Heap->Prop}{YP:World->Heap->Prop}{d:DefRec}{K:Params->Fg}(hn:l.most=some 63)(hdf:d.params.defaults= [])(hdn:d.name= "law")
 (hY:∀(w:World) (h:Heap),YP w h->(K w.params).In h)
 (F:∀(w:World) (mg:Str->Option Value) (h:Heap),(K w.params).In h->h.Ns mainGlobals mg->aW (K w.params) mg):
 W.WalkO q loose XP YP l.row.toRowW d [] (fun f vs=>PySem.call f vs):=
 L2.a4C (n:=63) (k:=14) (x:= "_law_script") (CX:=fun _=>aD) (sp:=fun w=>rH (K w.params)) hn (by decide) hdf ⟨rfl,by decide,by decide⟩ hY
  (fun w mg fa h KX G hmg=>by
   have T:=F w mg h KX G;obtain⟨f,fd,F4,hm⟩:=T.d_law.ex;rw[hdn]at hmg;have e:=hmg.symm.trans hm;cases e;refine⟨fd,fun s u=> ?_,fun ae kb nb=> ?_⟩
   ·obtain⟨oc,od,kV,doc,pm,an,ag,ct,osl,rfl,_⟩:=F4.ex
    exact .of_eq rfl
   ·exact a1S T F4)
  (fun _ _ a ns hl _ hS=>⟨a,ns,rfl,hS,hl,fun _=>rfl⟩) fun _ _ _ _ _ z=>z
end My
variable{t:My.TB}{c:My.aZ}{B:My.BM}{kf:List (My.Ky×V)}{ts:List My.aZ}
namespace PySem.W.Fast
abbrev Z:=Nat
def tw8079077101176181345:=Z
def tw15636756933987839014:=Z
def tw16305566478862046963:=Z
def tw2773162469916786665:=Z
def tw111683697624588364:=Z
def tw3517740834863855896:=Z
def tw13493122143164615312:=Z
def tw3142938015629979531:=Z
def tw9887004415575491742:=Z
def tw6294911336346828091:=Z
def tw8626508211485949566:=Z
def tw3844962125023678799:=Z
def tw15613116372395501844:=Z
def tw11549686735308467377:=Z
def tw4991881175961883186:=Z
def tw15189203302788164022:=Z
def tw6654762323062557858:=Z
def tw8484773895563621390:=Z
def tw7678073140280517755:=Z
def tw12691421446682848090:=Z
def tw5102336203940942562:=Z
def tw3860380467685952467:=Z
def tw453706485702238945:=Z
def tw176618954194476289:=Z
def tw1677579459526376312:=Z
def tw12713507303515875332:=Z
def tw10577013942695363075:=Z
def tw9929311153186014804:=Z
def tw1137506928379489470:=Z
def tw10519021880931436110:=Z
def tw10137895041703328150:=Z
def tw13278093540995738579:=Z
def tw16926860280840319491:=Z
def tw3979650350142569823:=Z
def tw1862160235421731875:=Z
def tw17326922660034464289:=Z
def tw5035199289187659446:=Z
def tw16567543528566534674:=Z
def tw9385076268423903935:=Z
def tw15889345703733923077:=Z
def tw11200741068282734558:=Z
def tw13381077048717129611:=Z
def tw18062738029818913560:=Z
def tw12590528337764849555:=Z
def tw9589724419852557099:=Z
def tw3882951941522325530:=Z
def tw7802579011470584552:=Z
def tw6139003250760439481:=Z
def tw11982646502001804776:=Z
def tw8530444082161803499:=Z
def tw14739547983881018870:=Z
def tw7805927497626474358:=Z
def tw12725921258619961420:=Z
def tw5706972630886087207:=Z
def tw1649918509883504057:=Z
def tw16671375796569193511:=Z
def tw11910175175030641333:=Z
def tw1357526813993907987:=Z
def tw6064065942112385096:=Z
def tw11137652157080352152:=Z
def tw3272754209353265313:=Z
def tw7636662565122547513:=Z
def tw12661068346882052667:=Z
def tw4723883009195641540:=Z
def tw9162118718824069208:=Z
def tw4814125016351264534:=Z
def tw18335860037422574702:=Z
def tw14206171579242719158:=Z
def tw17777747783685994105:=Z
def tw1959409334954889103:=Z
def tw16235104770947963936:=Z
def tw18241648195456937942:=Z
def tw5409948480986896480:=Z
def tw14198058711534606720:=Z
def tw18237541299527692239:=Z
def tw11460120663801810256:=Z
def tw2860979701981359400:=Z
def tw4948420169587496195:=Z
def tw5452915124180182128:=Z
def tw13861261014041670507:=Z
def tw17684395082315601577:=Z
def tw9107084346961605299:=Z
def tw18351897293131375302:=Z
def tw14189952719117151626:=Z
def tw10456424257272540033:=Z
def tw17381098373806718415:=Z
def tw8556513291513260308:=Z
def tw5092200157821604825:=Z
def tw2847842182807996875:=Z
def tw7345736922054312496:=Z
def tw17880105351797789999:=Z
def tw15675457106254755882:=Z
def tw13861766897960105035:=Z
def tw16790641941635799843:=Z
def tw12387824718629828581:=Z
def tw5902484231032484585:=Z
def tw4950993612964942484:=Z
def tw3973987677889699736:=Z
def tw1646142039945972792:=Z
def tw15840663873235915583:=Z
def tw7106792150339682860:=Z
def tw6064793472265415104:=Z
def tw1762929101619621958:=Z
def tw10372158767170959692:=Z
def tw13550098872191610046:=Z
def tw12275051375752086161:=Z
def tw17655233692622657294:=Z
def tw14241667473478663146:=Z
def tw3160208005876186864:=Z
def tw12630641298827687666:=Z
def tw11072231610660635421:=Z
def tw13610200067363391583:=Z
def tw3413663899938075058:=Z
def tw17196564368445507792:=Z
def tw5932212970492487649:=Z
def tw9368538042255675339:=Z
def tw5703744906447049552:=Z
def tw12639761485856542931:=Z
def tw10370887804529626355:=Z
def tw9076212124177747313:=Z
def tw9996562856300606114:=Z
def tw3678833429568951419:=Z
def tw2571997594235319529:=Z
def tw14308154486828532937:=Z
def tw7836148335801130510:=Z
def tw16581769340523556222:=Z
def tw14756959184950875225:=Z
def tw127324356784972698:=Z
def tw13491263315130369420:=Z
def tw4056841479260586732:=Z
def tw1594312549545240150:=Z
def tw4548250249539473240:=Z
def tw2433696862021872520:=Z
def tw12617785817556654368:=Z
def tw8755140609613669836:=Z
def tw9052360354991363586:=Z
def tw396713449849725755:=Z
def tw8220282133834408013:=Z
def tw17630785157106791667:=Z
def tw15695205073797011295:=Z
def tw7304656536354963139:=Z
def tw7469326643529743072:=Z
def tw16534002532667534287:=Z
def tw16199435827163275838:=Z
def tw8214368289901641718:=Z
def tw8926761143669752990:=Z
def tw5916392446001901988:=Z
def tw11648526898784338127:=Z
def tw11159944611869997891:=Z
def tw4852489830435634778:=Z
def tw7391343489493756935:=Z
def tw9837067605966039756:=Z
def tw6040282660690738858:=Z
def tw7749753025311154465:=Z
def tw1664048056619213620:=Z
def tw17357000768240724609:=Z
def tw16564192700182571757:=Z
def tw13817561484340922577:=Z
def tw10489306441965192629:=Z
def tw3184568831147091484:=Z
def tw9716003038428942941:=Z
def tw9800414230397899639:=Z
def tw5063329295930128786:=Z
def tw8064087335681064202:=Z
def tw2159513158496925571:=Z
def tw13958084910339217029:=Z
def tw14247637544721839292:=Z
def tw6054343426693259053:=Z
def tw3777294122766582149:=Z
def tw6716913196107946278:=Z
def tw12069582382542938403:=Z
def tw9021311908289971290:=Z
def tw17347938928001400857:=Z
def tw10446928572965509239:=Z
def tw13036363708743376569:=Z
def tw12740895921806199804:=Z
def tw13799253593543669688:=Z
def tw15761236643469711819:=Z
def tw3911349056336652143:=Z
def tw13792294623181882254:=Z
def tw9116316142998398091:=Z
def tw4408864447258174986:=Z
def tw5008990388625733758:=Z
def tw6622711378606995052:=Z
def tw4343496367771491302:=Z
def tw12341297659156152228:=Z
def tw4813774578515516322:=Z
def tw17681759120656943624:=Z
def tw3478282143640338528:=Z
def tw10121861006689761385:=Z
def tw16332715372543580122:=Z
def tw7471386451843163136:=Z
def tw5208572924349352400:=Z
def tw1396380133039503115:=Z
def tw15415576357902703290:=Z
def tw2329233281233927143:=Z
def tw3312539217820104463:=Z
def tw12883273520066362589:=Z
def tw4289854911422106531:=Z
def tw11320892961715993608:=Z
def tw1754343162658984743:=Z
def tw1527386514954710005:=Z
def tw9215807375926624239:=Z
def tw1720670481019228942:=Z
def tw7159970108573644019:=Z
def tw10060342222689588717:=Z
def tw14057021730630066536:=Z
def tw8426804516231614090:=Z
def tw10859225890031792633:=Z
def tw14230878148652456226:=Z
def tw14054663950149184552:=Z
def tw6179040537600750144:=Z
def tw15007046746038200934:=Z
def tw16388436733812917000:=Z
def tw10906269117594380234:=Z
def tw16095998013514238385:=Z
def tw3089955895623061911:=Z
def tw18016837251520330331:=Z
def tw5589769676933349048:=Z
def tw14774248734297651914:=Z
def tw7270330348917167265:=Z
def tw12707822790069514203:=Z
def tw7230573334563431417:=Z
def tw5586784106170905150:=Z
def tw13597511839881739628:=Z
def tw6424590829399171624:=Z
def tw12875662452091193868:=Z
def tw1160618083543997773:=Z
def tw10361432447242559192:=Z
def tw15657747416285739294:=Z
def tw7229212011534063657:=Z
def tw17486680854450164725:=Z
def tw8841555805068553465:=Z
def tw12804887734323744949:=Z
def tw3329717595868666996:=Z
def tw3581463051905572453:=Z
def tw13517230192953497876:=Z
def tw18164156700148707815:=Z
def tw6725624953500617870:=Z
def tw13420884527774964133:=Z
def tw5317554856761627605:=Z
def tw5136091784516828901:=Z
def tw16953840679182021575:=Z
def tw13068589972138009806:=Z
def tw2940941256473778247:=Z
def tw15271280782835463806:=Z
def tw4644349669289067392:=Z
def tw14358856581869344445:=Z
def tw4744971597665021551:=Z
def tw10999389054949684216:=Z
def tw12666222449885118421:=Z
def tw16244410745026114498:=Z
def tw4387452679978207606:=Z
def tw5342104081944286422:=Z
def tw311928076880243841:=Z
def tw1910760348021045763:=Z
def tw7740487739829077329:=Z
def tw3953440289640882798:=Z
def tw14399957929356231556:=Z
def tw906718454360625481:=Z
def tw3810849578571923913:=Z
def tw16352548219867951928:=Z
def tw2068133088975387600:=Z
def tw4902853013865399524:=Z
def tw3411223702053927915:=Z
def tw14006652370845950331:=Z
def tw10757246188267012050:=Z
def tw16110650443980228579:=Z
def tw15422689116023110760:=Z
def tw12551886516654303823:=Z
def tw13094479106334067349:=Z
def tw11512621478249443436:=Z
def tw2669418911263654524:=Z
def tw14968531319222364201:=Z
def tw1358577178513738531:=Z
def tw13553724930877695604:=Z
def tw10605443620149745536:=Z
def tw10207944057903853727:=Z
def tw4019978963755051169:=Z
def tw13217924795652853709:=Z
def tw10600935190092367833:=Z
def tw15166312386055152466:=Z
def tw6678918344573505470:=Z
def tw15220867428774802145:=Z
def tw8620964090022769088:=Z
def tw7559648018346027262:=Z
def tw16161835414858792530:=Z
def tw14054009090117148858:=Z
def tw2525460008881994624:=Z
def tw17678249501572549023:=Z
def tw12491799160765757308:=Z
def tw8799709237368895865:=Z
def tw16653568491209199968:=Z
def tw5696799933564663893:=Z
def tw9307703233201691386:=Z
def tw8711733025030190440:=Z
def tw8747436836435140117:=Z
def tw6505315881145245015:=Z
def tw10821533546050901704:=Z
def tw1551144622775907539:=Z
def tw15742448860157411843:=Z
def tw4251920887508264714:=Z
def tw12006391461411243619:=Z
def tw1301431943845318656:=Z
def tw3745364962160247268:=Z
def tw9826952714357417620:=Z
def tw10225320245477285643:=Z
def tw3014865579858981378:=Z
def tw11301486551741425844:=Z
def tw8625812335242829953:=Z
def tw12109140407830909209:=Z
def tw12602725588682724315:=Z
def tw4802160521643082182:=Z
def tw2057725963088895802:=Z
def tw2568777722647681458:=Z
def tw18155503113690536598:=Z
def tw9031289691418707317:=Z
def tw10872138193974199877:=Z
def tw8935119780575479159:=Z
def tw500785722120966144:=Z
def tw8814633003095612670:=Z
def tw10006462818425443966:=Z
def tw156833660892096243:=Z
def tw2687150409296424736:=Z
def tw6290957156529169888:=Z
def tw7980718391744519796:=Z
def tw11525171505816847774:=Z
def tw10143860363681976448:=Z
def tw7867053554724170653:=Z
def tw4309364993571799047:=Z
def tw3842817868821303827:=Z
def tw13078164779715931670:=Z
def tw11799968918464316574:=Z
def tw695745682706951787:=Z
def tw14694267855440013944:=Z
def tw708512798555466804:=Z
def tw3403794044876344971:=Z
def tw9883961951537600893:=Z
def tw3814952986497032833:=Z
def tw11838804365913566210:=Z
def tw4927331706864787990:=Z
def tw2889926331867914970:=Z
def tw6149389254266290881:=Z
def tw2688442187012576229:=Z
def tw10373519641617862183:=Z
def tw15300048496140771584:=Z
def tw3956591709739212637:=Z
def tw4482446644987116743:=Z
def tw6446933722282777944:=Z
def tw3447238961498202573:=Z
def tw6847101248562590072:=Z
def tw2306579953820972945:=Z
def tw16988467532271185534:=Z
def tw12573043225465578677:=Z
def tw12108658420541125638:=Z
def tw579946057236700025:=Z
def tw3740847865153020767:=Z
def tw11748760600471531909:=Z
def tw16304816329133263646:=Z
def tw12406796960308678161:=Z
def tw8273169416360237258:=Z
def tw6915146022585835680:=Z
def tw1808133251465130277:=Z
def tw2738457651560852861:=Z
def tw4489162475835218768:=Z
def tw5789290946200478430:=Z
def tw8609810951497447590:=Z
def tw6940228433035081591:=Z
def tw13128179009178220933:=Z
def tw14253773912481884896:=Z
def tw177813391780980742:=Z
def tw3495049236402755976:=Z
def tw12827506184071447527:=Z
def tw1828273756131449034:=Z
def tw9344092002910037403:=Z
def tw1810651615740942792:=Z
def tw14998491495684839652:=Z
def tw13568309931826012514:=Z
def tw5737636318410874109:=Z
def tw4447697071562932387:=Z
def tw9163457789775081283:=Z
def tw8930768790933152693:=Z
def tw14756885623746843580:=Z
def tw13529580624428456425:=Z
def tw6776682325494067910:=Z
def tw11221120464661321306:=Z
def tw12210495539201247658:=Z
def tw12834163216418977800:=Z
def tw17384496706822198323:=Z
def tw11013987482445596735:=Z
def tw4781718101633936838:=Z
def tw10583884337124182809:=Z
def tw5176600581563437439:=Z
def tw5276972842313549047:=Z
def tw1858175061465726785:=Z
def tw4495347184062288269:=Z
def tw14494062167568700130:=Z
def tw1871370808402432512:=Z
def tw9780155722123704194:=Z
def tw15223834128487762325:=Z
def tw897842818348857812:=Z
def tw17094652600551043680:=Z
def tw1022322032104499916:=Z
def tw7179114578163697347:=Z
def tw2853857266093743954:=Z
def tw48082953128831536:=Z
def tw6135917793978188674:=Z
def tw4971347826125856927:=Z
def tw10192598697677724725:=Z
def tw6612033338500609853:=Z
def tw5506575336384399773:=Z
def tw11109366213082978085:=Z
def tw1483922244815871150:=Z
def tw842383954933772566:=Z
def tw987047752984545408:=Z
def tw17752974068515263201:=Z
def tw17728893726430468754:=Z
def tw6642594477439907510:=Z
def tw7858638027929576247:=Z
def tw11991592087068118595:=Z
def tw9959924771879412429:=Z
def tw9592539942421207863:=Z
def tw16403166402214538692:=Z
def tw8338321717239557502:=Z
def tw12410960319258745616:=Z
def tw15216600563257269827:=Z
def tw11415457404338094947:=Z
def tw12013373130073718528:=Z
def tw2897268984033159185:=Z
def tw3807518411921128863:=Z
def tw12727207159348728114:=Z
def tw18417272349614915261:=Z
def tw11744677697465167726:=Z
def tw7888776952905028174:=Z
def tw10841260020567169049:=Z
def tw1078586923116116298:=Z
def tw8587345852157291628:=Z
def tw9843387339998918699:=Z
def tw15440762798700787795:=Z
def tw16312299853850647943:=Z
def tw16079110326954936574:=Z
def tw5912061260521066679:=Z
def tw9720421411018573417:=Z
def tw9818744709677995772:=Z
def tw7969050555644278613:=Z
def tw7244642063937358176:=Z
def tw14943605298464352811:=Z
def tw3508668286173437121:=Z
def tw9954628761414204385:=Z
def tw3097253127060443038:=Z
def tw14910540515621720009:=Z
def tw10818593106676086508:=Z
def tw4686747470288549916:=Z
def tw14282250449749935850:=Z
def tw7311122188460396574:=Z
def tw536084559053553940:=Z
def tw15991778742375304037:=Z
def tw15674024287747015808:=Z
def tw7265147000628825639:=Z
def tw8978763173901789905:=Z
def tw15219516578924912716:=Z
def tw11372552344962156611:=Z
def tw11119967872676300672:=Z
def tw3743902809035210788:=Z
def tw12692044169529194121:=Z
def tw8579663693184437104:=Z
def tw10019973758767200661:=Z
def tw10656373421279464069:=Z
def tw2280803417171831254:=Z
def tw15274725984588069675:=Z
def tw2338058499765381550:=Z
def tw16655665405573416168:=Z
def tw3699963728656789480:=Z
def tw15637541595577527264:=Z
def tw17042347291728809531:=Z
def tw4657358542095721217:=Z
def tw13494212188014081747:=Z
def tw7675426021486409761:=Z
def tw539915582694400788:=Z
def tw2650943189601299173:=Z
def tw6683774206385880738:=Z
def tw4555773740572877397:=Z
def tw7179566024912520581:=Z
def tw15356295636495548088:=Z
def tw8014302371610291534:=Z
def tw6695899871696635031:=Z
def tw16055915049967624921:=Z
def tw11429076246022692591:=Z
def tw3896140430583484784:=Z
def tw14764000997753023093:=Z
def tw1907882853101146069:=Z
def tw610393253644195021:=Z
def tw1079721546687175890:=Z
def tw13161142106423939245:=Z
def tw832956723617094210:=Z
def tw2386466550135492813:=Z
def tw350638665069158092:=Z
def tw14036695329932352489:=Z
def tw6444406079060645297:=Z
def tw12619994566109398055:=Z
def tw1670162106045490576:=Z
def tw3792948868944636348:=Z
def tw6215012216819401218:=Z
def tw9964002428888661045:=Z
def tw9650459248786410661:=Z
def tw7368430296521057738:=Z
def tw9421123433297313149:=Z
def tw6082821674933432293:=Z
def tw2501814997414532276:=Z
def tw12600324394582088814:=Z
def tw4837652004399893990:=Z
def tw617991498892747946:=Z
def tw5320257694211785255:=Z
def tw13118504906043699056:=Z
def tw16304793469553800920:=Z
def tw14383701365634610562:=Z
def tw16242603153271865834:=Z
def tw14828705497819637390:=Z
def tw14330732230780166896:=Z
def tw4281632525630128990:=Z
def tw4071919086062320995:=Z
def tw1549625806450783771:=Z
def tw13633694286556636842:=Z
def tw3416077150459124619:=Z
def tw15508307326205675837:=Z
def tw3785651131572944177:=Z
def tw5550921786279192394:=Z
def tw17366874911586662342:=Z
def tw11614719872359699028:=Z
def tw9312825620440857870:=Z
def tw12773098249459664313:=Z
def tw8365933327413414936:=Z
def tw1705743683957660791:=Z
def tw5909814486561410429:=Z
def tw9144978601322981412:=Z
def tw14125634987897193228:=Z
def tw7357073802649754809:=Z
def tw1115492884370952206:=Z
def tw15906081575375820200:=Z
def tw6479624953748478608:=Z
def tw847883716116545044:=Z
def tw7118684674461005497:=Z
def tw16781182742465282264:=Z
def tw272271654149639923:=Z
def tw6364989488929465646:=Z
def tw4285080811172111016:=Z
def tw7884239053796707911:=Z
def tw3817095170983073846:=Z
def tw8680893633637948975:=Z
def tw14632460013738463143:=Z
def tw16190100064229196238:=Z
def tw13226302206200501326:=Z
def tw14221694313221896773:=Z
def tw800158816881817042:=Z
def tw5017370977724597310:=Z
def tw5833223915893402605:=Z
def tw7819786322488908941:=Z
def tw10225925196586433925:=Z
def tw3831444020157828879:=Z
def tw11373044008589217750:=Z
def tw7143227691410197028:=Z
def tw7798231696114529514:=Z
def tw10177360848275306075:=Z
def tw239837113164352306:=Z
def tw1984595885166183821:=Z
def tw4639914985004043703:=Z
def tw11832257043585376704:=Z
def tw17385637435060330290:=Z
def tw5736498383474472826:=Z
def tw16929283887127032480:=Z
def tw14263622789464383400:=Z
def tw880187749492319205:=Z
def tw18283626625770925989:=Z
def tw5763353671342756371:=Z
def tw12290103862712522265:=Z
def tw14752193936941891293:=Z
def tw12744987324257814208:=Z
def tw9601473107435515005:=Z
def tw1468077189809564986:=Z
def tw6135742793989198617:=Z
def tw7351516113125108741:=Z
def tw17901812593537604212:=Z
def tw10829783244445590164:=Z
def tw13141777226975709004:=Z
def tw12276609102268185565:=Z
def tw12933264200541115640:=Z
def tw7207882748249085741:=Z
def tw13378189279129835505:=Z
def tw13741483640544540376:=Z
def tw4147546063968655436:=Z
def tw10209485706153019846:=Z
def tw9801248188756009995:=Z
def tw5450688183940410567:=Z
def tw15580833330236793538:=Z
def tw8695344917502445379:=Z
def tw16120124815188739756:=Z
def tw495745553809016806:=Z
def tw15483438946011279485:=Z
def tw16938760596821033515:=Z
def tw16282709376168303224:=Z
def tw13269742787024704131:=Z
def tw17368380918846978642:=Z
def tw17856469405123869839:=Z
def tw12474499149372549867:=Z
def tw14108869905161564102:=Z
def tw2219826171477152166:=Z
def tw3985407425289880319:=Z
def tw4885339088708186645:=Z
def tw13587505465201760768:=Z
def tw15415258101330936112:=Z
def tw8306056913177143317:=Z
def tw12494657455618212555:=Z
def tw2697895593584520545:=Z
def tw6477458711127299797:=Z
def tw6934792625021896683:=Z
def tw118103657987595768:=Z
def tw15590661181756969090:=Z
def tw7195234181598561750:=Z
def tw7344107379610486669:=Z
def tw1037331254402619187:=Z
def tw15884544682960627325:=Z
def tw1712915251859824087:=Z
def tw3274956393158248937:=Z
def tw11029825752703813551:=Z
def tw15899063376307800415:=Z
def tw3916908008136595004:=Z
def tw17885702363699180820:=Z
def tw3636757874969211323:=Z
def tw16885043234801719861:=Z
def tw4295465618773356871:=Z
def tw17189383805231514693:=Z
def tw18368245003289538320:=Z
def tw11039198124553945737:=Z
def tw7892488483856999747:=Z
def tw4960343485091478645:=Z
def tw2856849022604049553:=Z
def tw2955069904168546489:=Z
def tw9674408756894898693:=Z
def tw18078454972595246429:=Z
def tw16455711891363299467:=Z
def tw16656464066777854274:=Z
def tw14086568755704540942:=Z
def tw8203916737905682079:=Z
def tw14033894037496981694:=Z
def tw17304150379867504943:=Z
def tw15673859180357356159:=Z
def tw14821308012504633366:=Z
def tw8365980688473477221:=Z
def tw16883989292295347723:=Z
def tw2495712909407847937:=Z
def tw5770954346761256329:=Z
def tw16933401648862826056:=Z
def tw18235225487472781682:=Z
def tw10436040450197672879:=Z
def tw16193963666376043526:=Z
def tw17864219104207643415:=Z
def tw12047645166259808951:=Z
def tw10184584196510822877:=Z
def tw8474166771431117324:=Z
def tw4398761154147674549:=Z
def tw10174888793525636983:=Z
def tw6025876976646851367:=Z
def tw1493213423489564209:=Z
def tw1119705287583842472:=Z
def tw13221298875168059508:=Z
def tw17129664063450119776:=Z
def tw1170993211196517187:=Z
def tw6636843579729809909:=Z
def tw6131865171881973856:=Z
def tw14565283239071871323:=Z
def tw12784414179793837655:=Z
def tw8299295166202501577:=Z
def tw6797004721712422521:=Z
def tw13361658024445353148:=Z
def tw14397043020233247697:=Z
def tw15356789910456622966:=Z
def tw17145258151438833998:=Z
def tw2220330619571079594:=Z
def tw5466075087153132170:=Z
def tw12049873506117871823:=Z
def tw18120520774133143183:=Z
def tw5853071131838674935:=Z
def tw7820584239349859981:=Z
def tw2834152747459611185:=Z
def tw6648666418900502268:=Z
def tw11714844061683130427:=Z
def tw7339315092025225214:=Z
def tw12717670617570584622:=Z
def tw12104180565362230708:=Z
def tw11200066610382560489:=Z
def tw11325286997215888148:=Z
def tw6653002681457613905:=Z
def tw18442930859810776585:=Z
def tw5592498064423155037:=Z
def tw10674979213120589450:=Z
def tw14857354778882011687:=Z
def tw5538352607991732959:=Z
def tw1976367676692940186:=Z
def tw11343625473201177966:=Z
def tw9233711108717523350:=Z
def tw6155807771526367075:=Z
def tw8245038596030013939:=Z
def tw16936071241654214792:=Z
def tw1598380006365289787:=Z
def tw8003025890297662832:=Z
def tw1716777394989804693:=Z
def tw17212537000595617502:=Z
def tw9455080404557774265:=Z
def tw15881929817086644390:=Z
def tw259007086842625120:=Z
def tw7833858545327926698:=Z
def tw7462234409875010680:=Z
def tw18031833560807657248:=Z
def tw692502618667705227:=Z
def tw16367407341444066876:=Z
def tw12316497551896250313:=Z
def tw13954126474552707475:=Z
def tw15623163170875883055:=Z
def tw14415595212181917811:=Z
def tw16120087611134552372:=Z
def tw4551915069219691417:=Z
def tw10780790594888677:=Z
def tw212870530642621788:=Z
def tw3822217904736116514:=Z
def tw12982635978590939961:=Z
def tw1083680863843018320:=Z
def tw5137963638112007982:=Z
def tw4264466707558144145:=Z
def tw12954102325205693932:=Z
def tw9155018886827882423:=Z
def tw10983486088371614023:=Z
def tw8221988462636113373:=Z
def tw2187104145118567928:=Z
def tw139639571002359892:=Z
def tw1032245026903260001:=Z
def tw11637896378960531451:=Z
def tw17921629725695207993:=Z
def tw15002125350188471493:=Z
def tw11914680358006983489:=Z
def tw12350901439210869545:=Z
def tw3448289119038082023:=Z
def tw15240794558225723388:=Z
def tw1093921735119955328:=Z
def tw9198145797417611987:=Z
def tw3600608706896797634:=Z
def tw17329226092640407255:=Z
def tw18259481170127137590:=Z
def tw7306325666268702777:=Z
def tw15490174695037683333:=Z
def tw4252628640444342497:=Z
def tw15638744277391710620:=Z
def tw16348491207043831363:=Z
def tw9513851714959593242:=Z
def tw11091969237327228873:=Z
def tw5913831236191081225:=Z
def tw11702542368432263788:=Z
def tw17119966743619981587:=Z
def tw5811046383550079029:=Z
def tw7190164519241628072:=Z
def tw15611159055468426258:=Z
def tw3955846318401531244:=Z
def tw747434581501948161:=Z
def tw10000382771264338598:=Z
def tw11688821055091972578:=Z
def tw14183794980475126382:=Z
def tw2224492388674314746:=Z
def tw12353392012478084821:=Z
def tw9515437527960520629:=Z
def tw4709152716899464361:=Z
def tw16421551078823993103:=Z
def tw10399767556768102268:=Z
def tw450916167039919255:=Z
def tw7174908369122466666:=Z
def tw6111225010746496248:=Z
def tw16100436211810795910:=Z
def tw12473353200092404677:=Z
def tw14639370919171821958:=Z
def tw16907506752368745391:=Z
def tw4091807941844620612:=Z
def tw15336675083482881959:=Z
def tw18040010693866554171:=Z
def tw2553038522790862882:=Z
def tw17383507754987154383:=Z
def tw14001257775758792142:=Z
def tw15955276779010995152:=Z
def tw1668157916316197551:=Z
def tw870911859809435036:=Z
def tw8442337666840306588:=Z
def tw17313167670692506007:=Z
def tw52311027951729415:=Z
def tw3776284727126824881:=Z
def tw7011748990870754511:=Z
def tw3751779401047445444:=Z
def tw8849851856415982592:=Z
def tw5929069928974946942:=Z
def tw2409150976904789698:=Z
def tw9620981664785944504:=Z
def tw7789059066744773497:=Z
def tw16166320794233141163:=Z
def tw15285971814850499461:=Z
def tw17018919298796960325:=Z
def tw9448891628736816390:=Z
def tw5456057588604798813:=Z
def tw313760051953967559:=Z
def tw2649470744578050920:=Z
def tw11428267144520456244:=Z
def tw3114869503799937451:=Z
def tw16709286553408872822:=Z
def tw2139464952139725966:=Z
def tw15215277043968171337:=Z
def tw12249440006475656757:=Z
def tw15303850688782904310:=Z
def tw3791701578177955470:=Z
def tw9508481300628783233:=Z
def tw4143385447066071858:=Z
def tw6297817123162226262:=Z
def tw15498947070118165525:=Z
def tw17027898295038684071:=Z
def tw11227317973667012378:=Z
def tw14366397150584601341:=Z
def tw7517593542875751697:=Z
def tw3175882892458267929:=Z
def tw10096021133225532820:=Z
def tw14984935566836732130:=Z
def tw11573307751570438090:=Z
def tw2900774707461898594:=Z
def tw4980656570499708428:=Z
def tw17944560057527976375:=Z
def tw10912465851602017406:=Z
def tw11931059079541164710:=Z
def tw15208758713472544733:=Z
def tw17321141669297775093:=Z
def tw7686987159735071945:=Z
def tw10739157332956771254:=Z
def tw3780360656637234689:=Z
def tw551848131577147430:=Z
def tw7764496706481186790:=Z
def tw6532176073652752562:=Z
def tw1046426735039042960:=Z
def tw16439648102862973186:=Z
def tw5591372096966408613:=Z
def tw12814574676759590634:=Z
def tw13129015966924260498:=Z
def tw15322346016133055305:=Z
def tw14271227715679378600:=Z
def tw834163370875190487:=Z
def tw1598441998948314760:=Z
def tw12105783376619041824:=Z
def tw4909746890062986992:=Z
def tw13372406695656545225:=Z
def tw8093204435605116032:=Z
def tw3802324212859982346:=Z
def tw2131628641419146574:=Z
def tw14408422899458414861:=Z
def tw12900322471403023591:=Z
def tw3571887426908252301:=Z
def tw1712025006670944436:=Z
def tw13554096552996603837:=Z
def tw11030222141680806039:=Z
def tw17301231922204183571:=Z
def tw7358301259375246931:=Z
def tw17573914199251293697:=Z
def tw9555152797344610503:=Z
def tw10043437039732682917:=Z
def tw16671846519775864752:=Z
def tw9234082181031082199:=Z
def tw5985477669710619179:=Z
def tw10632436533335097343:=Z
def tw9593025312526648749:=Z
def tw10978148199593119775:=Z
def tw1238774933342576732:=Z
def tw8985853077243014283:=Z
def tw17118109872288924275:=Z
def tw17725200260197312358:=Z
def tw6218742209156425251:=Z
def tw17375195804601016887:=Z
def tw8804562823772238403:=Z
def tw6744289896690080844:=Z
def tw4117593658100775591:=Z
def tw12609134008796381905:=Z
def tw6099551282655982697:=Z
def tw16469212385188417459:=Z
def tw13269378992251544618:=Z
def tw2101688894618551339:=Z
def tw1531942245900069527:=Z
def tw4337537902537498463:=Z
def tw5405636941637893480:=Z
def tw17361312545932104338:=Z
def tw10831775382795231030:=Z
def tw18317029471017792443:=Z
def tw17945104820823192460:=Z
def tw10180099407398080305:=Z
def tw6292136877113516018:=Z
def tw14928170483082642131:=Z
def tw15035147077836124231:=Z
def tw6353000322960098758:=Z
def tw12450266760134081766:=Z
def tw16321010359912023445:=Z
def tw8686421893664514812:=Z
def tw16010426653236917834:=Z
def tw14405819549712930658:=Z
def tw14515749918866085854:=Z
def tw16095561997323448962:=Z
def tw8191924030716583958:=Z
def tw17159663220329516329:=Z
def tw2885728169560000527:=Z
def tw5189575337051761105:=Z
def tw9130169290786585303:=Z
def tw17869644041351781489:=Z
def tw4642168367164736999:=Z
def tw7527188789759783800:=Z
def tw14426846030770949350:=Z
def tw16960099460992417936:=Z
def tw11721260321558567882:=Z
def tw14307114581895001200:=Z
def tw557525587906427046:=Z
def tw2177392208660282833:=Z
def tw9086749682639990233:=Z
def tw13914503405785227615:=Z
def tw18426113615342555758:=Z
def tw14615365492927032187:=Z
def tw17168815277693890148:=Z
def tw14736785097561265097:=Z
def tw8075176831728135264:=Z
def tw16323562738756098625:=Z
def tw14706193117826672417:=Z
def tw1925313229346632298:=Z
def tw11218630518863345918:=Z
def tw5709715917251594259:=Z
def tw13581942213048432384:=Z
def tw1139401431394400684:=Z
def tw4317125497005536117:=Z
def tw3646283404555977287:=Z
def tw3387709378460868216:=Z
def tw6203116067093356020:=Z
def tw7086834751707456375:=Z
def tw6315592252919741805:=Z
def tw13861181221018002065:=Z
def tw17599737080147041378:=Z
def tw14970813509950175221:=Z
def tw13752194804779626121:=Z
def tw1998213948918491202:=Z
def tw10355555995306777626:=Z
def tw2021052844270219764:=Z
def tw3326665591737233160:=Z
def tw11783821681860206118:=Z
def tw10724978877185584544:=Z
def tw114212538177122383:=Z
def tw13538226383250851249:=Z
def tw18014927242493681407:=Z
def tw13388821609081752859:=Z
def tw3410114279263501177:=Z
def tw5648755398717848838:=Z
def tw8703289971714622787:=Z
def tw16132857300970059148:=Z
def tw6552692014934654265:=Z
def tw10436913161671965496:=Z
def tw12844035196425415905:=Z
def tw6892863022905643568:=Z
def tw13409027894287784218:=Z
def tw9870845887918440010:=Z
def tw620096762768372245:=Z
def tw4626310774052150101:=Z
def tw2614699841263564978:=Z
def tw7805337860024090338:=Z
def tw5468253378832563756:=Z
def tw1917606529969342592:=Z
def tw7407684214924964682:=Z
def tw14626043116827399089:=Z
def tw356133195338291953:=Z
def tw4306918411174852508:=Z
def tw15484513350429615588:=Z
def tw14132567086592517122:=Z
def tw1528608486126508702:=Z
def tw11832904091306854262:=Z
def tw9003298036023944060:=Z
def tw9553902374603144266:=Z
def tw314832421470263701:=Z
def tw11666859379513687758:=Z
def tw1501192369638978248:=Z
def tw5253532106838457502:=Z
def tw2900113669694453820:=Z
def tw11775615354477436567:=Z
def tw1463240948717555232:=Z
def tw2473316327551931684:=Z
def tw1851827976962354818:=Z
def tw8008918290324780:=Z
def tw5293357688774928429:=Z
def tw9226489057697529751:=Z
def tw4034530797312580367:=Z
def tw4541586943612400430:=Z
def tw12857042388276360775:=Z
def tw1529788316520065153:=Z
def tw6964115092960554723:=Z
def tw7975691445021638695:=Z
end PySem.W.Fast
open PySem PySem.W PyProof.Rows
set_option maxRecDepth 100000 in
set_option maxHeartbeats 0 in
theorem PySem.Challenge.cw_lazycols_k24_given_columns_holds : PySem.Challenge.rw_lazycols_k24_given_columns.Holds := by
 w_on;o_law;k_head;(case hw=>w_witness2)
 k_fill
 refine My.walk (l:=PySem.Challenge.rw_lazycols_k24_given_columns) rfl rfl rfl (fun w h Y => PySem.W.km_in_of Y) ?F
 case F=>
  intro w mg h KX G
  refine'⟨PySem.W.mg_none_of KX G ?_,PySem.W.mg_none_of KX G ?_,PySem.W.mg_none_of KX G ?_,PySem.W.mg_none_of KX G ?_,PySem.W.mg_none_of KX G ?_,PySem.W.mg_none_of KX G ?_,PySem.W.mg_none_of KX G ?_,PySem.W.mg_none_of KX G ?_,PySem.W.mg_none_of KX G ?_,PySem.W.mg_none_of KX G ?_,PySem.W.mg_none_of KX G ?_,PySem.W.mg_none_of KX G ?_,PySem.W.mg_none_of KX G ?_,⟨_,PySem.W.mg_of KX G ?_⟩,⟨_,PySem.W.mg_of KX G ?_⟩,⟨_,PySem.W.mg_of KX G ?_⟩,⟨_,PySem.W.mg_of KX G ?_⟩,⟨_,PySem.W.mg_of KX G ?_⟩,L2.a1d KX G ?_ ?_,L2.dW KX G ?_ ?_ ?_ ?_,L2.dW KX G ?_ ?_ ?_ ?_,L2.dW KX G ?_ ?_ ?_ ?_,L2.dW KX G ?_ ?_ ?_ ?_,L2.dW KX G ?_ ?_ ?_ ?_,L2.dW KX G ?_ ?_ ?_ ?_,L2.dW KX G ?_ ?_ ?_ ?_,L2.dW KX G ?_ ?_ ?_ ?_,L2.dW KX G ?_ ?_ ?_ ?_,L2.dW KX G ?_ ?_ ?_ ?_,L2.dW KX G ?_ ?_ ?_ ?_,L2.dW KX G ?_ ?_ ?_ ?_,L2.dW KX G ?_ ?_ ?_ ?_,L2.dW KX G ?_ ?_ ?_ ?_,L2.dW KX G ?_ ?_ ?_ ?_,L2.dW KX G ?_ ?_ ?_ ?_,L2.dW KX G ?_ ?_ ?_ ?_,L2.dW KX G ?_ ?_ ?_ ?_,L2.dW KX G ?_ ?_ ?_ ?_,L2.dW KX G ?_ ?_ ?_ ?_,⟨_,⟨PySem.W.mg_of KX G ?_,⟨?_,?_,?_,?_⟩,?_,?_,?_,(L2.na ?_),(L2.na ?_),(L2.na ?_),L2.bD ?_ ?_ ?_ ?_ ?_,L2.bD ?_ ?_ ?_ ?_ ?_,L2.bD ?_ ?_ ?_ ?_ ?_,L2.bD ?_ ?_ ?_ ?_ ?_,L2.bD ?_ ?_ ?_ ?_ ?_,L2.bD ?_ ?_ ?_ ?_ ?_,L2.bD ?_ ?_ ?_ ?_ ?_,L2.bD ?_ ?_ ?_ ?_ ?_,L2.bD ?_ ?_ ?_ ?_ ?_,L2.bD ?_ ?_ ?_ ?_ ?_,L2.bD ?_ ?_ ?_ ?_ ?_,L2.bD ?_ ?_ ?_ ?_ ?_,L2.bD ?_ ?_ ?_ ?_ ?_⟩⟩,⟨_,⟨PySem.W.mg_of KX G ?_,⟨?_,?_,?_,?_⟩,?_,?_,?_,(L2.na ?_),(L2.na ?_),(L2.na ?_),(L2.na ?_),L2.bD ?_ ?_ ?_ ?_ ?_,L2.bD ?_ ?_ ?_ ?_ ?_,L2.bD ?_ ?_ ?_ ?_ ?_,L2.bD ?_ ?_ ?_ ?_ ?_,L2.bD ?_ ?_ ?_ ?_ ?_,L2.bD ?_ ?_ ?_ ?_ ?_⟩⟩,⟨_,⟨PySem.W.mg_of KX G ?_,⟨?_,?_,?_,?_⟩,?_,?_,?_,(L2.na ?_),(L2.na ?_),(L2.na ?_),L2.bD ?_ ?_ ?_ ?_ ?_,L2.bD ?_ ?_ ?_ ?_ ?_⟩⟩,⟨_,⟨PySem.W.mg_of KX G ?_,⟨?_,?_,?_,?_⟩,?_,?_,?_,(L2.na ?_),(L2.na ?_),(L2.na ?_),(L2.na ?_),L2.bD ?_ ?_ ?_ ?_ ?_,L2.bD ?_ ?_ ?_ ?_ ?_⟩⟩,⟨_,⟨PySem.W.mg_of KX G ?_,⟨?_,?_,?_,?_⟩,?_,?_,?_,(L2.na ?_),(L2.na ?_),(L2.na ?_),(L2.na ?_),(L2.na ?_),L2.bD ?_ ?_ ?_ ?_ ?_,L2.bD ?_ ?_ ?_ ?_ ?_⟩⟩,⟨_,⟨PySem.W.mg_of KX G ?_,⟨?_,?_,?_,?_⟩,?_,?_,?_,(L2.na ?_),(L2.na ?_),(L2.na ?_),L2.bD ?_ ?_ ?_ ?_ ?_,L2.bD ?_ ?_ ?_ ?_ ?_⟩⟩,⟨_,⟨PySem.W.mg_of KX G ?_,⟨?_,?_,?_,?_⟩,?_,?_,?_,(L2.na ?_),(L2.na ?_),(L2.na ?_),(L2.na ?_),L2.bD ?_ ?_ ?_ ?_ ?_,L2.bD ?_ ?_ ?_ ?_ ?_⟩⟩,⟨_,⟨PySem.W.mg_of KX G ?_,⟨?_,?_,?_,?_⟩,?_,?_,?_,(L2.na ?_),(L2.na ?_),(L2.na ?_),L2.bD ?_ ?_ ?_ ?_ ?_,L2.bD ?_ ?_ ?_ ?_ ?_⟩⟩,⟨_,⟨PySem.W.mg_of KX G ?_,⟨?_,?_,?_,?_⟩,?_,?_,?_,(L2.na ?_),(L2.na ?_),(L2.na ?_),L2.bD ?_ ?_ ?_ ?_ ?_,L2.bD ?_ ?_ ?_ ?_ ?_,L2.bD ?_ ?_ ?_ ?_ ?_,L2.bD ?_ ?_ ?_ ?_ ?_,L2.bD ?_ ?_ ?_ ?_ ?_,L2.bD ?_ ?_ ?_ ?_ ?_⟩⟩,⟨_,{c:=PySem.W.mg_of KX G ?_,cl:=⟨?_,?_,?_,?_⟩,mks:= ?_,kc:= ?_,hc:= ?_,n_boards:=(L2.na ?_),n_changes:=(L2.na ?_),n_finder:=(L2.na ?_),m_init:=L2.bD ?_ ?_ ?_ ?_ ?_,m_table:=L2.bD ?_ ?_ ?_ ?_ ?_,m_give:=L2.bD ?_ ?_ ?_ ?_ ?_,m_rule:=L2.bD ?_ ?_ ?_ ?_ ?_,m_put:=L2.bD ?_ ?_ ?_ ?_ ?_,m_put_in:=L2.bD ?_ ?_ ?_ ?_ ?_,m_take_out:=L2.bD ?_ ?_ ?_ ?_ ?_,m_tables:=L2.bD ?_ ?_ ?_ ?_ ?_,m_columns:=L2.bD ?_ ?_ ?_ ?_ ?_,m_is_ruled:=L2.bD ?_ ?_ ?_ ?_ ?_,m_many:=L2.bD ?_ ?_ ?_ ?_ ?_,m_cell:=L2.bD ?_ ?_ ?_ ?_ ?_,m_stretch:=L2.bD ?_ ?_ ?_ ?_ ?_,m_make:=L2.bD ?_ ?_ ?_ ?_ ?_,m_board_of:=L2.bD ?_ ?_ ?_ ?_ ?_,m_board_with:=L2.bD ?_ ?_ ?_ ?_ ?_,m_board_for:=L2.bD ?_ ?_ ?_ ?_ ?_,m_check_cell:=L2.bD ?_ ?_ ?_ ?_ ?_,m_check_leans:=L2.bD ?_ ?_ ?_ ?_ ?_,m_check_ring:=L2.bD ?_ ?_ ?_ ?_ ?_}⟩⟩
  all_goals try k_is
  all_goals try (first|kit_is|k_exc|kts_exm|exact rfl|kernel_rfl|decide)
  all_goals exact Value.type "type"