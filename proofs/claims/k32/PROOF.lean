import PyProof.Rows.All
import Wide.All
import OpenK.AllK
import Wide.FinOn
import PyProof.EqAt
import PyProof.EqKinds
import PyProof.TupleCall
import Lean
import PySem.Challenge.RW_lazycols_k32_sheets_refuse
set_option Elab.async false
set_option linter.all false
set_option maxRecDepth 100000
set_option maxHeartbeats 4000000
set_option genSizeOfSpec false
set_option compiler.extract_closed false
section
open Lean
local macro_rules|`(command|universe $_*)=>do
  let mut a:=#[]
  for (x,i,n) in [("o_",0,1600)] do
    for k in [i:n] do a:=a.push ((`hd).str s!"{x}{k}")
  for (x,l) in [("sts_",[49,71,86,101,116,131,146,161,176,191,206,221,236,258,273,322,364,564,620,657,694,731,768,820,850,915,1177,1208,1238,1270,1302,1338,1370,1420]),("env_",[41]),("heap_",[39]),("view_",[39])] do
    for k in l do a:=a.push ((`hd).str s!"{x}{k}")
  a:=a ++ #[`PySem.Challenge.rw_lazycols_k32_sheets_refuse,`PySem.Challenge.pw_lazycols_k32_sheets_refuse]
  return mkNullNode (← a.mapM fun n => do `(command| def $(mkIdent ((`PySem.W.Fast).str s!"tw{n.hash}")) := Nat))
universe u
end
section
open PySem PySem.W PyProof.Rows
set_option maxHeartbeats 0 in
open_top hd for PySem.Challenge.rw_lazycols_k32_sheets_refuse
end
namespace L2
theorem aa{α:Type _}{a:α}{l:List α}:a∈a::l:=List.mem_cons_self ..
theorem ad{α:Sort _}{a b c:α}(h:a=b\/ a=c:=by first|exact Or.inl rfl|exact Or.inr rfl):a=b\/ a=c:=h
theorem nk{α:Sort _}{p:α->Prop}(h:∀y,p y:=by intro _ y;cases y):∀y,p y:=h
abbrev Fg:=PySem.W.Frag
end L2
open PySem L2
variable{us its:List Value}{n i j m nt:Nat}{F fd:FuncData}{ps N zs:List Str}{a b ch R p C dx f q fa CB CT bd fi lk CS CF CC gr nl CV CA CG CL CM CI CO:Addr}{u cd doc pm ah ct oc:Value}{P prog:Program}{w:World}{h af h' h3:Heap}{x qual z:Str}{e tg iter elt:Expr}{A:Around}{E:Value->Shared->Prop}{s':Shared}{ae:List (Addr×Obj)}{pos pos' apos tpos:Pos}{K:Fg}{st:Stmt}{es ifs elts:List Expr}{body:List Stmt}{l an od:Option Addr}{fp own:List Addr}{env:Env}{mg:Str->Option Value}{ag:List Env}{ai:Scope}{d:PyData}{cp:List (Nat×Str)}{ds:List PyData}{is:List Int}{z1 z2:Addr×Addr}{cl:List (Str×Addr)}
namespace L2
open PySem PySem.Spec PyProof.Rows
theorem fP(h:us.length=n+ 1):∃a r,us=a::r/\r.length=n:=by
 cases us with
 |nil=>cases h
 |cons a r=>exact⟨a,r,rfl,Nat.succ.inj h⟩
theorem fG(h:∀a0,bindArgs F ⟨[a0],[]⟩=pure (ps.zip [a0])):∀us:List Value,us.length=1->bindArgs F ⟨us,[]⟩=pure (ps.zip us):=by
 intro us h0;obtain⟨a0,us0,rfl,h1⟩:=fP h0;obtain rfl:=List.length_eq_zero_iff.mp h1;exact h a0
theorem dI(h:∀a0 a1,bindArgs F ⟨[a0,a1],[]⟩=pure (ps.zip [a0,a1])):∀us:List Value,us.length=2->bindArgs F ⟨us,[]⟩=pure (ps.zip us):=by
 intro us h0;obtain⟨a0,us0,rfl,h1⟩:=fP h0;obtain⟨a1,us1,rfl,h2⟩:=fP h1;obtain rfl:=List.length_eq_zero_iff.mp h2;exact h a0 a1
theorem eQ(h:∀a0 a1 a2,bindArgs F ⟨[a0,a1,a2],[]⟩=pure (ps.zip [a0,a1,a2])):∀us:List Value,us.length=3->bindArgs F ⟨us,[]⟩=pure (ps.zip us):=by
 intro us h0;obtain⟨a0,us0,rfl,h1⟩:=fP h0;obtain⟨a1,us1,rfl,h2⟩:=fP h1;obtain⟨a2,us2,rfl,h3⟩:=fP h2;obtain rfl:=List.length_eq_zero_iff.mp h3;exact h a0 a1 a2
theorem iH(h:∀a0 a1 a2 a3,bindArgs F ⟨[a0,a1,a2,a3],[]⟩=pure (ps.zip [a0,a1,a2,a3])):∀us:List Value,us.length=4->bindArgs F ⟨us,[]⟩=pure (ps.zip us):=by
 intro us h0;obtain⟨a0,us0,rfl,h1⟩:=fP h0;obtain⟨a1,us1,rfl,h2⟩:=fP h1;obtain⟨a2,us2,rfl,h3⟩:=fP h2;obtain⟨a3,us3,rfl,h4⟩:=fP h3;obtain rfl:=List.length_eq_zero_iff.mp h4;exact h a0 a1 a2 a3
theorem vS(h:∀a0 a1 a2 a3 a4,bindArgs F ⟨[a0,a1,a2,a3,a4],[]⟩=pure (ps.zip [a0,a1,a2,a3,a4])):∀us:List Value,us.length=5->bindArgs F ⟨us,[]⟩=pure (ps.zip us):=by
 intro us h0;obtain⟨a0,us0,rfl,h1⟩:=fP h0;obtain⟨a1,us1,rfl,h2⟩:=fP h1;obtain⟨a2,us2,rfl,h3⟩:=fP h2;obtain⟨a3,us3,rfl,h4⟩:=fP h3;obtain⟨a4,us4,rfl,h5⟩:=fP h4;obtain rfl:=List.length_eq_zero_iff.mp h5;exact h a0 a1 a2 a3 a4
theorem bi6(h:∀a0 a1 a2 a3 a4 a5,bindArgs F ⟨[a0,a1,a2,a3,a4,a5],[]⟩=pure (ps.zip [a0,a1,a2,a3,a4,a5])):∀us:List Value,us.length=6->bindArgs F ⟨us,[]⟩=pure (ps.zip us):=by
 intro us h0;obtain⟨a0,us0,rfl,h1⟩:=fP h0;obtain⟨a1,us1,rfl,h2⟩:=fP h1;obtain⟨a2,us2,rfl,h3⟩:=fP h2;obtain⟨a3,us3,rfl,h4⟩:=fP h3;obtain⟨a4,us4,rfl,h5⟩:=fP h4;obtain⟨a5,us5,rfl,h6⟩:=fP h5;obtain rfl:=List.length_eq_zero_iff.mp h6;exact h a0 a1 a2 a3 a4 a5
abbrev aD:=Sum Int Str
def qR:aD->Value->Bool
 | .inl k,v=>Value.isInt k v
 | .inr x,v=>Value.isStrOf x v
def keyH(w:World):aD->Int
 | .inl k=>hashInt k
 | .inr x=>hashStr w x
theorem lO:∀{k:aD} {v:Value},qR k v=true->(∃i t,k=Sum.inl i/\v=Value.int i t)\/ (∃x t,k=Sum.inr x/\v=Value.str x t)
 | .inl i,v,h=>by
  obtain⟨t,e⟩:=Value.isInt_shape (k:=i) (v:=v) h;exact .inl ⟨i,t,rfl,e⟩
 | .inr x,v,h=>by
  obtain⟨t,e⟩:=Value.isStrOf_shape (x:=x) (v:=v) h;exact .inr ⟨x,t,rfl,e⟩
theorem a92(i:Int)(t:Tok):qR (.inl i) (.int i t)=true:=by simp[qR,Value.isInt]
theorem b0X(x:Str)(t:Tok):qR (.inr x) (.str x t)=true:=by simp[qR,Value.isStrOf]
theorem a6O(a b:Int):decide ((Sum.inl a:aD)=Sum.inl b)=(a==b):=by
 by_cases e:a=b
 ·subst e;simp
 ·have h:¬(Sum.inl a:aD)=Sum.inl b:=λq=>e (Sum.inl.inj q)
  rw[decide_eq_false h];exact(beq_eq_false_iff_ne.mpr e).symm
theorem a7p(a b:Str):decide ((Sum.inr a:aD)=Sum.inr b)=decide (a=b):=by
 by_cases e:a=b
 ·subst e;simp
 ·have h:¬(Sum.inr a:aD)=Sum.inr b:=λq=>e (Sum.inr.inj q)
  rw[decide_eq_false h,decide_eq_false e]
theorem a5G(a:Int)(b:Str):decide ((Sum.inl a:aD)=Sum.inr b)=false:=decide_eq_false (λq=>nomatch q)
theorem a7k(a:Str)(b:Int):decide ((Sum.inr a:aD)=Sum.inl b)=false:=decide_eq_false (λq=>nomatch q)
def fC(prog:Program)(w:World):PySem.KeyKind prog w aD where
 is:=qR
 hash:=keyH w
 inj:=λv a b ha hb=>by
  rcases lO ha with⟨i,t,rfl,rfl⟩|⟨x,t,rfl,rfl⟩
  ·rcases lO hb with⟨j,u,rfl,e⟩|⟨y,u,rfl,e⟩
   ·injection e with e1 _;rw[e1]
   ·exact nomatch e
  ·rcases lO hb with⟨j,u,rfl,e⟩|⟨y,u,rfl,e⟩
   ·exact nomatch e
   ·injection e with e1 _;rw[e1]
 byValue:=λk v h=>by
  rcases lO h with⟨i,t,rfl,rfl⟩|⟨x,t,rfl,rfl⟩<;>rfl
 pyHash:=λhv h=>by
  rcases lO hv with⟨i,t,rfl,rfl⟩|⟨x,t,rfl,rfl⟩
  ·exact wpAny_pyHash_int h
  ·exact wpAny_pyHash_str h
 eqBool:=λhu hv h=>by
  rcases lO hu with⟨i,t,rfl,rfl⟩|⟨x,t,rfl,rfl⟩
  ·rcases lO hv with⟨j,u,rfl,rfl⟩|⟨y,u,rfl,rfl⟩
   ·rw[a6O]at h;exact wpAny_eqBool_int h
   ·rw[a5G]at h;exact SeqAt.EqAt.int_str i t y u _ _ _ _ h
  ·rcases lO hv with⟨j,u,rfl,rfl⟩|⟨y,u,rfl,rfl⟩
   ·rw[a7k]at h;exact SeqAt.EqAt.str_int x t j u _ _ _ _ h
   ·rw[a7p]at h;exact wpAny_eqBool_str h
 «strs» :=λk x t v h=>by
  rcases lO h with⟨i,u,rfl,e⟩|⟨y,u,rfl,e⟩
  ·exact nomatch e
  ·injection e with e1 _
   subst e1;cases v<;>rfl
theorem a6F(prog:Program)(w:World)(i:Int)(t:Tok):(fC prog w).is (.inl i) (.int i t)=true:=a92 i t
theorem a5W(prog:Program)(w:World)(x:Str)(t:Tok):(fC prog w).is (.inr x) (.str x t)=true:=b0X x t
inductive V where
 |non|bl(b:Bool)|int(i:Int)|str(x:Str)|byt(b:Array UInt8)|flt(b:UInt64)|ref(a:Addr)|ty(n:String)
 deriving DecidableEq
variable{xs vs ys:List V}{v y:V}{kvs kb:List (aD×V)}
def bQ:V->Value->Prop
 | .non,u=>u=Value.none
 | .bl b,u=>u=Value.bool b
 | .int i,u=>∃t,u=Value.int i t
 | .str x,u=>∃t,u=Value.str x t
 | .byt b,u=>∃t,u=Value.bytes b t
 | .flt b,u=>∃t,u=Value.float b t
 | .ref a,u=>u=Value.ref a
 | .ty n,u=>u=Value.type n
abbrev bK:List V->List Value->Prop:=Paired bQ
theorem bK.length(r:bK xs us):xs.length=us.length:=Paired.length r
theorem bK.get:∀{xs:List V} {us:List Value} {i:Nat} {x:V},bK xs us->xs[i]?=some x->∃u,us[i]?=some u/\bQ x u
 |_,_,_,_,.nil,e=>by simp at e
 |_,_,0,_,.cons r _,e=>by simp at e;subst e;exact⟨_,rfl,r⟩
 |_,_,i+ 1,x,.cons _ t,e=>by
  obtain⟨u,h1,h2⟩:=bK.get (i:=i) (x:=x) t (by simpa using e);exact⟨u,by simpa using h1,h2⟩
theorem bK.set{x:V}{u:Value}(r:bQ x u):∀{xs:List V} {us:List Value} (i:Nat),bK xs us->bK (xs.set i x) (us.set i u)
 |_,_,_,.nil=> .nil
 |_,_,0,.cons _ t=> .cons r t
 |_,_,i+ 1,.cons q t=> .cons q (bK.set r i t)
theorem bK.append:∀{xs ys:List V} {us ws:List Value},bK xs us->bK ys ws->bK (xs++ ys) (us++ ws)
 |_,_,_,_,.nil,s=>s
 |_,_,_,_,.cons r t,s=> .cons r (bK.append t s)
theorem bK.take:∀{xs:List V} {us:List Value} (n:Nat),bK xs us->bK (xs.take n) (us.take n)
 |_,_,0,_=> .nil
 |_,_,_+ 1,.nil=> .nil
 |_,_,n+ 1,.cons r t=> .cons r (bK.take n t)
theorem bK.drop:∀{xs:List V} {us:List Value} (n:Nat),bK xs us->bK (xs.drop n) (us.drop n)
 |_,_,0,r=>r
 |_,_,_+ 1,.nil=> .nil
 |_,_,n+ 1,.cons _ t=>bK.drop n t
def gK:Option V->Option Value->Prop
 |some v,some u=>bQ v u
 |none,none=>True
 |_,_=>False
def KV{κ:Type}:List (κ×V)->List (κ×Value)->Prop:=Paired fun(p:κ×V) (q:κ×Value)=>p.1=q.1/\bQ p.2 q.2
def kV:aD->V
 | .inl i=> .int i
 | .inr x=> .str x
inductive HO where
 |lst(xs:List V)
 |tup(xs:List V)
 |dK(kvs:List (aD×V))|dT(kvs:List (List aD×V))
 |set(S:Int->Bool)(n:Nat)
 |ins(C dx:Addr)(fs:List (Str×V))
 |own(x:Addr)
 |xd(fs:List (Str×V))
 |met(f x:Addr)
 |rng(lo hi:Int)
 |frz(o:Obj)(u:HO)
 |tbl(ps:Array Value)
 |ext(φ:Heap->Prop)
abbrev Hp:=Addr->Option HO
variable{H H' H1 H2 H0 Hb:Hp}{o:HO}{RN Φ:Hp->V->Prop}
def upd(H:Hp)(a:Addr)(o:HO):Hp:=λb=>if b=a then some o else H b
theorem aG:upd H a o a=some o:=by unfold upd;rw[if_pos rfl]
theorem aF(h:b≠a):upd H a o b=H b:=by unfold upd;rw[if_neg h]
theorem jG{u:HO}(h:H a=some o)(h':H b=some u)(d:o≠u):a≠b:=by
 intro e;subst e;rw[h]at h';exact d (Option.some.inj h')
theorem bE(h:H a=some o)(h':H b=none):a≠b:=by
 intro e;subst e;rw[h]at h';cases h'
section
variable(P:Program)(w:World)
def cX(H:Hp)(h:Heap)(a:Addr):HO->Prop
 | .lst xs=>xs.length<=sizeLine/\∃(its:List Value) (n:Nat),bK xs its/\h.get? a=some {cls:=.type "list",data:=.seq its.toArray n}
 | .tup xs=>xs.length<=sizeLine/\∃its:List Value,bK xs its/\IsTup h a its.toArray
 | .dK kvs=>kvs.length<=sizeLine/\(a==sysModules)=false/\∃vs,KV kvs vs/\h.DictOf (fC P w) a vs
 | .dT kvs=>kvs.length<=sizeLine/\(a==sysModules)=false/\∃xs:List (List aD×Addr×Value),
  Paired (fun(p:List aD×V) (q:List aD×Addr×Value)=>p.1=q.1/\H q.2.1=some (.tup (p.1.map kV))/\bQ p.2 q.2.2) kvs xs/\
  ∃o es ep,h.get? a=some o/\o.ExactDict/\o.data= .dict es ep/\es.toList=xs.map (entryOfKey (tupleKind (fC P w)))/\(xs.map (·.1)).Nodup
 | .set S n=>h.SetOf (intKind P w) a S n
 | .ins C dx fs=>H dx=some (.own a)/\fs.length<=1000/\dx≠a/\h.get? a=some (W.instObj C dx)/\
  ∃mA,h.Ns1 dx mA/\(∀f,gK (fs.lookup f) (mA f))/\PySem.Within mA (fs.map (·.1))
 | .own _=>∃o,h.get? a=some o
 | .xd fs=>∃mA,h.Ns1 a mA/\∀f,gK (fs.lookup f) (mA f)
 | .rng lo hi=>∃t u v,h.get? a=some {cls:=.type "range",data:=.fields #[.int lo t,.int hi u,.int 1 v]}
 | .frz o u=>h.get? a=some o/\cX H h a u
 | .tbl ps=>h.get? a=some {cls:=.none,data:=.fields ps}
 | .met f x=>h.get? a=some (W.methodObj (.ref f) (.ref x))
 | .ext φ=>φ h/\(∃o,h.get? a=some o)/\∀h1 h2:Heap,φ h1->(∀o,h1.get? a=some o->h2.get? a=some o)->φ h2
def dN(H:Hp)(h:Heap):Prop:=∀a o,H a=some o->cX P w H h a o
end
section
theorem cX.lt(x:cX P w H h a o):a<h.objs.size:=by
 cases o with
 |lst xs=>obtain⟨_,_,_,_,e⟩:=x;exact Heap.lt_size e
 |tup xs=>obtain⟨_,_,_,p⟩:=x;exact p.lt
 |dK kvs=>obtain⟨_,_,_,_,o,_,_,e,_⟩:=x;exact Heap.lt_size e
 |dT kvs=>obtain⟨_,_,_,_,o,_,_,e,_⟩:=x;exact Heap.lt_size e
 |set S n=>obtain⟨o,_,_,_,e,_⟩:=x;exact Heap.lt_size e
 |ins C dx fs=>obtain⟨_,_,_,e,_⟩:=x;exact Heap.lt_size e
 |own y=>obtain⟨_,e⟩:=x;exact Heap.lt_size e
 |xd fs=>obtain⟨_,⟨_,_,_,e,_⟩,_⟩:=x;exact Heap.lt_size e
 |rng lo hi=>obtain⟨_,_,_,e⟩:=x;exact Heap.lt_size e
 |frz ob u=>obtain⟨e,_⟩:=x;exact Heap.lt_size e
 |tbl ps=>exact Heap.lt_size (show h.get? a=some _ from x)
 |met f y=>exact Heap.lt_size (show h.get? a=some _ from x)
 |ext φ=>obtain⟨_,⟨_,e⟩,_⟩:=x;exact Heap.lt_size e
theorem Paired.mapP{α β:Type}{F G:α->β->Prop}:∀{l₁:List α} {l₂:List β},Paired F l₁ l₂->(∀a b,F a b->G a b)->Paired G l₁ l₂
 |_,_,.nil,_=> .nil
 |_,_,.cons r t,f=> .cons (f _ _ r) (Paired.mapP t f)
theorem cX.stay(x:cX P w H h a o)(k:∀b u,(b=a\/ H b=some (.own a))->h.get? b=some u->h'.get? b=some u)
 (ho:∀b,H b=some (.own a)->H' b=some (.own a))(ht:∀b xs,H b=some (.tup xs)->H' b=some (.tup xs)):cX P w H' h' a o:=by
 induction o with
 |lst xs=>obtain⟨z,its,n,r,e⟩:=x;exact⟨z,its,n,r,k _ _ (.inl rfl) e⟩
 |tup xs=>obtain⟨z,its,r,ob,e,c⟩:=x;exact⟨z,its,r,ob,k _ _ (.inl rfl) e,c⟩
 |dK kvs=>obtain⟨z,y,vs,r,ob,es,ep,e,c⟩:=x;exact⟨z,y,vs,r,ob,es,ep,k _ _ (.inl rfl) e,c⟩
 |dT kvs=>
  obtain⟨z,y,xs,r,ob,es,ep,e,c⟩:=x;exact⟨z,y,xs,Paired.mapP r λp q z=>⟨z.1,ht _ _ z.2.1,z.2.2⟩,ob,es,ep,k _ _ (.inl rfl) e,c⟩
 |set S n=>obtain⟨ob,es,ep,t,e,c⟩:=x;exact⟨ob,es,ep,t,k _ _ (.inl rfl) e,c⟩
 |ins C dx fs=>
  obtain⟨d,z,ne,e,mA,⟨od,es,ep,e2,c⟩,r⟩:=x;exact⟨ho _ d,z,ne,k _ _ (.inl rfl) e,mA,⟨od,es,ep,k _ _ (.inr d) e2,c⟩,r⟩
 |own y=>obtain⟨ob,e⟩:=x;exact⟨ob,k _ _ (.inl rfl) e⟩
 |xd fs=>obtain⟨mA,⟨od,es,ep,e,c⟩,r⟩:=x;exact⟨mA,⟨od,es,ep,k _ _ (.inl rfl) e,c⟩,r⟩
 |rng lo hi=>obtain⟨t,u,v,e⟩:=x;exact⟨t,u,v,k _ _ (.inl rfl) e⟩
 |frz ob u ih=>obtain⟨e,q⟩:=x;exact⟨k _ _ (.inl rfl) e,ih q⟩
 |tbl ps=>
  have e:h.get? a=some {cls:=.none,data:=.fields ps}:=x;show h'.get? a=some {cls:=.none,data:=.fields ps};exact k a _ (.inl rfl) e
 |met f y=>
  have e:h.get? a=some (W.methodObj (.ref f) (.ref y)):=x;show h'.get? a=some (W.methodObj (.ref f) (.ref y));exact k a _ (.inl rfl) e
 |ext φ=>obtain⟨p,⟨o,e⟩,st⟩:=x;exact⟨st _ _ p λo q=>k _ _ (.inl rfl) q,⟨o,k _ _ (.inl rfl) e⟩,st⟩
theorem dN.lt(x:dN P w H h)(e:H a=some o):a<h.objs.size:=(x a o e).lt
theorem dN.fresh(x:dN P w H h)(e:h.objs.size<=a):H a=none:=by
 cases q:H a with
 |none=>rfl
 |some u=>exact absurd (Nat.lt_of_lt_of_le (x.lt q) e) (Nat.lt_irrefl _)
theorem dN.kept(x:dN P w H h)(k:∀b u,h.get? b=some u->h'.get? b=some u):dN P w H h':=λa o e=>
 (x a o e).stay (λb u _ q=>k b u q) (λ_ q=>q) λ_ _ q=>q
theorem dN.laid(x:dN P w H h)(k:∀b u,h.get? b=some u->h'.get? b=some u)(hp:h.objs.size<=a)(new:cX P w (upd H a o) h' a o):dN P w (upd H a o) h':=λb u e=>by
 have hn:=x.fresh hp;by_cases hb:b=a
 ·subst hb;rw[aG]at e;cases e;exact new
 ·rw[aF hb]at e
  exact(x b u e).stay (λc v _ q=>k c v q) (λc q=>by rw[aF (bE q hn)];exact q) λc xs q=>by rw[aF (bE q hn)];exact q
end
def Rd(H:Hp)(a:Addr)(u:HO):Prop:=H a=some u\/ ∃o,H a=some (.frz o u)
theorem Rd.ok{u:HO}(r:Rd H a u)(x:dN P w H h):cX P w H h a u:=by
 rcases r with r|⟨o,r⟩
 ·exact x a u r
 ·obtain⟨_,q⟩:=x a _ r
  exact q
def sL:Option HO->Prop
 |some (.lst _)=>True
 |some (.dK _)=>True
 |some (.dT _)=>True
 |some (.set _ _)=>True
 |some (.ins _ _ _)=>True
 |some (.ext _)=>True
 |_=>False
section
variable{x e:Addr}{o':HO}
theorem dN.write(ok:dN P w H h)(mu:sL (H x))(he:e=x\/ H e=some (.own x))(k:∀b u,b≠e->h.get? b=some u->h'.get? b=some u)(heo:∃u,h'.get? e=some u)
 (new:cX P w (upd H x o') h' x o'):dN P w (upd H x o') h':=λb u q=>by
 have nown:∀c y,H c=some (.own y)->c≠x:=λc y r z=>by subst z;rw[r]at mu;exact mu
 have ntup:∀c xs,H c=some (.tup xs)->c≠x:=λc xs r z=>by subst z;rw[r]at mu;exact mu
 by_cases hb:b=x
 ·subst hb;rw[aG]at q;cases q;exact new
 ·rw[aF hb]at q
  by_cases hbe:b=e
  ·have q':H b=some (.own x):=by
    rcases he with z|z
    ·exact absurd (hbe.trans z) hb
    ·rw[hbe];exact z
   rw[q]at q';cases q';obtain⟨v,hv⟩:=heo;exact⟨v,by rw[hbe];exact hv⟩
  ·refine(ok b u q).stay (λc v hc r=>k c v ?_ r) (λc r=>by rw[aF (nown c b r)];exact r) λc xs r=>by rw[aF (ntup c xs r)];exact r
   rcases hc with rfl|hc
   ·exact hbe
   ·rintro rfl
    rcases he with z|z
    ·exact nown c b hc z
    ·rw[hc]at z;cases z;exact hb rfl
end
structure Un(fs ex:List Addr)(H H':Hp)(h h':Heap):Prop where
 keep:∀b o,h.get? b=some o->H b=none->b∉fs->b∉ex->h'.get? b=some o
 slot:∀b o,h.get? b=some o->H b=none->b∈fs->b∉ex->∃sl,h'.get? b=some {o with slots:=sl}
 free:∀b o,h.get? b=some o->H b=none->b∉ex->H' b=none
 there:∀b o,h.get? b=some o->b∉ex->∃o',h'.get? b=some o'
 tups:∀b xs,H b=some (.tup xs)->H' b=some (.tup xs)
 frzs:∀b o u,H b=some (.frz o u)->H' b=some (.frz o u)
 tbls:∀b ps,H b=some (.tbl ps)->∃more,H' b=some (.tbl (ps++ more))
section
variable{fs fs' ex ex':List Addr}{h1 h2:Heap}{x e:Addr}
theorem Un.any(u:Un fs ex H H1 h h1){ob:Obj}(q:h.get? b=some ob)(n:H b=none)(hx:b∉ex):∃sl,h1.get? b=some {ob with slots:=sl}:=by
 by_cases hb:b∈fs
 ·exact u.slot b ob q n hb hx
 ·exact⟨ob.slots,u.keep b ob q n hb hx⟩
theorem Un.kept(k:∀b u,h.get? b=some u->h'.get? b=some u):Un fs ex H H h h':=
 ⟨λb ob q _ _ _=>k b ob q,λb ob q _ _ _=>⟨ob.slots,k b ob q⟩,λ_ _ _ n _=>n,λb ob q _=>⟨ob,k b ob q⟩,λ_ _ q=>q,λ_ _ _ q=>q,λ_ ps q=>⟨#[],by rw[q];simp⟩⟩
theorem Un.refl:Un fs ex H H h h:=Un.kept λ_ _ q=>q
theorem Un.laid(k:∀b u,h.get? b=some u->h'.get? b=some u)(hp:h.objs.size<=a)(hn:H a=none):Un fs ex H (upd H a o) h h' where
 keep:=λb u q _ _ _=>k b u q
 slot:=λb u q _ _ _=>⟨u.slots,k b u q⟩
 free:=λb u q n _=>by rw[aF (Nat.ne_of_lt (Nat.lt_of_lt_of_le (Heap.lt_size q) hp))];exact n
 there:=λb u q _=>⟨u,k b u q⟩
 tups:=λb xs q=>by rw[aF (bE q hn)];exact q
 frzs:=λb u xs q=>by rw[aF (bE q hn)];exact q
 tbls:=λb ps q=>⟨#[],by rw[aF (bE q hn),q];simp⟩
theorem Un.write(mu:sL (H x))(he:e=x\/ H e=some (.own x))(k:∀b u,b≠e->h.get? b=some u->h'.get? b=some u)(heo:∃u,h'.get? e=some u):Un fs ex H (upd H x o) h h':=by
 have hx:∀b,H b=none->b≠x:=λb n z=>by subst z;rw[n]at mu;exact mu
 have hb:∀b,H b=none->b≠e:=λb n z=>by
  subst z
  rcases he with r|r
  ·exact hx b n r
  ·rw[n]at r;cases r
 have hm:∀b u,H b=some u->¬sL (some u)->b≠x:=λb u q nm z=>by subst z;rw[q]at mu;exact nm mu
 refine⟨λb u q n _ _=>k b u (hb b n) q,λb u q n _ _=>⟨u.slots,k b u (hb b n) q⟩,λb u q n _=>by rw[aF (hx b n)];exact n,λb u q _=> ?_,
  λb xs q=>by rw[aF (hm b _ q λz=>z)];exact q,λb u xs q=>by rw[aF (hm b _ q λz=>z)];exact q,λb ps q=>⟨#[],by rw[aF (hm b _ q λz=>z),q];simp⟩⟩
 by_cases hbe:b=e
 ·subst hbe;exact heo
 ·exact⟨u,k b u hbe q⟩
end
noncomputable def wN (h:Heap) (H:Hp):List Addr:=(List.range h.objs.size).filter λa=>(H a).isSome
noncomputable def lG (h:Heap) (H:Hp):Heap:=W.hideAll h (wN h H)
theorem a7M(h:Heap)(H:Hp):(lG h H).objs.size=h.objs.size:=W.hideAll_size _ _
theorem a5B{o:Obj}(e:h.get? b=some o)(n:H b=none):(lG h H).get? b=some o:=
 W.hideAll_get _ e λhm=>by
  have q:(H b).isSome=true:=(List.mem_filter.mp hm).2;rw[n]at q;simp at q
theorem b1b{o:Obj}(e:(lG h H).get? b=some o):h.get? b=some o/\H b=none:=by
 have e':h.get? b=some o:=W.of_hideAll (wN h H) e;refine⟨e',?_⟩
 cases q:H b with
 |none=>rfl
 |some x=>
  have hm:b∈wN h H:=List.mem_filter.mpr ⟨List.mem_range.mpr (Heap.lt_size e'),by simp[q]⟩;have z:(lG h H).get? b=none:=W.hideAll_none (wN h H) hm;rw[z]at e;cases e
def a7J(g h:Heap)(L:Addr):List (Addr×Obj):=(List.range h.objs.size).filterMap λa=>if a=L\/ (g.get? a).isSome=true then none else(h.get? a).map λo=>(a,o)
def fI(g h:Heap)(L d:Addr):List (Addr×Obj):=(a7J g h L).filter λp=>decide (p.1≠d)
structure Mod(K:Fg)(mg:Str->Option Value)(af:Heap):Prop where
 kin:K.In af
 glob:af.Ns mainGlobals mg
 blt:∃mb,af.Ns builtinsNs mb/\∀x:Str,x≠ "__name__" ->mb x=bootBuiltins x
 nolimit:af.NoLimit
structure Cx where
 prog:Program
 w:World
 K:Fg
 mg:Str->Option Value
 base:Heap
 A:Around
 N:List Str
 s₀:Shared
 H₀:Hp
 env:Env
 outer:List Env
 stack:List Env
 ex:List Addr
 fn:Str->Bool
 calm:Bool
 pn:List (Addr×Obj)
 xe:Value->Shared->Prop
variable{X:Cx}
def eT(l:List Env):List Addr:=l.filterMap (·.frame)
abbrev Cx.fs(X:Cx):List Addr:=eT X.outer
def wR(sc:Scope)(x:Str):Prop:=sc.names.lookup x=some .local\/ sc.names.lookup x=some .cell\/ sc.names.lookup x=some .free
def rJ(sc:Scope)(x:Str):Prop:=sc.names.lookup x=some .local\/ sc.names.lookup x=some .cell
def Look(env:Env)(h:Heap)(m:Str->Option Value)(x:Str)(u:Value):Prop:=
 (env.kindOf x=some .local/\m x=some u)\/ ((env.kindOf x=some .cell\/ env.kindOf x=some .free)/\∃c,env.cells.lookup x=some c/\h.IsCell c (some u))
structure Cx.Ok(X:Cx):Prop where
 mod:Mod X.K X.mg X.base
 kind:X.env.scope.kind= .function
 glob:X.env.globals=mainGlobals
 blt:X.env.builtins=builtinsNs
 above:X.s₀.heap.objs.size<=X.env.locals
 inj:∀x y c,X.env.cells.lookup x=some c->X.env.cells.lookup y=some c->x=y
 has:∀x,(X.env.kindOf x=some .cell\/ X.env.kindOf x=some .free)->∃c,X.env.cells.lookup x=some c
 cab:∀x c,X.fn x=true->X.env.cells.lookup x=some c->X.s₀.heap.objs.size<=c
 hd:X.calm=true->X.A.handled=none
 frames:X.A.frames=some X.stack
 stk:X.stack=X.outer\/ (X.stack=X.env::X.outer/\X.env.frame=some X.env.locals)
 exf:∀b∈X.ex,b≠X.env.locals/\∀x c,X.env.cells.lookup x=some c->c≠b
 bs:∀b o,X.base.get? b=some o->X.s₀.heap.get? b=some o/\X.H₀ b=none
 bsz:X.base.objs.size<=X.s₀.heap.objs.size
 noex:∀b o,X.base.get? b=some o->b∉X.ex
 exfs:∀b∈X.ex,b∉X.fs
 funs:X.s₀.heap.FunFrames X.base X.outer
 frf:∀b∈X.fs,X.H₀ b=none
structure aE(X:Cx)(ae:List (Addr×Obj))(σ:List (Option V))(H:Hp)(s:Shared):Prop where
 ok:X.Ok
 os:s.os=X.s₀.os
 bare:AllBare s.gens
 base:Un X.fs X.ex X.H₀ H X.s₀.heap s.heap
 loc:∃m,s.heap.Ns X.env.locals m/\∀(i:Nat) (x:Str) (v:V),X.N[i]?=some x->σ[i]?=some (some v)->wR X.env.scope x->∃u,bQ v u/\Look X.env s.heap m x u
 cell:∀x c,X.env.cells.lookup x=some c->∃v,s.heap.IsCell c v
 free:H X.env.locals=none
 freeC:∀x c,X.env.cells.lookup x=some c->H c=none
 pin:∀p∈X.pn++ ae,s.heap.get? p.1=some p.2/\H p.1=none/\p.1≠X.env.locals/\p.1∉X.fs/\∀v,p.2.data≠ .cell v
 hok:dN X.prog X.w H s.heap
 len:σ.length=X.N.length
section
variable{σ:List (Option V)}{s:Shared}
theorem Cx.Ok.nofr(ok:X.Ok){o:Obj}(e:X.base.get? b=some o):b∉X.fs:=λhb=>by
 have:=(ok.funs.mem hb).1;rw[e]at this;cases this
theorem aE.bs(I:aE X ae σ H s):∀b o,X.base.get? b=some o->s.heap.get? b=some o/\H b=none:=λb o e=>
 ⟨I.base.keep b o (I.ok.bs b o e).1 (I.ok.bs b o e).2 (I.ok.nofr e) (I.ok.noex b o e),I.base.free b o (I.ok.bs b o e).1 (I.ok.bs b o e).2 (I.ok.noex b o e)⟩
theorem aE.bk(I:aE X ae σ H s):∀b o,X.base.get? b=some o->s.heap.get? b=some o:=λb o e=>(I.bs b o e).1
theorem aE.mod(I:aE X ae σ H s):Mod X.K X.mg X.base:=I.ok.mod
theorem aE.kIn(I:aE X ae σ H s):X.K.In s.heap:=I.ok.mod.kin.keeps I.bk
theorem aE.lt(I:aE X ae σ H s):X.env.locals<s.heap.objs.size:=let ⟨_,hn,_⟩:=I.loc;hn.lt
theorem aE.sz(I:aE X ae σ H s):X.s₀.heap.objs.size<=s.heap.objs.size:=Nat.le_trans I.ok.above (Nat.le_of_lt I.lt)
theorem aE.nofs(I:aE X ae σ H s)(h:s.heap.objs.size<=a):a∉X.fs:=λhb=>by
 obtain⟨_,o,ho,_⟩:=I.ok.funs.mem hb;exact absurd (Nat.lt_of_lt_of_le (Heap.lt_size ho) (Nat.le_trans I.sz h)) (Nat.lt_irrefl _)
theorem aE.cne(I:aE X ae σ H s):∀x c,X.env.cells.lookup x=some c->c≠X.env.locals:=λx c e z=>by
 obtain⟨v,o,ho,hd⟩:=I.cell x c e;obtain⟨m,⟨o',es,ep,ho',hd',_⟩,_⟩:=I.loc;rw[z,ho']at ho;cases ho;rw[hd']at hd;cases hd
theorem aE.funs(I:aE X ae σ H s):s.heap.FunFrames X.base X.outer:=by
 have all:∀(l:List Env),(∀b∈eT l,b∈X.fs)->X.s₀.heap.FunFrames X.base l->s.heap.FunFrames X.base l:=by
  intro l
  induction l with
  |nil=>intro _ _;trivial
  |cons env r ih=>
   intro hs hl;obtain⟨hk,⟨L,o,hf,hn,ho,hd⟩,hr⟩:=hl;have hL:L∈X.fs:=hs L (by unfold eT;rw[List.filterMap_cons,hf];exact List.mem_cons_self);obtain⟨sl,e⟩:=I.base.slot L o ho (I.ok.frf L hL) hL λz=>I.ok.exfs L z hL
   exact⟨hk,⟨L,_,hf,hn,e,hd⟩,ih (λb hb=>hs b (by unfold eT;rw[List.filterMap_cons,hf];exact List.mem_cons_of_mem _ hb)) hr⟩
 exact all X.outer (λ_ hb=>hb) I.ok.funs
theorem aE.stack(I:aE X ae σ H s):s.heap.FunFrames X.base X.stack:=by
 rcases I.ok.stk with e|⟨e,hf⟩
 ·rw[e];exact I.funs
 ·rw[e]
  obtain⟨m,hn,_⟩:=I.loc;refine .cons (by rw[I.ok.kind];decide) hf hn ?_ I.funs;exact Heap.get?_none_of_le (Nat.le_trans I.ok.bsz I.ok.above)
theorem aE.stkSub(I:aE X ae σ H s):∀b∈eT X.stack,b∈X.env.locals::X.fs:=λb hb=>by
 rcases I.ok.stk with e|⟨e,hf⟩
 ·rw[e]at hb;exact List.mem_cons_of_mem _ hb
 ·rw[e]at hb
  unfold eT at hb;rw[List.filterMap_cons,hf]at hb;exact hb
theorem aE.stkFree(I:aE X ae σ H s):∀b∈eT X.stack,H b=none:=λb hb=>by
 rcases List.mem_cons.mp (I.stkSub b hb)with e|hb
 ·rw[e];exact I.free
 ·obtain⟨_,o,ho,_⟩:=I.ok.funs.mem hb
  exact I.base.free b o ho (I.ok.frf b hb) λz=>I.ok.exfs b z hb
theorem aE.step{g':Array GenState}{t':Nat}{d':Drawn}{ch:List Addr}(I:aE X ae σ H s)
 (hch:∀b∈ch,(b∈X.ex\/ X.s₀.heap.objs.size<=b)/\b≠X.env.locals/\(∀x c,X.env.cells.lookup x=some c->c≠b)/\∀p∈X.pn++ ae,p.1≠b)
 (keep:∀b o,b≠X.env.locals->b∉X.fs->b∉ch->s.heap.get? b=some o->H b=none->h'.get? b=some o)
 (slot:∀b o,b≠X.env.locals->b∈X.fs->b∉ch->s.heap.get? b=some o->H b=none->∃sl,h'.get? b=some {o with slots:=sl})(free:∀b o,b∉ch->s.heap.get? b=some o->H b=none->H' b=none)
 (there:∀b o,b∉ch->s.heap.get? b=some o->∃o',h'.get? b=some o')
 (tups:∀b xs,H b=some (.tup xs)->H' b=some (.tup xs))(frzs:∀b o u,H b=some (.frz o u)->H' b=some (.frz o u))(tbls:∀b ps,H b=some (.tbl ps)->∃more,H' b=some (.tbl (ps++ more)))
 (ns:∀m,s.heap.Ns X.env.locals m->h'.Ns X.env.locals m)(hok:dN X.prog X.w H' h')(hg:AllBare g'):
 aE X ae σ H' {s with heap:=h',gens:=g',drawn:=d',toks:=t'}:=by
 have neL:∀b o,X.s₀.heap.get? b=some o->b≠X.env.locals:=λb o e=>Nat.ne_of_lt (Nat.lt_of_lt_of_le (Heap.lt_size e) I.ok.above)
 have neC:∀b o,X.s₀.heap.get? b=some o->b∉X.ex->b∉ch:=λb o e hx hb=>by
  rcases(hch b hb).1 with z|z
  ·exact hx z
  ·exact absurd (Nat.lt_of_lt_of_le (Heap.lt_size e) z) (Nat.lt_irrefl _)
 have dH:∀x c,X.env.cells.lookup x=some c->∀v,s.heap.IsCell c v->h'.IsCell c v:=λx c e v ⟨o,ho,hd⟩=>by
  have nch:c∉ch:=λz=>(hch c z).2.2.1 x c e rfl
  by_cases hc:c∈X.fs
  ·obtain⟨sl,q⟩:=slot c o (I.cne x c e) hc nch ho (I.freeC x c e)
   exact⟨_,q,hd⟩
  ·exact⟨o,keep c o (I.cne x c e) hc nch ho (I.freeC x c e),hd⟩
 refine⟨I.ok,I.os,hg,⟨λb o e n hb hx=> ?_,λb o e n hb hx=> ?_,λb o e n hx=> ?_,λb o e hx=> ?_,λb xs e=>tups b xs (I.base.tups b xs e),λb o xs e=>frzs b o xs (I.base.frzs b o xs e),λb ps e=> ?_⟩,?_,λx c e=> ?_,?_,λx c e=> ?_,λp hp=> ?_,hok,I.len⟩
 ·exact keep b o (neL b o e) hb (neC b o e hx) (I.base.keep b o e n hb hx) (I.base.free b o e n hx)
 ·obtain⟨sl,e1⟩:=I.base.slot b o e n hb hx
  obtain⟨sl',e2⟩:=slot b _ (neL b o e) hb (neC b o e hx) e1 (I.base.free b o e n hx);exact⟨sl',e2⟩
 ·obtain⟨o',e1⟩:=I.base.there b o e hx
  exact free b o' (neC b o e hx) e1 (I.base.free b o e n hx)
 ·obtain⟨o',e1⟩:=I.base.there b o e hx
  exact there b o' (neC b o e hx) e1
 ·obtain⟨m1,e1⟩:=I.base.tbls b ps e
  obtain⟨m2,e2⟩:=tbls b _ e1;exact⟨m1++ m2,by rw[e2,Array.append_assoc]⟩
 ·obtain⟨m,hn,hl⟩:=I.loc
  refine⟨m,ns m hn,λi x v e1 e2 e3=> ?_⟩;obtain⟨u,r,l⟩:=hl i x v e1 e2 e3;refine⟨u,r,?_⟩
  rcases l with l|⟨k,c,e,z⟩
  ·exact .inl l
  ·exact .inr ⟨k,c,e,dH x c e _ z⟩
 ·obtain⟨v,z⟩:=I.cell x c e
  exact⟨v,dH x c e v z⟩
 ·obtain⟨m,⟨o,_,_,ho,_⟩,_⟩:=I.loc
  exact free _ o (λz=>(hch _ z).2.1 rfl) ho I.free
 ·obtain⟨v,o,ho,hd⟩:=I.cell x c e
  exact free c o (λz=>(hch c z).2.2.1 x c e rfl) ho (I.freeC x c e)
 ·obtain⟨e,n,ne,nf,d⟩:=I.pin p hp
  have nch:p.1∉ch:=λz=>(hch p.1 z).2.2.2 p hp rfl
  exact⟨keep p.1 p.2 ne nf nch e n,free p.1 p.2 nch e n,ne,nf,d⟩
theorem aE.un{t':Nat}(I:aE X ae σ H s)(u:Un X.fs [] H H' s.heap h')(hok:dN X.prog X.w H' h'):aE X ae σ H' {s with heap:=h',toks:=t'}:=by
 obtain⟨m,⟨o,es,ep,ho,r⟩,_⟩:=id I.loc;obtain⟨sl,hL⟩:=u.any ho I.free (by simp)
 exact I.step (g':=s.gens) (d':=s.drawn) (ch:=[]) (λ_ z=>nomatch z) (λb o _ hb _ e n=>u.keep b o e n hb (by simp)) (λb o _ hb _ e n=>u.slot b o e n hb (by simp)) (λb o _ e n=>u.free b o e n (by simp)) (λb o _ e=>u.there b o e (by simp)) u.tups u.frzs u.tbls (λm' hm=>by
  obtain⟨o',es',ep',ho',r'⟩:=hm;rw[ho]at ho';cases ho'
  exact⟨_,es',ep',hL,r'⟩) hok I.bare
theorem aE.call{g':Array GenState}{t':Nat}{d':Drawn}{ch:List Addr}(I:aE X ae σ H s)(u:Un (eT X.stack) ch H H' s.heap h')(hok:dN X.prog X.w H' h')(hg:AllBare g')
 (hch:∀b∈ch,(b∈X.ex\/ X.s₀.heap.objs.size<=b)/\b≠X.env.locals/\(∀x c,X.env.cells.lookup x=some c->c≠b)/\∀p∈X.pn++ ae,p.1≠b):
 aE X ae σ H' {s with heap:=h',gens:=g',drawn:=d',toks:=t'}:=by
 obtain⟨m,⟨o,es,ep,ho,r⟩,_⟩:=id I.loc;obtain⟨sl,hL⟩:=u.any ho I.free λz=>(hch _ z).2.1 rfl
 exact I.step (ch:=ch) hch (λb o hL hb hc e n=>u.keep b o e n (λz=>(List.mem_cons.mp (I.stkSub b z)).elim hL hb) hc) (λb o _ _ hc e n=>u.any e n hc) (λb o hc e n=>u.free b o e n hc) (λb o hc e=>u.there b o e hc) u.tups u.frzs u.tbls (λm' hm=>by
  obtain⟨o',es',ep',ho',r'⟩:=hm;rw[ho]at ho';cases ho'
  exact⟨_,es',ep',hL,r'⟩) hok hg
theorem aE.turned{t':Nat}{it:Addr}(I:aE X ae σ H s)(k:∀b o,b≠it->s.heap.get? b=some o->h'.get? b=some o)(hn:H it=none)(hL:it≠X.env.locals)
 (h1:it∈X.ex\/ X.s₀.heap.objs.size<=it)(h2:∀x c,X.env.cells.lookup x=some c->c≠it)(h3:∀p∈X.pn++ ae,p.1≠it):aE X ae σ H {s with heap:=h',toks:=t'}:=by
 have nit:∀b u,H b=some u->b≠it:=λb u e z=>by rw[z,hn]at e;cases e
 refine I.step (g':=s.gens) (d':=s.drawn) (ch:=[it]) (λb hb=> ?_) (λb o _ _ hc e _=>k b o (λz=>hc (by simp[z])) e) (λb o _ _ hc e _=>⟨o.slots,k b o (λz=>hc (by simp[z])) e⟩) (λ_ _ _ _ n=>n)
  (λb o hc e=>⟨o,k b o (λz=>hc (by simp[z])) e⟩) (λ_ _ e=>e) (λ_ _ _ e=>e) (λb ps e=>⟨#[],by rw[e];simp⟩) (λm hm=> ?_) (λb u e=> ?_) I.bare
 ·have e:b=it:=by simpa using hb
  subst e;exact⟨h1,hL,h2,h3⟩
 ·obtain⟨o,es,ep,ho,r⟩:=hm
  exact⟨o,es,ep,k _ o (Ne.symm hL) ho,r⟩
 ·refine(I.hok b u e).stay (λc v hc q=>k c v ?_ q) (λ_ q=>q) λ_ _ q=>q
  rcases hc with z|z
  ·rw[z];exact nit b u e
  ·exact nit c _ z
theorem aE.tok(I:aE X ae σ H s)(t:Nat):aE X ae σ H {s with toks:=t}:=I.un (h':=s.heap) (t':=t) Un.refl I.hok
theorem aE.kept{t':Nat}(I:aE X ae σ H s)(k:∀b u,s.heap.get? b=some u->h'.get? b=some u):aE X ae σ H {s with heap:=h',toks:=t'}:=I.un (Un.kept k) (I.hok.kept k)
theorem aE.laid{t':Nat}(I:aE X ae σ H s)(k:∀b u,s.heap.get? b=some u->h'.get? b=some u)(hp:s.heap.objs.size<=a)(new:cX X.prog X.w (upd H a o) h' a o):
 aE X ae σ (upd H a o) {s with heap:=h',toks:=t'}:=I.un (Un.laid k hp (I.hok.fresh hp)) (I.hok.laid k hp new)
theorem aE.write{x e:Addr}{t':Nat}(I:aE X ae σ H s)(mu:sL (H x))(he:e=x\/ H e=some (.own x))(k:∀b u,b≠e->s.heap.get? b=some u->h'.get? b=some u)(heo:∃u,h'.get? e=some u)
 (new:cX X.prog X.w (upd H x o) h' x o):aE X ae σ (upd H x o) {s with heap:=h',toks:=t'}:=I.un (Un.write mu he k heo) (I.hok.write mu he k heo new)
theorem aE.pins_of{pins':List (Addr×Obj)}(I:aE X ae σ H s)(h:∀p∈pins',s.heap.get? p.1=some p.2/\H p.1=none/\p.1≠X.env.locals/\p.1∉X.fs/\∀v,p.2.data≠ .cell v):aE X pins' σ H s:=
 ⟨I.ok,I.os,I.bare,I.base,I.loc,I.cell,I.free,I.freeC,λp hp=>(List.mem_append.mp hp).elim (λz=>I.pin p (List.mem_append_left _ z)) (h p),I.hok,I.len⟩
theorem yC(hN:N.Nodup)(a:N[i]?=some x)(b:N[j]?=some x):i=j:=by
 obtain⟨h1,e1⟩:=List.getElem?_eq_some_iff.mp a;obtain⟨h2,e2⟩:=List.getElem?_eq_some_iff.mp b;exact(List.getElem_inj hN).mp (e1.trans e2.symm)
theorem a1C{M:Model}{Q:Unit->Shared->Prop}(I:aE X ae σ H s)(hN:X.N.Nodup)(hi:X.N[i]?=some x)(hx:rJ X.env.scope x)(r:bQ v u)
 (h:∀s',aE X ae (σ.set i (some v)) H s'->(∃a,Heap.SameBut a s.heap s'.heap/\(a=X.env.locals\/ X.env.cells.lookup x=some a))->Q () s')(hf:X.fn x=true\/ X.env.scope.names.lookup x=some .local:=by first|exact .inl rfl|exact .inr rfl|assumption):wpAny M A (storeName X.env x u) Q E s:=by
 obtain⟨m,hn,hl⟩:=id I.loc
 have hcls:(X.env.scope.kind== .class||(X.env.scope.kind== .module&&X.env.locals !=X.env.globals))=false:=by rw[I.ok.kind];rfl
 have hiσ:i<σ.length:=by rw[I.len];exact(List.getElem?_eq_some_iff.mp hi).1
 have cne:=I.cne;have tracked:∀{a:Addr} {h':Heap},(∃o,s.heap.get? a=some o/\H a=none)->Heap.SameBut a s.heap h'->dN X.prog X.w H h':=fun{a h'} ha hs b ob e=>by
  obtain⟨_,_,hfree⟩:=ha;refine(I.hok b ob e).stay (λc w' hc q=>(hs.2 c ?_).trans q) (λ_ q=>q) λ_ _ q=>q
  rintro rfl
  rcases hc with rfl|hc
  ·rw[hfree]at e;cases e
  ·rw[hfree]at hc;cases hc
 rcases hx with hk|hk
 ·refine wpAny_storeName_local hk hn (λh' hn' hs=> ?_) hcls
  obtain⟨oL,_,_,hoL,_⟩:=id hn;refine h _ ⟨I.ok,I.os,I.bare,⟨λb o e n hb hx=> ?_,λb o e n hb hx=> ?_,I.base.free,λb o e hx=> ?_,I.base.tups,I.base.frzs,I.base.tbls⟩,⟨_,hn',λj y v' e1 e2 e3=> ?_⟩,λy c e=> ?_,I.free,I.freeC,λp hp=> ?_,tracked ⟨oL,hoL,I.free⟩ hs,by simpa using I.len⟩ ⟨_,hs,.inl rfl⟩
  ·exact(hs.2 b (Nat.ne_of_lt (Nat.lt_of_lt_of_le (Heap.lt_size e) I.ok.above))).trans (I.base.keep b o e n hb hx)
  ·obtain⟨sl,e1⟩:=I.base.slot b o e n hb hx
   exact⟨sl,(hs.2 b (Nat.ne_of_lt (Nat.lt_of_lt_of_le (Heap.lt_size e) I.ok.above))).trans e1⟩
  ·obtain⟨o',e1⟩:=I.base.there b o e hx
   exact⟨o',(hs.2 b (Nat.ne_of_lt (Nat.lt_of_lt_of_le (Heap.lt_size e) I.ok.above))).trans e1⟩
  ·by_cases hj:j=i
   ·subst hj
    rw[hi]at e1;cases e1;rw[List.getElem?_set_self hiσ]at e2;cases e2;exact⟨u,r,.inl ⟨hk,by simp⟩⟩
   ·rw[List.getElem?_set_ne (Ne.symm hj)]at e2
    obtain⟨u',r',q⟩:=hl j y v' e1 e2 e3;refine⟨u',r',?_⟩
    rcases q with⟨k,e⟩|⟨k,c,e,z⟩
    ·refine .inl ⟨k,?_⟩
     have:y≠x:=λe=>hj (yC hN e1 (e▸hi))
     simp[this,e]
    ·exact .inr ⟨k,c,e,z.sameBut hs (cne y c e)⟩
  ·obtain⟨w',z⟩:=I.cell y c e
   exact⟨w',z.sameBut hs (cne y c e)⟩
  ·obtain⟨e,n,ne,nf,d⟩:=I.pin p hp
   exact⟨(hs.2 p.1 ne).trans e,n,ne,nf,d⟩
 ·have hfn:X.fn x=true:=by
   rcases hf with z|z
   ·exact z
   ·rw[z]at hk;cases hk
  obtain⟨c,hc⟩:=I.ok.has x (.inl hk);obtain⟨w',z⟩:=I.cell x c hc;refine wpAny_storeName_cell I.ok.kind hk hc z (λh' hc' hs=> ?_);obtain⟨oc,hoc,hocd⟩:=id z;refine h {s with heap:=h'} ⟨I.ok,I.os,I.bare,⟨λb o e n hb hx=> ?_,λb o e n hb hx=> ?_,I.base.free,λb o e hx=> ?_,I.base.tups,I.base.frzs,I.base.tbls⟩,⟨m,hn.sameBut hs (Ne.symm (cne x c hc)),λj y v' e1 e2 e3=> ?_⟩,λy c' e=> ?_,I.free,I.freeC,λp hp=> ?_,tracked ⟨oc,hoc,I.freeC x c hc⟩ hs,by simpa using I.len⟩ ⟨c,hs,.inr hc⟩
  ·exact(hs.2 b (Nat.ne_of_lt (Nat.lt_of_lt_of_le (Heap.lt_size e) (I.ok.cab x c hfn hc)))).trans (I.base.keep b o e n hb hx)
  ·obtain⟨sl,e1⟩:=I.base.slot b o e n hb hx
   exact⟨sl,(hs.2 b (Nat.ne_of_lt (Nat.lt_of_lt_of_le (Heap.lt_size e) (I.ok.cab x c hfn hc)))).trans e1⟩
  ·obtain⟨o',e1⟩:=I.base.there b o e hx
   exact⟨o',(hs.2 b (Nat.ne_of_lt (Nat.lt_of_lt_of_le (Heap.lt_size e) (I.ok.cab x c hfn hc)))).trans e1⟩
  ·by_cases hj:j=i
   ·subst hj
    rw[hi]at e1;cases e1;rw[List.getElem?_set_self hiσ]at e2;cases e2;exact⟨u,r,.inr ⟨.inl hk,c,hc,hc'⟩⟩
   ·rw[List.getElem?_set_ne (Ne.symm hj)]at e2
    obtain⟨u',r',q⟩:=hl j y v' e1 e2 e3;refine⟨u',r',?_⟩
    rcases q with q|⟨k,c',e,z'⟩
    ·exact .inl q
    ·refine .inr ⟨k,c',e,z'.sameBut hs ?_⟩
     rintro rfl;exact hj (yC hN e1 (I.ok.inj _ _ _ e hc▸hi))
  ·by_cases hcc:c'=c
   ·subst hcc;exact⟨_,hc'⟩
   ·obtain⟨w2,z2⟩:=I.cell y c' e
    exact⟨w2,z2.sameBut hs hcc⟩
  ·obtain⟨e,n,ne,nf,d⟩:=I.pin p hp
   refine⟨(hs.2 p.1 ?_).trans e,n,ne,nf,d⟩;intro q;rw[q,hoc]at e;have q':oc=p.2:=Option.some.inj e;exact d w' (by rw[<- q'];exact hocd)
theorem a0f{M:Model}{Q:Unit->Shared->Prop}(I:aE X ae σ H s)(hN:X.N.Nodup)(hi:X.N[i]?=some x)(hx:rJ X.env.scope x)(r:bQ v u)
 (h:∀s',aE X ae (σ.set i (some v)) H s'->Q () s')(hf:X.fn x=true\/ X.env.scope.names.lookup x=some .local:=by first|exact .inl rfl|exact .inr rfl|assumption):wpAny M A (storeName X.env x u) Q E s:=
 a1C I hN hi hx r (λs' I' _=>h s' I') hf
theorem aE.call'{ch:List Addr}(I:aE X ae σ H s)(ho:s'.os=s.os)(u:Un (eT X.stack) ch H H' s.heap s'.heap)(hok:dN X.prog X.w H' s'.heap)(hg:AllBare s'.gens)
 (hch:∀b∈ch,(b∈X.ex\/ X.s₀.heap.objs.size<=b)/\b≠X.env.locals/\(∀x c,X.env.cells.lookup x=some c->c≠b)/\∀p∈X.pn++ ae,p.1≠b):aE X ae σ H' s':=by
 obtain⟨h',g',d',t',o'⟩:=s';have e:o'=s.os:=ho;subst e;exact I.call (g':=g') (t':=t') (d':=d') u hok hg hch
end
abbrev XK:=Value->Option Addr->Hp->Prop
abbrev St:=List (Option V)
abbrev VK:=V->Hp->Prop
abbrev TE:=St->Hp->VK->Prop
abbrev TT:=St->Hp->(Bool->Hp->Prop)->Prop
abbrev TA:=St->Hp->(List V->Hp->Prop)->Prop
structure eG where
 nx:St->Hp->Prop
 rt:VK
 bk:St->Hp->Prop:=λ_ _=>False
 ct:St->Hp->Prop:=λ_ _=>False
abbrev TS:=eG->St->Hp->Prop
variable{ta:TA}{tb tc te tl:TE}{σ:St}{Q:VK}{D:eG}{trs:List (TE×TE)}{tt:TT}
def EP(X:Cx)(ae:List (Addr×Obj))(σ:St)(Q:VK)(u:Value)(s':Shared):Prop:=∃v H',aE X ae σ H' s'/\bQ v u/\Q v H'
def TP(X:Cx)(ae:List (Addr×Obj))(σ:St)(Q:Bool->Hp->Prop)(b:Bool)(s':Shared):Prop:=∃H',aE X ae σ H' s'/\Q b H'
def AP(X:Cx)(ae:List (Addr×Obj))(σ:St)(Q:List V->Hp->Prop)(us:List Value)(s':Shared):Prop:=∃vs H',aE X ae σ H' s'/\bK vs us/\Q vs H'
def SP(X:Cx)(ae:List (Addr×Obj))(D:eG)(f:Flow)(s':Shared):Prop:=
 match f with
 | .next=>∃σ' H',aE X ae σ' H' s'/\D.nx σ' H'
 | .brk=>∃σ' H',aE X ae σ' H' s'/\D.bk σ' H'
 | .cont=>∃σ' H',aE X ae σ' H' s'/\D.ct σ' H'
 | .ret u=>∃v σ' H',aE X ae σ' H' s'/\bQ v u/\D.rt v H'
def PE(X:Cx)(e:Expr)(t:TE):Prop:=
 ∀(ae:List (Addr×Obj)) (s:Shared) (σ:St) (H:Hp) (Q:VK),aE X ae σ H s->t σ H Q->wpAny (model X.prog X.w) X.A (eval e X.env) (EP X ae σ Q) X.xe s
def PT(X:Cx)(e:Expr)(t:TT):Prop:=
 ∀(ae:List (Addr×Obj)) (s:Shared) (σ:St) (H:Hp) (Q:Bool->Hp->Prop),aE X ae σ H s->t σ H Q->wpAny (model X.prog X.w) X.A (isTrue e X.env (eval e X.env)) (TP X ae σ Q) X.xe s
def PW(X:Cx)(e:Expr)(t:TT):Prop:=
 ∀(whole:Sem Value) (ae:List (Addr×Obj)) (s:Shared) (σ:St) (H:Hp) (Q:Bool->Hp->Prop),aE X ae σ H s->t σ H Q->wpAny (model X.prog X.w) X.A (isTrue e X.env whole) (TP X ae σ Q) X.xe s
theorem PW.pt{t:TT}(h:PW X e t):PT X e t:=h _
def PA(X:Cx)(es:List Expr)(t:TA):Prop:=
 ∀(pos:Pos) (ae:List (Addr×Obj)) (s:Shared) (σ:St) (H:Hp) (Q:List V->Hp->Prop),aE X ae σ H s->t σ H Q->wpAny (model X.prog X.w) X.A (spliced (backTo pos (starEach es X.env))) (AP X ae σ Q) X.xe s
def PS(X:Cx)(st:Stmt)(t:TS):Prop:=
 ∀(ae:List (Addr×Obj)) (s:Shared) (σ:St) (H:Hp) (D:eG),aE X ae σ H s->t D σ H->wpAny (model X.prog X.w) X.A (exec st X.env) (SP X ae D) X.xe s
def dL(X:Cx)(st:List Stmt)(t:TS):Prop:=
 ∀(ae:List (Addr×Obj)) (s:Shared) (σ:St) (H:Hp) (D:eG),aE X ae σ H s->t D σ H->wpAny (model X.prog X.w) X.A (execs st X.env) (SP X ae D) X.xe s
theorem aV{α:Type}{t:Sem α}{Q Q':α->Shared->Prop}{M:Model}{s:Shared}(h:wpAny M A t Q E s)(hQ:∀a s,Q a s->Q' a s):wpAny M A t Q' E s:=wpAny_mono h hQ λ_ _ x=>x
section
theorem bin{a b:Expr}{ta:TE}(ha:PE X a ta)(hb:PE X b tb){s:Shared}{R:V->V->Hp->Prop}(I:aE X ae σ H s)(h:ta σ H λx H1=>tb σ H1 λy H2=>R x y H2)
 {α:Type}{Q:α->Shared->Prop}{f:Value->Value->Sem α}
 (hf:∀v u s2 x y H2,aE X ae σ H2 s2->bQ x v->bQ y u->R x y H2->wpAny (model X.prog X.w) X.A (f v u) Q X.xe s2):
 wpAny (model X.prog X.w) X.A (eval a X.env) (λv s₁=>wpAny (model X.prog X.w) X.A (eval b X.env) (λu s₂=>wpAny (model X.prog X.w) X.A (f v u) Q X.xe s₂) X.xe s₁) X.xe s:=by
 refine aV (ha ae s σ H _ I h) ?_;rintro v s1 ⟨x,H1,I1,r1,q1⟩;refine aV (hb ae s1 σ H1 _ I1 q1) ?_;rintro u s2 ⟨y,H2,I2,r2,q2⟩;exact hf v u s2 x y H2 I2 r1 r2 q2
inductive a0n(i:Nat)(σ:St)(H:Hp)(Q:VK):Prop
 |mk (v:_):(σ[i]?=some (some v))->(Q v H)->a0n i σ H Q
def gI(i:Nat):TE:=λσ H Q=>a0n i σ H Q
def tC(v:V):TE:=λ_ H Q=>Q v H
theorem a9f(hN:X.N[i]?=some x)(hv:wR X.env.scope x)(hd:(x==("__debug__":Str))=false:=by decide)(hcd:(x==("__classdict__":Str))=false:=by decide):PE X (.Name x pos) (gI i):=by
 intro ae s σ H Q I h;obtain⟨v,e,h⟩:=h;obtain⟨m,hn,hl⟩:=I.loc;obtain⟨u,r,l⟩:=hl i x v hN e hv;have fin:EP X ae σ Q u s:=⟨v,H,I,r,h⟩
 rcases l with⟨hk,hm⟩|⟨hk,c,hc,hcell⟩
 ·exact wpAny_Name (wpAny_loadName_local I.ok.kind hk hn hm fin) hd
 ·rcases hk with hk|hk
  ·exact wpAny_Name (wpAny_loadName_cell I.ok.kind hk hc hcell fin) hd
  ·exact wpAny_Name (wpAny_loadName_free I.ok.kind hk hc hcell fin hcd) hd
theorem aT{i j pos}:PE X (.Constant (.int i) j pos) (tC (.int i)):=λ_ _ _ H _ I h=>wpAny_Constant_int ⟨.int i,H,I.tok _,⟨_,rfl⟩,h⟩
theorem xQ{b j pos}:PE X (.Constant (.bool b) j pos) (tC (.bl b)):=λ_ _ _ H _ I h=>Constant_bool ⟨.bl b,H,I,rfl,h⟩
theorem iD{j pos}:PE X (.Constant .none j pos) (tC .non):=λ_ _ _ H _ I h=>Constant_none ⟨.non,H,I,rfl,h⟩
theorem aW{x j pos}:PE X (.Constant (.str x) j pos) (tC (.str x)):=λ_ _ _ H _ I h=>Calls.Constant_str ⟨.str x,H,I.tok _,⟨_,rfl⟩,h⟩
def Gl(X:Cx)(x:Str):Prop:=X.env.kindOf x=some .globalImplicit
theorem oN{s:Shared}{Q:Value->Shared->Prop}(I:aE X ae σ H s)(hg:Gl X x)(hm:X.mg x=some u)(h:Q u s)
 (hd:(x==("__debug__":Str))=false:=by decide):wpAny (model X.prog X.w) X.A (eval (.Name x pos) X.env) Q E s:=
 Calls.Name_function_global I.ok.kind hg (Calls.loadGlobal_global (by rw[I.ok.glob];exact I.mod.glob.keeps I.bk) hm h) hd
theorem sF{s:Shared}{Q:Value->Shared->Prop}(I:aE X ae σ H s)(hg:Gl X x)(hm:X.mg x=none)(hv:bootBuiltins x=some u)(h:Q u s)
 (hn:x≠ "__name__":=by decide)(hd:(x==("__debug__":Str))=false:=by decide):wpAny (model X.prog X.w) X.A (eval (.Name x pos) X.env) Q E s:=by
 obtain⟨mb,h1,h2⟩:=I.mod.blt;exact Calls.Name_function_global I.ok.kind hg (Calls.loadGlobal_builtin (by rw[I.ok.glob];exact I.mod.glob.keeps I.bk) hm (by rw[I.ok.blt];exact h1.keeps I.bk) ((h2 x hn).trans hv) h) hd
theorem zH(hg:Gl X x)(hm:X.mg x=some u)(r:bQ v u)(hd:(x==("__debug__":Str))=false:=by decide):PE X (.Name x pos) (tC v):=
 λ_ _ _ H _ I h=>oN I hg hm ⟨v,H,I,r,h⟩ hd
theorem a6q(hg:Gl X x)(hm:X.mg x=none)(hv:bootBuiltins x=some u)(r:bQ v u)(hn:x≠ "__name__":=by decide)(hd:(x==("__debug__":Str))=false:=by decide):PE X (.Name x pos) (tC v):=
 λ_ _ _ H _ I h=>sF I hg hm hv ⟨v,H,I,r,h⟩ hn hd
variable{a b:Expr}{ta:TE}
def PC(X:Cx)(op:CmpOp)(a b:Expr)(t:TE):Prop:=
 ∀(ae:List (Addr×Obj)) (s:Shared) (σ:St) (H:Hp) (Q:VK),aE X ae σ H s->t σ H Q->
  wpAny (model X.prog X.w) X.A (eval a X.env) (λv s₁=>wpAny (model X.prog X.w) X.A (eval b X.env) (λu s₂=>wpAny (model X.prog X.w) X.A (compareOp op v u) (EP X ae σ Q) X.xe s₂) X.xe s₁) X.xe s
theorem a5n(b:Expr){op:CmpOp}(h:op≠ .In)(h2:op≠ .NotIn):behindInMarks op b=false:=by
 have e1:(op==CmpOp.In)=false:=by cases op<;>first|rfl|exact absurd rfl h
 have e2:(op==CmpOp.NotIn)=false:=by cases op<;>first|rfl|exact absurd rfl h2
 cases b<;>simp[behindInMarks,e1,e2]
inductive tBQi(Q:Bool->Hp->Prop)(x:V)(H1:Hp):Prop
 |mk (c:_):(x= .bl c)->(Q c H1)->tBQi Q x H1
def tB(t:TE):TT:=λσ H Q=>t σ H (tBQi Q)
theorem sZ{op:CmpOp}{t:TE}(h:PC X op a b t)(h1:behindInMarks op b=false:=by first|exact a5n _ (by decide) (by decide)|rfl):PE X (.Compare a [op] [b] pos) t:=λae s σ H Q I hw=>wpAny_Compare1 (h ae s σ H Q I hw) h1
theorem iY{op:CmpOp}{t:TE}(h:PC X op a b t)(h1:behindInMarks op b=false:=by first|exact a5n _ (by decide) (by decide)|rfl):PT X (.Compare a [op] [b] pos) (tB t):=by
 intro ae s σ H Q I hw;refine wpAny_isTrue_Compare1 (aV (h ae s σ H _ I hw) λv s1 h1=>aV h1 λu s2 h2=>aV h2 λc s3 ⟨x,H1,I1,r1,q1⟩=> ?_) h1;obtain⟨d,rfl,q⟩:=q1;cases r1;exact wpAny_truthy_bool ⟨H1,I1,q⟩
theorem cY{t:TE}(h:PE X e t)(he:∀whole,isTrue e X.env whole=(do let v<- whole;standAt e.pos;holding [v] (truthy v)):=by intro _;rfl):PT X e (tB t):=by
 intro ae s σ H Q I hw;refine isTrue_plain (aV (h ae s σ H _ I hw) ?_) (he _);rintro v s1 ⟨x,H1,I1,r1,q1⟩;obtain⟨d,rfl,q⟩:=q1;cases r1;exact wpAny_truthy_bool ⟨H1,I1,q⟩
variable{tA tB':TT}{fI:List Expr}
def tAnd(t u:TT):TT:=λσ H Q=>t σ H λc H1=>if c=true then u σ H1 Q else Q false H1
def tOr(t u:TT):TT:=λσ H Q=>t σ H λc H1=>if c=true then Q true H1 else u σ H1 Q
def tNot(t:TT):TT:=λσ H Q=>t σ H λc H1=>Q (!c) H1
theorem pH(ha:PT X a tA):PW X (.BoolOp .And [a] pos) tA:=by
 intro wh ae s σ H Q I h;refine isTrue_and (aV (ha ae s σ H Q I h) λc s1 e=> ?_)
 cases c with
 |true=>exact isTrue_and_nil e
 |false=>exact e
theorem fY(ha:PT X a tA):PW X (.BoolOp .Or [a] pos) tA:=by
 intro wh ae s σ H Q I h;refine isTrue_or (aV (ha ae s σ H Q I h) λc s1 e=> ?_)
 cases c with
 |false=>exact isTrue_or_nil e
 |true=>exact e
theorem oQ(ha:PT X a tA)(hb:PW X (.BoolOp .And (b::fI) pos) tB'):PW X (.BoolOp .And (a::b::fI) pos) (tAnd tA tB'):=by
 intro wh ae s σ H Q I h;refine isTrue_and (aV (ha ae s σ H _ I h) ?_);rintro c s1 ⟨H1,I1,q1⟩
 cases c with
 |true=>exact hb wh ae s1 σ H1 Q I1 q1
 |false=>exact⟨H1,I1,q1⟩
theorem fB(ha:PT X a tA)(hb:PW X (.BoolOp .Or (b::fI) pos) tB'):PW X (.BoolOp .Or (a::b::fI) pos) (tOr tA tB'):=by
 intro wh ae s σ H Q I h;refine isTrue_or (aV (ha ae s σ H _ I h) ?_);rintro c s1 ⟨H1,I1,q1⟩
 cases c with
 |true=>exact⟨H1,I1,q1⟩
 |false=>exact hb wh ae s1 σ H1 Q I1 q1
theorem cU(ha:PT X a tA):PT X (.UnaryOp .Not a pos) (tNot tA):=by
 intro ae s σ H Q I h;exact isTrue_not (ha ae s σ H (λc H1=>Q (!c) H1) I h)
inductive a2A(tb:TE)(σ:St)(Q:VK)(x:V)(H1:Hp):Prop
 |mk (c:_):(x= .bl c)->(if c=true then tb σ H1 Q else Q (.bl false) H1)->a2A tb σ Q x H1
def b06(ta tb:TE):TE:=λσ H Q=>ta σ H (a2A tb σ Q)
inductive a3F(tb:TE)(σ:St)(Q:VK)(x:V)(H1:Hp):Prop
 |mk (c:_):(x= .bl c)->(if c=true then Q (.bl true) H1 else tb σ H1 Q)->a3F tb σ Q x H1
def tOrV(ta tb:TE):TE:=λσ H Q=>ta σ H (a3F tb σ Q)
inductive a4z(Q:VK)(x:V)(H1:Hp):Prop
 |mk (c:_):(x= .bl c)->(Q (.bl (!c)) H1)->a4z Q x H1
def a6W(ta:TE):TE:=λσ H Q=>ta σ H (a4z Q)
theorem lE{op}{t:TE}(h:PE X a t):PE X (.BoolOp op [a] pos) t:=λae s σ H Q I hw=>BoolOp_one (h ae s σ H Q I hw)
theorem lM(ha:PE X a ta)(hb:PE X (.BoolOp .And (b::fI) pos) tb):PE X (.BoolOp .And (a::b::fI) pos) (b06 ta tb):=by
 intro ae s σ H Q I h;refine BoolOp_and (aV (ha ae s σ H _ I h) ?_);rintro v s1 ⟨x,H1,I1,r1,q1⟩;obtain⟨c,rfl,q1⟩:=q1;cases r1;refine wpAny_truthy_bool ?_
 cases c with
 |true=>exact hb ae s1 σ H1 Q I1 q1
 |false=>exact⟨.bl false,H1,I1,rfl,q1⟩
theorem b0F(ha:PE X a ta)(hb:PE X (.BoolOp .Or (b::fI) pos) tb):PE X (.BoolOp .Or (a::b::fI) pos) (tOrV ta tb):=by
 intro ae s σ H Q I h;refine BoolOp_or (aV (ha ae s σ H _ I h) ?_);rintro v s1 ⟨x,H1,I1,r1,q1⟩;obtain⟨c,rfl,q1⟩:=q1;cases r1;refine wpAny_truthy_bool ?_
 cases c with
 |false=>exact hb ae s1 σ H1 Q I1 q1
 |true=>exact⟨.bl true,H1,I1,rfl,q1⟩
theorem b0d(ha:PE X a ta):PE X (.UnaryOp .Not a pos) (a6W ta):=by
 intro ae s σ H Q I h;refine UnaryOp_ (aV (ha ae s σ H _ I h) ?_);rintro v s1 ⟨x,H1,I1,r1,q1⟩;obtain⟨c,rfl,q1⟩:=q1;cases r1;exact not_of (wpAny_truthy_bool ⟨.bl (!c),H1,I1,rfl,q1⟩)
end
def aU(K:Fg)(H:Hp)(a:Addr)(xs:List V):Prop:=
 Rd H a (.lst xs)\/
  ∃(o:Obj) (its:Array Value) (n:Nat),K.lookup a=some o/\o.cls= .type "list" /\o.dict=none/\o.data= .seq its n/\its.size<=sizeLine/\bK xs its.toList
def bS(K:Fg)(H:Hp)(a:Addr)(xs:List V):Prop:=
 Rd H a (.tup xs)\/
  ∃(o:Obj) (its:Array Value) (n:Nat),K.lookup a=some o/\o.cls= .type "tuple" /\o.data= .seq its n/\its.size<=sizeLine/\bK xs its.toList
noncomputable def absV:Value->Option V
 | .none=>some .non
 | .bool b=>some (.bl b)
 | .int i _=>some (.int i)
 | .str x _=>some (.str x)
 | .bytes b _=>some (.byt b)
 | .float b _=>some (.flt b)
 | .ref a=>some (.ref a)
 | .type n=>some (.ty n)
 |_=>none
theorem bQ.abs{x:V}(r:bQ x u):absV u=some x:=by
 cases x with
 |non=>cases r;rfl
 |bl _=>cases r;rfl
 |int _=>obtain⟨t,rfl⟩:=r;rfl
 |str _=>obtain⟨t,rfl⟩:=r;rfl
 |byt _=>obtain⟨t,rfl⟩:=r;rfl
 |flt _=>obtain⟨t,rfl⟩:=r;rfl
 |ref _=>cases r;rfl
 |ty _=>cases r;rfl
theorem bQ.inj{x:V}(r:bQ x u)(q:bQ y u):x=y:=Option.some.inj (r.abs.symm.trans q.abs)
theorem bK.inj:∀{xs ys:List V} {us:List Value},bK xs us->bK ys us->xs=ys
 |_,_,_,.nil,.nil=>rfl
 |_,_,_,.cons r t,.cons r' t'=>by rw[r.inj r',bK.inj t t']
section
variable{s:Shared}
theorem aU.of(h:H a=some (.lst xs)):aU K H a xs:=.inl (.inl h)
theorem bS.of(h:H a=some (.tup xs)):bS K H a xs:=.inl (.inl h)
theorem aE.list(I:aE X ae σ H s)(h:aU X.K H a xs):∃its:List Value,bK xs its/\PlainL s.heap a its.toArray/\xs.length<=sizeLine:=by
 rcases h with h|⟨o,its,n,hk,hc,hd,hs,hz,r⟩
 ·obtain⟨z,its,n,r,e⟩:=h.ok I.hok
  exact⟨its,r,⟨_,n,e,rfl,rfl,rfl⟩,z⟩
 ·refine⟨its.toList,r,⟨o,n,I.kIn a o hk,hc,hd,by simpa using hs⟩,?_⟩
  have e:=r.length;simp only[Array.length_toList]at e;omega
theorem aE.tuple(I:aE X ae σ H s)(h:bS X.K H a xs):∃its:List Value,bK xs its/\IsTup s.heap a its.toArray/\xs.length<=sizeLine:=by
 rcases h with h|⟨o,its,n,hk,hc,hs,hz,r⟩
 ·obtain⟨z,its,r,p⟩:=h.ok I.hok
  exact⟨its,r,p,z⟩
 ·refine⟨its.toList,r,⟨o,I.kIn a o hk,hc,n,by simpa using hs⟩,?_⟩
  have e:=r.length;simp only[Array.length_toList]at e;omega
theorem aE.list_inj(I:aE X ae σ H s)(h:aU X.K H a xs)(h':aU X.K H a ys):xs=ys:=by
 obtain⟨its,r,⟨o,n,e,_,_,d⟩,_⟩:=I.list h;obtain⟨its',r',⟨o',n',e',_,_,d'⟩,_⟩:=I.list h';rw[e]at e';cases e';rw[d]at d'
 injection d' with d1 _
 have:its=its':=by simpa using congrArg Array.toList d1
 subst this;exact r.inj r'
end
abbrev Cx.wish(X:Cx)(E:Value->Shared->Prop):Cx:={X with xe:=E}
abbrev Cx.nox(X:Cx):Cx:=X.wish λ_ _=>False
theorem Cx.Ok.wish(ok:X.Ok)(E:Value->Shared->Prop):(X.wish E).Ok:=
 ⟨ok.mod,ok.kind,ok.glob,ok.blt,ok.above,ok.inj,ok.has,ok.cab,ok.hd,ok.frames,ok.stk,ok.exf,ok.bs,ok.bsz,ok.noex,ok.exfs,ok.funs,ok.frf⟩
theorem Cx.Ok.unwish(ok:(X.wish E).Ok):X.Ok:=
 ⟨ok.mod,ok.kind,ok.glob,ok.blt,ok.above,ok.inj,ok.has,ok.cab,ok.hd,ok.frames,ok.stk,ok.exf,ok.bs,ok.bsz,ok.noex,ok.exfs,ok.funs,ok.frf⟩
section
variable{s:Shared}
theorem aE.wish(I:aE X ae σ H s)(E:Value->Shared->Prop):aE (X.wish E) ae σ H s:=⟨I.ok.wish E,I.os,I.bare,I.base,I.loc,I.cell,I.free,I.freeC,I.pin,I.hok,I.len⟩
theorem aE.unwish(I:aE (X.wish E) ae σ H s):aE X ae σ H s:=⟨I.ok.unwish,I.os,I.bare,I.base,I.loc,I.cell,I.free,I.freeC,I.pin,I.hok,I.len⟩
theorem SP.unwish{f:Flow}(h:SP (X.wish E) ae D f s'):SP X ae D f s':=by
 cases f with
 |next=>obtain⟨σ',H',I,q⟩:=h;exact⟨σ',H',I.unwish,q⟩
 |brk=>obtain⟨σ',H',I,q⟩:=h;exact⟨σ',H',I.unwish,q⟩
 |cont=>obtain⟨σ',H',I,q⟩:=h;exact⟨σ',H',I.unwish,q⟩
 |ret u=>obtain⟨v,σ',H',I,r,q⟩:=h;exact⟨v,σ',H',I.unwish,r,q⟩
theorem dL.nox{st:List Stmt}{t:TS}(h:dL X.nox st t):dL X st t:=λae s σ H D I hw=>
 wpAny_mono (h ae s σ H D (I.wish _) hw) (λ_ _ q=>q.unwish) λ_ _ z=>False.elim z
end
section
variable{fI:List Stmt}{t u:TS}
def qP:TS:=λD σ H=>D.nx σ H
def jD(t u:TS):TS:=λD σ H=>t {D with nx:=u D} σ H
theorem bW:dL X [] qP:=λ_ _ σ H _ I h=>wpAny_execs_nil ⟨σ,H,I,h⟩
theorem aJ(h1:PS X st t)(h2:dL X fI u):dL X (st::fI) (jD t u):=by
 intro ae s σ H D I h;refine wpAny_execs_cons (aV (h1 ae s σ H {D with nx:=u D} I h) λf s1 q=> ?_)
 cases f with
 |next=>
  obtain⟨σ',H',I',q⟩:=q;exact h2 ae s1 σ' H' D I' q
 |ret v=>exact q
 |brk=>exact q
 |cont=>exact q
theorem aI(h1:PS X st t):dL X [st] t:=by
 intro ae s σ H D I h;refine wpAny_execs_cons (aV (h1 ae s σ H D I h) λf s1 q=> ?_)
 cases f with
 |next=>exact wpAny_execs_nil q
 |ret v=>exact q
 |brk=>exact q
 |cont=>exact q
theorem aE.quiet{s:Shared}(I:aE X ae σ H s):interactive X.env=false:=by simp[interactive,I.ok.kind]
def a0w(te:TE):TS:=λD σ H=>te σ H λ_ H1=>D.nx σ H1
theorem bT(he:PE X e te)(hs:swapsWith e none pos.line X.env=pure false:=by rfl):PS X (.Expr e pos) (a0w te):=by
 intro ae s σ H D I h;exact wpAny_Expr_any (aV (he ae s σ H _ I h) λv s1 ⟨x,H1,I1,r1,q1⟩=>⟨σ,H1,I1,q1⟩) I.quiet hs
def vB(te:TE):TS:=λD σ H=>te σ H D.rt
theorem cC(he:PE X e te):PS X (.Return (some e) pos) (vB te):=by
 intro ae s σ H D I h;exact wpAny_Return_some (aV (he ae s σ H _ I h) λv s1 ⟨x,H1,I1,r1,q1⟩=>⟨x,σ,H1,I1,r1,q1⟩)
def qX(c:TT)(t u:TS):TS:=λD σ H=>c σ H λb H1=>if b=true then t D σ H1 else u D σ H1
theorem bO{c:Expr}{a b:List Stmt}{tc:TT}(hc:PT X c tc)(ha:dL X a t)(hb:dL X b u):PS X (.If c a b pos) (qX tc t u):=by
 intro ae s σ H D I h;refine wpAny_If (aV (hc ae s σ H _ I h) ?_);rintro d s1 ⟨H1,I1,q1⟩
 cases d with
 |true=>exact ha ae s1 σ H1 D I1 q1
 |false=>exact hb ae s1 σ H1 D I1 q1
end
abbrev TG:=V->St->Hp->(St->Hp->Prop)->Prop
abbrev mJ:=List V->St->Hp->(St->Hp->Prop)->Prop
variable{g:TG}
def PG(X:Cx)(target:Expr)(t:TG):Prop:=
 ∀(ae:List (Addr×Obj)) (s:Shared) (σ:St) (H:Hp) (v:V) (u:Value) (Q:St->Hp->Prop),aE X ae σ H s->bQ v u->t v σ H Q->
  wpAny (model X.prog X.w) X.A (assign target X.env u) (λ_ s'=>∃σ' H',aE X ae σ' H' s'/\Q σ' H') X.xe s
def sG(X:Cx)(ts:List Expr)(t:mJ):Prop:=
 ∀(ae:List (Addr×Obj)) (s:Shared) (σ:St) (H:Hp) (vs:List V) (us:List Value) (Q:St->Hp->Prop),aE X ae σ H s->bK vs us->t vs σ H Q->
  wpAny (model X.prog X.w) X.A (assignInOrder ((assignEach ts X.env).map (·.2)) us) (λ_ s'=>∃σ' H',aE X ae σ' H' s'/\Q σ' H') X.xe s
abbrev zW:=V->V->V->Hp->(Hp->Prop)->Prop
def PSet(X:Cx)(t:zW):Prop:=
 ∀(ae:List (Addr×Obj)) (s:Shared) (σ:St) (H:Hp) (o i v:V) (ov iv u:Value) (Q:Hp->Prop),aE X ae σ H s->bQ o ov->bQ i iv->bQ v u->t o i v H Q->
  wpAny (model X.prog X.w) X.A (setItem ov iv u) (λ_ s'=>∃H',aE X ae σ H' s'/\Q H') X.xe s
section
noncomputable def fT(i:Nat):TG:=λv σ H Q=>Q (σ.set i (some v)) H
theorem fO(hN:X.N.Nodup)(hi:X.N[i]?=some x)(hx:rJ X.env.scope x)(hf:X.fn x=true\/ X.env.scope.names.lookup x=some .local:=by first|exact .inl rfl|exact .inr rfl|assumption):PG X (.Name x pos) (fT i):=by
 intro ae s σ H v u Q I r h;exact wpAny_assign_Name (a0f I hN hi hx r (λs' I'=>⟨_,H,I',h⟩) hf)
inductive a3H(vs:List V)(σ:St)(H:Hp)(Q:St->Hp->Prop):Prop
 |mk:(vs= [])->(Q σ H)->a3H vs σ H Q
noncomputable def qI:mJ:=λvs σ H Q=>a3H vs σ H Q
inductive a3G(t:TG)(u:mJ)(vs:List V)(σ:St)(H:Hp)(Q:St->Hp->Prop):Prop
 |mk (v:_) (r:_):(vs=v::r)->(t v σ H λσ' H'=>u r σ' H' Q)->a3G t u vs σ H Q
noncomputable def kM (t:TG) (u:mJ):mJ:=λvs σ H Q=>a3G t u vs σ H Q
theorem uB:sG X [] qI:=by
 intro ae s σ H vs us Q I r h;obtain⟨e,h⟩:=h;subst e;cases r;exact assignInOrder_nil ⟨σ,H,I,h⟩
theorem lD{t:TG}{u:mJ}(h1:PG X e t)(h2:sG X es u)
 (hs:(assignEach (e::es) X.env).map (·.2)=assign e X.env::(assignEach es X.env).map (·.2):=by rfl):sG X (e::es) (kM t u):=by
 intro ae s σ H vs us Q I r h;obtain⟨v,vr,e1,h⟩:=h;subst e1
 cases r with
 |cons r rr=>
  rw[hs];refine assignInOrder_cons (aV (h1 ae s σ H _ _ _ I r h) ?_);rintro _ s1 ⟨σ1,H1,I1,q1⟩;exact h2 ae s1 σ1 H1 _ _ Q I1 rr q1
inductive a2L(K:Fg)(n:Nat)(t:mJ)(v:V)(σ:St)(H:Hp)(Q:St->Hp->Prop):Prop
 |mk (a:_) (xs:_):(v= .ref a)->(bS K H a xs)->(xs.length=n)->(t xs σ H Q)->a2L K n t v σ H Q
noncomputable def tV (K:Fg) (n:Nat) (t:mJ):TG:=λv σ H Q=>a2L K n t v σ H Q
theorem sK{k:Nat}{t:mJ}(hc:X.calm=true)(h:sG X es t)
 (hn:(assignEach es X.env).length=n:=by rfl)(hst:(assignEach es X.env).findIdx? (·.1)=none:=by rfl):PG X (.Tuple es k pos) (tV X.K n t):=by
 intro ae s σ H v u Q I r hw;obtain⟨a,xs,e1,hq,hl,hw⟩:=hw;subst e1;cases r;obtain⟨its,rv,ht,hz⟩:=I.tuple hq;refine assign_Tuple_tuple (I.ok.hd hc) ht (by simp[hn,<- hl,rv.length]) hst λh' hx=> ?_
 have I1:aE X ae σ H {s with heap:=h'}:=I.kept (t':=s.toks) λb o e=>hx b o (Nat.ne_of_lt (Heap.lt_size e)) e
 exact h ae _ σ H xs _ Q I1 (by simpa using rv) hw
noncomputable def gSub (to ti:TE) (t:zW):TG:=λv σ H Q=>to σ H λo H1=>ti σ H1 λi H2=>t o i v H2 λH3=>Q σ H3
theorem a1w{o i:Expr}{to ti:TE}{t:zW}(ho:PE X o to)(hi:PE X i ti)(hs:PSet X t)
 (ha:∀v,assign (.Subscript o i pos) X.env v=(do
  let ov<- holding [v] (eval o X.env)
  let iv<- holding [v,ov] (eval i X.env)
  standAt pos
  holding [v,ov,iv] (setItem ov iv v)
  release [v,ov,iv] []):=by intro _;rfl):PG X (.Subscript o i pos) (gSub to ti t):=by
 intro ae s σ H v u Q I r h;rw[ha];refine wpAny_bind (wpAny_holding (aV (ho ae s σ H _ I h) ?_));rintro ov s1 ⟨x,H1,I1,r1,q1⟩;refine wpAny_bind (wpAny_holding (aV (hi ae s1 σ H1 _ I1 q1) ?_));rintro iv s2 ⟨y,H2,I2,r2,q2⟩;refine wpAny_bind (wpAny_standAt (wpAny_bind (wpAny_holding (aV (hs ae s2 σ H2 x y v ov iv u _ I2 r1 r2 r q2) ?_))));rintro _ s3 ⟨H3,I3,q3⟩;exact wpAny_release ⟨σ,H3,I3,q3⟩
def lI(te:TE)(g:TG):TS:=λD σ H=>te σ H λx H1=>g x σ H1 D.nx
theorem a0D(he:PE X e te)(hg:PG X tg g)(hs:swapsWithSole [tg] e pos.line X.env=pure false:=by rfl)(hw:swappedStores [tg] e X.env=pure none:=by rfl)
 (h1:(assignEach [tg] X.env).map (·.2)= [assign tg X.env]:=by rfl):PS X (.Assign [tg] e pos) (lI te g):=by
 intro ae s σ H D I h;refine wpAny_Assign_stores (aV (he ae s σ H _ I h) ?_) hs hw;rintro v s1 ⟨x,H1,I1,r1,q1⟩;rw[h1];exact aV (hg ae s1 σ H1 x v _ I1 r1 q1) λ_ s2 q=>q
theorem cD(hN:X.N.Nodup)(hi:X.N[i]?=some x)(hx:rJ X.env.scope x)(he:PE X e te)(hs:swapsWith e (some (.Name x pos')) pos.line X.env=pure false:=by rfl)(hf:X.fn x=true\/ X.env.scope.names.lookup x=some .local:=by first|exact .inl rfl|exact .inr rfl|assumption):
 PS X (.Assign [.Name x pos'] e pos) (lI te (fT i)):=by
 intro ae s σ H D I h;refine wpAny_Assign_Name (aV (he ae s σ H _ I h) ?_) hs;rintro v s1 ⟨y,H1,I1,r1,q1⟩;exact a0f I1 hN hi hx r1 (λs2 I2=>⟨_,H1,I2,q1⟩) hf
def b08(c:TT)(tb:TS):TS:=λD σ H=>∃W:Nat->St->Hp->Prop,(∃m,W m σ H)/\∀m σ H,W m σ H->
 c σ H λb H1=>if b=true then∃N:St->Hp->Prop,(∀σ' H',N σ' H'->∃m',m'<m/\W m' σ' H')/\tb {D with nx:=N,ct:=N,bk:=D.nx} σ H1 else D.nx σ H1
theorem a5h{c:Expr}{tc:TT}{tb:TS}(hp:PassesOwn (model X.prog X.w) X.A X.env X.xe)(hc:PT X c tc)(hb:dL X body tb):PS X (.While c body [] pos) (b08 tc tb):=by
 intro ae s σ H D I h;obtain⟨W,⟨m0,w0⟩,turn⟩:=h;refine wpAny_While (codeAny_whileLoop (λn s'=>∃σ' H',aE X ae σ' H' s'/\W n σ' H') ?_ m0 ⟨σ,H,I,w0⟩);rintro n s1 ⟨σ1,H1,I1,w1⟩;refine wpAny_passesOwn hp (aV (hc ae s1 σ1 H1 _ I1 (turn n σ1 H1 w1)) ?_);rintro b s2 ⟨H2,I2,q2⟩
 cases b with
 |true=>
  obtain⟨N,hN,q2⟩:=q2;rw[if_pos rfl];refine wpAny_passesOwn hp (aV (hb ae s2 σ1 H2 _ I2 q2) λf s3 q3=> ?_)
  cases f with
  |next=>
   obtain⟨σ3,H3,I3,n3⟩:=q3;obtain⟨m',hm,w3⟩:=hN σ3 H3 n3;exact⟨m',hm,σ3,H3,I3,w3⟩
  |cont=>
   obtain⟨σ3,H3,I3,n3⟩:=q3;obtain⟨m',hm,w3⟩:=hN σ3 H3 n3;exact⟨m',hm,σ3,H3,I3,w3⟩
  |brk=>exact q3
  |ret v=>exact q3
 |false=>
  rw[if_neg Bool.false_ne_true];exact wpAny_execs_nil ⟨σ1,H2,I2,q2⟩
end
structure It where
 go:Nat->Hp->Prop
 yld:Nat->Hp->V->Hp->Prop
 stop:Nat->Hp->Prop
variable{J:It}
def kX(X:Cx)(ae:List (Addr×Obj))(H:Hp)(b:Addr):Prop:=
 H b=none/\b≠X.env.locals/\b∉X.fs/\(b∈X.ex\/ X.s₀.heap.objs.size<=b)/\(∀x c,X.env.cells.lookup x=some c->c≠b)/\∀p∈X.pn++ ae,p.1≠b
theorem aE.fpOk{s:Shared}(I:aE X ae σ H s)(hb:s.heap.objs.size<=b)(hn:H' b=none):kX X ae H' b:=by
 refine⟨hn,Nat.ne_of_gt (Nat.lt_of_lt_of_le I.lt hb),I.nofs hb,.inr (Nat.le_trans I.sz hb),λx c e z=> ?_,λp hp z=> ?_⟩
 ·obtain⟨v,q⟩:=I.cell x c e
  exact absurd (Nat.lt_of_lt_of_le q.lt (by rw[z];exact hb)) (Nat.lt_irrefl _)
 ·exact absurd (Nat.lt_of_lt_of_le (Heap.lt_size (I.pin p hp).1) (by rw[z];exact hb)) (Nat.lt_irrefl _)
structure pD(P:Program)(w:World)(K:Fg)(tg:Expr)(J:It)(fp:List Addr)(it:Addr)(tn:Nat->Heap->Prop):Prop where
 mem:it∈fp
 obj:∀i h,tn i h->∀b∈fp,∃o,h.get? b=some o/\∀v,o.data≠ .cell v
 keep:∀i h h',tn i h->(∀b∈fp,∀o,h.get? b=some o->h'.get? b=some o)->tn i h'
 item:∀(X:Cx),X.prog=P->X.w=w->X.K=K->X.calm=true->∀(i:Nat) (ae:List (Addr×Obj)) (s:Shared) (σ:St) (H:Hp) (E:Value->Shared->Prop),aE X ae σ H s->(∀b∈fp,kX X ae H b)->tn i s.heap->J.go i H->
  wpAny (model P w) X.A (pyNext (.ref it)) (λr s1=>∃u,r=some u/\
   wpAny (model P w) X.A (letOwnedTupleGo tg (.ref it) u) (λ_ s2=>∃x H',aE X ae σ H' s2/\bQ x u/\J.yld i H x H'/\tn (i+ 1) s2.heap/\∀b∈fp,H' b=none) E s1) E s
 done:∀(X:Cx),X.prog=P->X.w=w->X.K=K->X.calm=true->∀(i:Nat) (ae:List (Addr×Obj)) (s:Shared) (σ:St) (H:Hp) (E:Value->Shared->Prop),aE X ae σ H s->(∀b∈fp,kX X ae H b)->tn i s.heap->J.stop i H->
  wpAny (model P w) X.A (pyNext (.ref it)) (λr s1=>r=none/\aE X ae σ H s1) E s
 self:∀(A:Around) (i:Nat) (s:Shared) (Q:Value->Shared->Prop) (E:Value->Shared->Prop),tn i s.heap->Q (.ref it) s->wpAny (model P w) A (pyIter (.ref it)) Q E s
abbrev TI:=St->Hp->(It->Hp->Prop)->Prop
variable{wi:TI}
def zF(X:Cx)(ae:List (Addr×Obj))(σ:St)(tg:Expr)(R:It->Hp->Prop)(itv:Value)(s2:Shared):Prop:=
 ∃(it:Addr) (fp:List Addr) (tn:Nat->Heap->Prop) (J:It) (H':Hp),itv= .ref it/\aE X ae σ H' s2/\pD X.prog X.w X.K tg J fp it tn/\tn 0 s2.heap/\(∀b∈fp,kX X ae H' b)/\R J H'
def PI(X:Cx)(tg iter:Expr)(wi:TI):Prop:=
 ∀(ae:List (Addr×Obj)) (s:Shared) (σ:St) (H:Hp) (R:It->Hp->Prop),aE X ae σ H s->wi σ H R->
  wpAny (model X.prog X.w) X.A (eval iter X.env) (λv s1=>wpAny (model X.prog X.w) X.A (pyIter v) (zF X ae σ tg R) X.xe s1) X.xe s
theorem vJ{M:Model}{s:Shared}{it:Addr}{o:Obj}{n:String}{vs:Array Value}{Q:Unit->Shared->Prop}(ho:s.heap.get? it=some o)(hc:o.cls= .type n)(hd:o.data= .fields vs)
 (hn:["enumerate","zip","dict_itemiterator","dict_reverseitemiterator","odict_iterator","itertools.zip_longest","itertools.pairwise"].contains n=false)(hQ:Q () s):wpAny M A (letOwnedTupleGo tg (.ref it) u) Q E s:=by
 unfold letOwnedTupleGo;cases tg<;>first
  |exact wpAny_pure hQ
  |(cases u<;>first
   |exact wpAny_pure hQ
   | (refine wpAny_bind (wpAny_load ho ?_)
      rw[hc,hd];show wpAny M A (if(["enumerate","zip","dict_itemiterator","dict_reverseitemiterator","odict_iterator","itertools.zip_longest","itertools.pairwise"].contains n&&vs[0]?==some (rawInt _))=true then _ else _) Q E s;rw[if_neg (by intro h;rw[hn,Bool.false_and]at h;cases h)]
      exact wpAny_pure hQ))
def pI(K:Fg)(a:Addr):It:=
 ⟨λi H=>∃xs x,aU K H a xs/\xs[i]?=some x,λi H x H'=>H'=H/\∀xs,aU K H a xs->xs[i]?=some x,λi H=>∃xs,aU K H a xs/\xs.length<=i⟩
def mM(lo:Int)(n:Nat):It:=⟨λi _=>i<n,λi H x H'=>H'=H/\x= .int (lo+ i),λi _=>n<=i⟩
theorem a8a(a it:Addr):pD P w K tg (pI K a) [it] it (λi h=>h.IsListIter it a i) where
 mem:=by simp
 obj:=λi h st b hb=>by
  have e:b=it:=by simpa using hb
  subst e;obtain⟨o,e,c,d⟩:=st;exact⟨o,e,λv z=>by rw[d]at z;cases z⟩
 keep:=λi h h' st k=>st.at λo e=>k it (by simp) o e
 item:=by
  intro X hP hw hK hc i ae s σ H E I hf st hg;subst hP hw hK;obtain⟨xs,x,hq,hx⟩:=hg;obtain⟨its,rv,p,hz⟩:=I.list hq;obtain⟨u,hu,ru⟩:=rv.get hx;obtain⟨f0,f1,f2,f3,f4,f5⟩:=hf it (by simp);refine wpAny_pyNext_list_item st p.isList (x:=u) (by simpa using hu) λh' st' sb=> ?_
  have I1:aE X ae σ H {s with heap:=h'}:=I.turned (t':=s.toks) (λb o hb e=>(sb.2 b hb).trans e) f0 f1 f3 f4 f5;obtain⟨o,e,c,d⟩:=id st';exact⟨u,rfl,vJ (s:={s with heap:=h'}) e c d (by decide) ⟨x,H,I1,ru,⟨rfl,λys hy=>by rw[I.list_inj hy hq];exact hx⟩,st',λb hb=>(hf b hb).1⟩⟩
 done:=by
  intro X hP hw hK hc i ae s σ H E I hf st hg;subst hP hw hK;obtain⟨xs,hq,hx⟩:=hg;obtain⟨its,rv,p,hz⟩:=I.list hq;obtain⟨f0,f1,f2,f3,f4,f5⟩:=hf it (by simp);have hl:=rv.length;exact wpAny_pyNext_list_end (I.ok.hd hc) st p.isList (by simp;omega) λh' eb=>⟨rfl,I.turned (t':=s.toks) (λb o hb e=>eb b o hb e) f0 f1 f3 f4 f5⟩
 self:=λ_ _ _ _ _ st h=>wpAny_pyIter_listiter st h
theorem b1a(it:Addr)(lo:Int)(n:Nat):pD P w K tg (mM lo n) [it] it (λi h=>IsRangeIter h it (lo+ (i:Nat)* 1) ((n:Int)- (i:Nat)) 1) where
 mem:=by simp
 obj:=λi h st b hb=>by
  have e:b=it:=by simpa using hb
  subst e
  exact⟨_,st,λv z=>by
   have z':Data.fields _=Data.cell v:=z
   cases z'⟩
 keep:=λi h h' st k=>k it (by simp) _ st
 item:=by
  intro X hP hw hK hc i ae s σ H E I hf st hg;subst hP hw hK;obtain⟨f0,f1,f2,f3,f4,f5⟩:=hf it (by simp);have W:=Walks.range (prog:=X.prog) (w:=X.w) (I.ok.hd hc) it lo 1 n;refine W.item i s _ _ hg st λv h' tk hv st' kk=> ?_
  obtain⟨t,rfl⟩:=hv;have I1:aE X ae σ H {s with heap:=h',toks:=tk}:=I.turned (λb o hb e=>kk b o (by simpa using hb) e) f0 f1 f3 f4 f5;refine⟨_,rfl,vJ (s:={s with heap:=h',toks:=tk}) (n:= "range_iterator") st' rfl rfl (by decide) ⟨.int (lo+ i),H,I1,⟨t,?_⟩,⟨rfl,rfl⟩,st',λb hb=>(hf b hb).1⟩⟩;rw[Int.mul_one]
 done:=by
  intro X hP hw hK hc i ae s σ H E I hf st hg;subst hP hw hK;obtain⟨f0,f1,f2,f3,f4,f5⟩:=hf it (by simp);exact wpAny_pyNext_range_end (I.ok.hd hc) st (by have:n<=i:=hg;omega) λh' eb=>⟨rfl,I.turned (t':=s.toks) (λb o hb e=>eb b o hb e) f0 f1 f3 f4 f5⟩
 self:=λ_ _ _ _ _ st h=>wpAny_pyIter_rangeiter st h
section
inductive a2k(K:Fg)(R:It->Hp->Prop)(x:V)(H1:Hp):Prop
 |mk (a:_):(x= .ref a)->((∃xs,aU K H1 a xs))->(R (pI K a) H1)->a2k K R x H1
def a8D(K:Fg)(tl:TE):TI:=λσ H R=>tl σ H (a2k K R)
theorem kB{l:Expr}(hl:PE X l tl):PI X tg l (a8D X.K tl):=by
 intro ae s σ H R I h;refine aV (hl ae s σ H _ I h) ?_;rintro v s1 ⟨x,H1,I1,r1,q1⟩;obtain⟨a,e,⟨xs,hq⟩,q⟩:=q1;subst e;cases r1;obtain⟨its,rv,p,hz⟩:=I1.list hq;refine wpAny_pyIter_list p.isList ?_;refine⟨s1.heap.objs.size,[s1.heap.objs.size],_,_,H1,rfl,I1.kept (t':=s1.toks) λb o e=>Heap.get?_push_of_some _ e,a8a a _,⟨_,Heap.get?_push_size _ rfl,rfl,rfl⟩,λb hb=> ?_,q⟩
 have e:b=s1.heap.objs.size:=by simpa using hb
 subst e;exact I1.fpOk (Nat.le_refl _) (I1.hok.fresh (Nat.le_refl _))
theorem a2c{s:Shared}{R:It->Hp->Prop}{lo hi:Int}{t u v:Tok}{tk:Nat}(I:aE X ae σ H s)(h1: -(2^ 62)<=lo)(h2:lo<2^ 62)(h3: -(2^ 62)<=hi)(h4:hi<2^ 62)
 (q:R (mM lo (hi- lo).toNat) H):wpAny (model X.prog X.w) X.A (pyIter (.ref s.heap.objs.size)) (zF X ae σ tg R) E {s with heap:=s.heap.push {cls:=.type "range",data:=.fields #[.int lo t,.int hi u,.int 1 v]},toks:=tk}:=by
 refine wpAny_pyIter_range (IsRange.new ..) (small_one h1 h2 h3 h4) ?_;have I1:aE X ae σ H {s with heap:=s.heap.push {cls:=.type "range",data:=.fields #[.int lo t,.int hi u,.int 1 v]},toks:=tk}:=I.kept λb o e=>Heap.get?_push_of_some _ e
 refine⟨(s.heap.push {cls:=.type "range",data:=.fields #[.int lo t,.int hi u,.int 1 v]}).objs.size,[(s.heap.push {cls:=.type "range",data:=.fields #[.int lo t,.int hi u,.int 1 v]}).objs.size],_,_,H,rfl,
  I1.kept (t':=tk) λb o e=>Heap.get?_push_of_some _ e,b1a _ lo (hi- lo).toNat,?_,λb hb=> ?_,q⟩
 ·have e1:lo+ ((0:Nat):Int)* 1=lo:=by simp
  have e2:(((hi- lo).toNat:Nat):Int)- ((0:Nat):Int)=Builtin.Range.rangeSize lo hi 1:=by rw[rangeSize_one];split<;>omega
  show IsRangeIter _ _ (lo+ ((0:Nat):Int)* 1) ((((hi- lo).toNat:Nat):Int)- ((0:Nat):Int)) 1;rw[e1,e2];exact Heap.get?_push_size _ rfl
 ·have e:b=(s.heap.push {cls:=.type "range",data:=.fields #[.int lo t,.int hi u,.int 1 v]}).objs.size:=by simpa using hb
  subst e;exact I1.fpOk (Nat.le_refl _) (I1.hok.fresh (Nat.le_refl _))
inductive a5t(R:It->Hp->Prop)(vs:List V)(H1:Hp):Prop
 |mk (j:Int):(vs= [.int j])->(-(2^ 62)<=j)->(j<2^ 62)->(R (mM 0 j.toNat) H1)->a5t R vs H1
def a7l(ta:TA):TI:=λσ H R=>ta σ H (a5t R)
inductive a3n(R:It->Hp->Prop)(vs:List V)(H1:Hp):Prop
 |mk (i:Int) (j:Int):(vs= [.int i,.int j])->((-(2^ 62)<=i/\i<2^ 62/\ -(2^ 62)<=j/\j<2^ 62))->(R (mM i (j- i).toNat) H1)->a3n R vs H1
def a5F(ta:TA):TI:=λσ H R=>ta σ H (a3n R)
theorem zM{a:Expr}{p:Pos}(hg:Gl X "range")(hm:X.mg "range"=none)(ha:PA X [a] ta)(hs:starEach [a] X.env= [(false,eval a X.env)]:=by rfl):PI X tg (.Call (.Name "range" p) [a] [] pos) (a7l ta):=by
 intro ae s σ H R I h;refine Call_ (sF I hg hm boot_range (PyProof.Rows.callWith_type1 (aV (ha pos ae s σ H _ I h) ?_) hs rfl));rintro us s1 ⟨vs,H1,I1,r1,q1⟩;obtain⟨j,e,q1,q2,q⟩:=q1;subst e
 cases r1 with
 |cons r rr=>
  cases rr;obtain⟨t,rfl⟩:=r;exact call_range_1 (a2c I1 (by omega) (by omega) q1 q2 (by simpa using q))
theorem a1T{a b:Expr}{p:Pos}(hg:Gl X "range")(hm:X.mg "range"=none)(ha:PA X [a,b] ta)(hs:starEach [a,b] X.env= [(false,eval a X.env),(false,eval b X.env)]:=by rfl)(hs2:starEach [b] X.env= [(false,eval b X.env)]:=by rfl):
 PI X tg (.Call (.Name "range" p) [a,b] [] pos) (a5F ta):=by
 intro ae s σ H R I h;refine Call_ (sF I hg hm boot_range (PyProof.Rows.callWith_type1 (aV (ha pos ae s σ H _ I h) λus s1 ⟨vs,H1,I1,r1,q1⟩=> ?_) (by rw[hs,hs2]) (by rw[hs2];rfl)));obtain⟨i,j,e,⟨q1,q2,q3,q4⟩,q⟩:=q1;subst e
 cases r1 with
 |cons r rr=>
  cases rr with
  |cons r' rr=>
   cases rr;obtain⟨t,rfl⟩:=r;obtain⟨t',rfl⟩:=r';exact call_range_2 (a2c I1 q1 q2 q3 q4 q)
def yA(wi:TI)(g:TG)(tb:TS):TS:=λD σ H=>wi σ H λJ H1=>∃W:Nat->Nat->St->Hp->Prop,(∃m,W 0 m σ H1)/\∀i m σ H,W i m σ H->
 (J.stop i H/\D.nx σ H)\/ (J.go i H/\∃N:St->Hp->Prop,(∀σ' H',N σ' H'->∃m',m'<m/\W (i+ 1) m' σ' H')/\∀x H',J.yld i H x H'->g x σ H' λσ2 H2=>tb {D with nx:=N,ct:=N,bk:=D.nx} σ2 H2)
noncomputable def tP (fp:List Addr) (h:Heap):List (Addr×Obj):=fp.filterMap λb=>(h.get? b).map λo=>(b,o)
theorem vQ{o:Obj}(hb:b∈fp)(e:h.get? b=some o):(b,o)∈tP fp h:=List.mem_filterMap.mpr ⟨b,hb,by rw[e];rfl⟩
theorem a6G{p:Addr×Obj}(hp:p∈tP fp h):p.1∈fp/\h.get? p.1=some p.2:=by
 obtain⟨b,hb,e⟩:=List.mem_filterMap.mp hp
 cases q:h.get? b with
 |none=>rw[q]at e;cases e
 |some o=>
  rw[q]at e;have e':(b,o)=p:=Option.some.inj e;subst e';exact⟨hb,q⟩
theorem aE.pinned{s:Shared}(I:aE X ae σ H s)(hf:∀b∈fp,kX X ae H b)(ho:∀b∈fp,∃o,s.heap.get? b=some o/\∀v,o.data≠ .cell v):aE X (ae++ tP fp s.heap) σ H s:=
 I.pins_of λp hp=>(List.mem_append.mp hp).elim (λz=>I.pin p (List.mem_append_right _ z)) λz=>by
  obtain⟨hb,e⟩:=a6G z;obtain⟨f0,f1,f2,_⟩:=hf p.1 hb;obtain⟨o,e',d⟩:=ho p.1 hb;rw[e]at e';cases e';exact⟨e,f0,f1,f2,d⟩
theorem aE.unpinned{pl:List (Addr×Obj)}{s:Shared}(I:aE X (ae++ pl) σ H s):aE X ae σ H s:=I.pins_of λp hp=>I.pin p (List.mem_append_right _ (List.mem_append_left _ hp))
theorem jQ{tb:TS}(hp:PassesOwn (model X.prog X.w) X.A X.env X.xe)(hc:X.calm=true)(hi:PI X tg iter wi)(hg:PG X tg g)(hb:dL X body tb)
 (hs:∀x,foldedSetIterable iter X.env x=pure x:=by intro _;rfl):PS X (.For tg iter body [] pos) (yA wi g tb):=by
 intro ae s σ H D I h;refine wpAny_For (aV (hi ae s σ H _ I h) λv s1 h1=>aV h1 λitv s2 h2=> ?_) hs;obtain⟨it,fp,tn,J,H2,e,I2,T,st2,f2,W,⟨m0,w0⟩,turn⟩:=h2;subst e;have stat:∀{H':Hp},(∀b∈fp,H' b=none)->∀b∈fp,kX X ae H' b:=λhn b hb=>⟨hn b hb,(f2 b hb).2⟩
 refine codeAny_forLoop_any (λn s'=>∃i σ' H',aE X ae σ' H' s'/\tn i s'.heap/\(∀b∈fp,H' b=none)/\W i n σ' H') ?_ m0 ⟨0,σ,H2,I2,st2,λb hb=>(f2 b hb).1,w0⟩;rintro n s3 ⟨i,σ3,H3,I3,st3,fr3,w3⟩
 rcases turn i n σ3 H3 w3 with⟨stop,qn⟩|⟨go,N,hN,step⟩
 ·refine wpAny_passesOwn hp (aV (T.done X rfl rfl rfl hc i ae s3 σ3 H3 X.xe I3 (stat fr3) st3 stop) λr s4 ⟨hr,I4⟩=> ?_)
  subst hr;exact wpAny_execs_nil ⟨σ3,H3,I4,qn⟩
 ·refine wpAny_passesOwn hp (aV (T.item X rfl rfl rfl hc i ae s3 σ3 H3 X.xe I3 (stat fr3) st3 go) λr s4 ⟨u,hr,h4⟩=> ?_)
  subst hr;refine wpAny_passesOwn hp (aV h4 ?_);rintro _ s5 ⟨x,H5,I5,r5,y5,st5,fr5⟩;have I5':=I5.pinned (stat fr5) (T.obj _ _ st5);refine wpAny_passesOwn hp (aV (hg _ s5 σ3 H5 x u _ I5' r5 (step x H5 y5)) ?_);rintro _ s6 ⟨σ6,H6,I6,q6⟩;refine wpAny_passesOwn hp (aV (hb _ s6 σ6 H6 _ I6 q6) λf s7 q7=> ?_);have again:∀{σ7:St} {H7:Hp},aE X (ae++ tP fp s5.heap) σ7 H7 s7->N σ7 H7->∃m,m<n/\∃i σ' H',aE X ae σ' H' s7/\tn i s7.heap/\(∀b∈fp,H' b=none)/\W i m σ' H':=fun{σ7 H7} I7 n7=>by
   obtain⟨m',hm,w7⟩:=hN σ7 H7 n7;refine⟨m',hm,i+ 1,σ7,H7,I7.unpinned,T.keep _ _ _ st5 λb hb o e=>(I7.pin (b,o) (List.mem_append_right _ (List.mem_append_right _ (vQ hb e)))).1,λb hb=> ?_,w7⟩;obtain⟨o,e,d⟩:=T.obj _ _ st5 b hb;exact(I7.pin (b,o) (List.mem_append_right _ (List.mem_append_right _ (vQ hb e)))).2.1
  cases f with
  |next=>obtain⟨σ7,H7,I7,n7⟩:=q7;exact again I7 n7
  |cont=>obtain⟨σ7,H7,I7,n7⟩:=q7;exact again I7 n7
  |brk=>obtain⟨σ7,H7,I7,q7⟩:=q7;exact⟨σ7,H7,I7.unpinned,q7⟩
  |ret v=>obtain⟨x7,σ7,H7,I7,r7,q7⟩:=q7;exact⟨x7,σ7,H7,I7.unpinned,r7,q7⟩
end
theorem pZ{tb:TS}(Pv:Nat->St->Hp->Prop)(h0:Pv 0 σ H)(hl:∀i σ H,i<=xs.length->Pv i σ H->aU K H a xs)
 (hs:∀i x σ H,xs[i]?=some x->Pv i σ H->g x σ H λσ2 H2=>tb {D with nx:=Pv (i+ 1),ct:=Pv (i+ 1),bk:=D.nx} σ2 H2)(hd:∀σ H,Pv xs.length σ H->D.nx σ H):
 ∃W:Nat->Nat->St->Hp->Prop,(∃m,W 0 m σ H)/\∀i m σ H,W i m σ H->
  ((pI K a).stop i H/\D.nx σ H)\/ ((pI K a).go i H/\∃N:St->Hp->Prop,(∀σ' H',N σ' H'->∃m',m'<m/\W (i+ 1) m' σ' H')/\∀x H',(pI K a).yld i H x H'->g x σ H' λσ2 H2=>tb {D with nx:=N,ct:=N,bk:=D.nx} σ2 H2):=by
 refine⟨λi m σ H=>m=xs.length- i/\i<=xs.length/\Pv i σ H,⟨xs.length,by simp,Nat.zero_le _,h0⟩,?_⟩;rintro i m σ H ⟨rfl,hi,p⟩;have q:=hl i σ H hi p;by_cases hlt:i<xs.length
 ·refine .inr ⟨⟨xs,xs[i],q,by simp[hlt]⟩,Pv (i+ 1),λσ' H' p'=>⟨xs.length- (i+ 1),by omega,rfl,hlt,p'⟩,λx H' y=> ?_⟩
  obtain⟨e,y⟩:=y;subst e;exact hs i x σ _ (y xs q) p
 ·have e:i=xs.length:=by omega
  subst e;exact .inl ⟨⟨xs,q,Nat.le_refl _⟩,hd σ H p⟩
theorem a0b{lo:Int}{tb:TS}(Pv:Nat->St->Hp->Prop)(h0:Pv 0 σ H)
 (hs:∀i σ H,i<n->Pv i σ H->g (.int (lo+ i)) σ H λσ2 H2=>tb {D with nx:=Pv (i+ 1),ct:=Pv (i+ 1),bk:=D.nx} σ2 H2)(hd:∀σ H,Pv n σ H->D.nx σ H):
 ∃W:Nat->Nat->St->Hp->Prop,(∃m,W 0 m σ H)/\∀i m σ H,W i m σ H->
  ((mM lo n).stop i H/\D.nx σ H)\/ ((mM lo n).go i H/\∃N:St->Hp->Prop,(∀σ' H',N σ' H'->∃m',m'<m/\W (i+ 1) m' σ' H')/\∀x H',(mM lo n).yld i H x H'->g x σ H' λσ2 H2=>tb {D with nx:=N,ct:=N,bk:=D.nx} σ2 H2):=by
 refine⟨λi m σ H=>m=n- i/\i<=n/\Pv i σ H,⟨n,by simp,Nat.zero_le _,h0⟩,?_⟩;rintro i m σ H ⟨rfl,hi,p⟩;by_cases hlt:i<n
 ·refine .inr ⟨hlt,Pv (i+ 1),λσ' H' p'=>⟨n- (i+ 1),by omega,rfl,hlt,p'⟩,λx H' y=> ?_⟩
  obtain⟨e,y⟩:=y;subst e y;exact hs i σ _ hlt p
 ·have e:i=n:=by omega
  subst e;exact .inl ⟨Nat.le_refl _,hd σ H p⟩
abbrev R2:=V->V->Hp->VK->Prop
variable{r:R2}
def dR(X:Cx)(f:Value->Value->Sem Value)(r:R2):Prop:=
 ∀(ae:List (Addr×Obj)) (s:Shared) (σ:St) (H:Hp) (x y:V) (v u:Value) (Q:VK),aE X ae σ H s->bQ x v->bQ y u->r x y H Q->
  wpAny (model X.prog X.w) X.A (f v u) (EP X ae σ Q) X.xe s
def zA(X:Cx)(f:Value->Sem Value)(r:V->Hp->VK->Prop):Prop:=
 ∀(ae:List (Addr×Obj)) (s:Shared) (σ:St) (H:Hp) (x:V) (v:Value) (Q:VK),aE X ae σ H s->bQ x v->r x H Q->
  wpAny (model X.prog X.w) X.A (f v) (EP X ae σ Q) X.xe s
def iC(X:Cx)(f:Value)(r:List V->Hp->VK->Prop):Prop:=
 ∀(ae:List (Addr×Obj)) (s:Shared) (σ:St) (H:Hp) (xs:List V) (us:List Value) (Q:VK),aE X ae σ H s->bK xs us->r xs H Q->
  wpAny (model X.prog X.w) X.A (call f us) (EP X ae σ Q) X.xe s
def TruR(X:Cx)(r:V->Hp->(Bool->Hp->Prop)->Prop):Prop:=
 ∀(ae:List (Addr×Obj)) (s:Shared) (σ:St) (H:Hp) (x:V) (v:Value) (Q:Bool->Hp->Prop),aE X ae σ H s->bQ x v->r x H Q->
  wpAny (model X.prog X.w) X.A (truthy v) (TP X ae σ Q) X.xe s
def hJ(r:R2)(ta tb:TE):TE:=λσ H Q=>ta σ H λx H1=>tb σ H1 λy H2=>r x y H2 Q
def tUn(r:V->Hp->VK->Prop)(ta:TE):TE:=λσ H Q=>ta σ H λx H1=>r x H1 Q
inductive rIQi(C:Int->Int->Prop)(g:Int->Int->V)(x:V)(y:V)(H:Hp)(Q:VK):Prop
 |mk (i:_) (j:_):(x= .int i)->(y= .int j)->(C i j)->(Q (g i j) H)->rIQi C g x y H Q
noncomputable def rI (C:Int->Int->Prop) (g:Int->Int->V):R2:=λx y H Q=>rIQi C g x y H Q
inductive a41(g:Int->Int->V)(x:V)(y:V)(H:Hp)(Q:VK):Prop
 |mk (i:_) (j:_):(x= .int i)->(y= .int j)->(Q (g i j) H)->a41 g x y H Q
noncomputable def mY (g:Int->Int->V):R2:=λx y H Q=>a41 g x y H Q
inductive rUQi(g:Int->V)(x:V)(H:Hp)(Q:VK):Prop
 |mk (i:_):(x= .int i)->(Q (g i) H)->rUQi g x H Q
def rU(g:Int->V):V->Hp->VK->Prop:=λx H Q=>rUQi g x H Q
section
variable{a b c:Expr}{ta:TE}
theorem binT(ha:PE X a ta)(hb:PE X b tb){s:Shared}{R:V->V->Hp->Prop}(I:aE X ae σ H s)
 (h:ta σ H λx H1=>tb σ H1 λy H2=>R x y H2){Q:Value->Shared->Prop}{f:Value->Value->Sem Value}
 (hf:∀v u s2 x y H2,aE X ae σ H2 s2->bQ x v->bQ y u->R x y H2->wpAny (model X.prog X.w) X.A (f v u) Q X.xe s2):
 wpAny (model X.prog X.w) X.A (eval a X.env) (λv s₁=>wpAny (model X.prog X.w) X.A (eval b X.env) (λu s₂=>wpAny (model X.prog X.w) X.A (f v u) Q X.xe s₂) X.xe s₁) X.xe s:=by
 refine aV (ha ae s σ H _ I h) ?_;rintro v s1 ⟨x,H1,I1,r1,q1⟩;refine aV (hb ae s1 σ H1 _ I1 q1) ?_;rintro u s2 ⟨y,H2,I2,r2,q2⟩;exact hf v u s2 x y H2 I2 r1 r2 q2
theorem bX{op:Operator}(ho:dR X (binaryOp op) r)(ha:PE X a ta)(hb:PE X b tb):PE X (.BinOp a op b pos) (hJ r ta tb):=by
 intro ae s σ H Q I h;exact wpAny_BinOp (binT ha hb I h λv u s2 x y H2 I2 rx ry q=>ho ae s2 σ H2 x y v u Q I2 rx ry q)
theorem qS{op:UnaryOp}{r:V->Hp->VK->Prop}(ho:zA X (unaryOp op) r)(ha:PE X a ta):PE X (.UnaryOp op a pos) (tUn r ta):=by
 intro ae s σ H Q I h;exact UnaryOp_ (aV (ha ae s σ H _ I h) λv s1 ⟨x,H1,I1,r1,q1⟩=>ho ae s1 σ H1 x v Q I1 r1 q1)
theorem vW{f:Value->Value->Sem Value}{C:Int->Int->Prop}{g:Int->Int->Int}
 (rule:∀(i j:Int) (t u:Tok) (s:Shared) (Q:Value->Shared->Prop) (E:Value->Shared->Prop),C i j->Q (.int (g i j) s.toks) {s with toks:=s.toks+ 1} ->wpAny (model X.prog X.w) X.A (f (.int i t) (.int j u)) Q E s):
 dR X f (rI C λi j=> .int (g i j)):=by
 intro ae s σ H x y v u Q I rx ry h;obtain⟨i,j,rfl,rfl,hc,q⟩:=h;obtain⟨t,rfl⟩:=rx;obtain⟨t',rfl⟩:=ry;exact rule i j t t' s _ _ hc ⟨.int (g i j),H,I.tok _,⟨_,rfl⟩,q⟩
theorem opI0{f:Value->Value->Sem Value}{g:Int->Int->Int}
 (rule:∀(i j:Int) (t u:Tok) (s:Shared) (Q:Value->Shared->Prop) (E:Value->Shared->Prop),Q (.int (g i j) s.toks) {s with toks:=s.toks+ 1} ->wpAny (model X.prog X.w) X.A (f (.int i t) (.int j u)) Q E s):
 dR X f (mY λi j=> .int (g i j)):=by
 intro ae s σ H x y v u Q I rx ry h;obtain⟨i,j,rfl,rfl,q⟩:=h;obtain⟨t,rfl⟩:=rx;obtain⟨t',rfl⟩:=ry;exact rule i j t t' s _ _ ⟨.int (g i j),H,I.tok _,⟨_,rfl⟩,q⟩
theorem xI{f:Value->Value->Sem Value}{g:Int->Int->Bool}
 (rule:∀(i j:Int) (t u:Tok) (s:Shared) (Q:Value->Shared->Prop) (E:Value->Shared->Prop),Q (.bool (g i j)) s->wpAny (model X.prog X.w) X.A (f (.int i t) (.int j u)) Q E s):
 dR X f (mY λi j=> .bl (g i j)):=by
 intro ae s σ H x y v u Q I rx ry h;obtain⟨i,j,rfl,rfl,q⟩:=h;obtain⟨t,rfl⟩:=rx;obtain⟨t',rfl⟩:=ry;exact rule i j t t' s _ _ ⟨.bl (g i j),H,I,rfl,q⟩
def CDiv(i j:Int):Prop:=0<j/\j<1073741824
def CPow(i j:Int):Prop:=0<=j/\j<=1000000/\i.natAbs<2^ 64
def yQ(i j:Int):Prop:=(-(2^ 64)<i/\i<2^ 64)\/ (-(2^ 64)<j/\j<2^ 64)
theorem yQ.ok{i j:Int}(h:yQ i j):IntMulOk i j:=by
 rcases h with⟨h1,h2⟩|⟨h1,h2⟩
 ·exact .of_left (intBits_le_64 h1 h2)
 ·exact .of_right (intBits_le_64 h1 h2)
theorem iO:dR X (binaryOp .Add) (mY λi j=> .int (i+ j)):=opI0 λ_ _ _ _ _ _ _ q=>add_int q
theorem xO:dR X (binaryOp .Sub) (mY λi j=> .int (i- j)):=opI0 λ_ _ _ _ _ _ _ q=>sub_int q
theorem rF:dR X (binaryOp .Mult) (rI yQ λi j=> .int (i* j)):=vW λ_ _ _ _ _ _ _ hc q=>mul_int q hc.ok
theorem nG:dR X (binaryOp .FloorDiv) (rI CDiv λi j=> .int (i/ j)):=vW λi j _ _ _ _ _ hc q=>by
 have h1:(0:Int)<j:=hc.1;have h2:j<1073741824:=hc.2;exact floordiv_int (by omega) (by rw[Int.fdiv_eq_ediv_of_nonneg i (by omega)];exact q) (.inl (PyProof.noPylong_small (by omega)))
theorem eZ:dR X (binaryOp .Mod) (rI (λ_ j=>0<j) λi j=> .int (i% j)):=vW λi j _ _ _ _ _ hc q=>by
 have h1:(0:Int)<j:=hc;exact mod_int' (by omega) (by rw[Int.fmod_eq_emod_of_nonneg i (by omega)];exact q)
theorem uE:dR X (binaryOp .Pow) (rI CPow λi j=> .int (i^ j.toNat)):=vW λ_ _ _ _ _ _ _ hc q=>pow_int_small hc.1 hc.2.1 hc.2.2 q
theorem unI{f:Value->Sem Value}{g:Int->Int}
 (rule:∀(i:Int) (t:Tok) (s:Shared) (Q:Value->Shared->Prop) (E:Value->Shared->Prop),Q (.int (g i) s.toks) {s with toks:=s.toks+ 1} ->wpAny (model X.prog X.w) X.A (f (.int i t)) Q E s):
 zA X f (rU λi=> .int (g i)):=by
 intro ae s σ H x v Q I rx h;obtain⟨i,rfl,q⟩:=h;obtain⟨t,rfl⟩:=rx;exact rule i t s _ _ ⟨.int (g i),H,I.tok _,⟨_,rfl⟩,q⟩
theorem rB:zA X (unaryOp .USub) (rU λi=> .int (-i)):=unI λ_ _ _ _ _ q=>neg_int q
end
def scal:V->V->Bool
 | .non,.non=>true| .non,.int _=>true| .int _,.non=>true| .non,.bl _=>true| .bl _,.non=>true| .non,.str _=>true| .str _,.non=>true
 | .int _,.int _=>true| .bl _,.bl _=>true| .str _,.str _=>true| .byt _,.byt _=>true
 | .int _,.str _=>true| .str _,.int _=>true| .bl _,.str _=>true| .str _,.bl _=>true
 |_,_=>false
inductive a5s(x:V)(y:V)(H:Hp)(Q:VK):Prop
 |mk:(scal x y=true)->(Q (.bl (decide (x=y))) H)->a5s x y H Q
noncomputable def rEq:R2:=λx y H Q=>a5s x y H Q
inductive a4Z(x:V)(y:V)(H:Hp)(Q:VK):Prop
 |mk:(scal x y=true)->(Q (.bl (!decide (x=y))) H)->a4Z x y H Q
noncomputable def rNe:R2:=λx y H Q=>a4Z x y H Q
theorem a26{i j:Int}:decide (V.int i=V.int j)=(i==j):=by
 rw[Bool.eq_iff_iff];simp
theorem a5j{i j:Bool}:decide (V.bl i=V.bl j)=(i==j):=by
 rw[Bool.eq_iff_iff];simp
theorem a4J{i j:Str}:decide (V.str i=V.str j)=(i==j):=by
 rw[Bool.eq_iff_iff];simp
theorem a4G{i j:Array UInt8}:decide (V.byt i=V.byt j)=(i.toList==j.toList):=by
 rw[Bool.eq_iff_iff];cases i;cases j;simp
section
variable{a b c:Expr}{ta:TE}
theorem dX{s:Shared}{k k':Bool}(I:aE X ae σ H s)(q:Q (.bl k) H)(e:k=k'):EP X ae σ Q (.bool k') s:=by
 subst e;exact⟨.bl k,H,I,rfl,q⟩
theorem gL:dR X (compareOp .Eq) rEq:=by
 intro ae s σ H x y v u Q I rx ry h;obtain⟨hs,q⟩:=h
 cases x with
 |non=>
  cases rx
  cases y with
  |non=>cases ry;exact PySem.EqNone.eq_none_none (dX I q (by simp))
  |bl j=>cases ry;exact PySem.EqNone.eq_none_bool (dX I q (by simp))
  |int j=>obtain⟨t',rfl⟩:=ry;exact PySem.EqNone.eq_none_int (dX I q (by simp))
  |str j=>obtain⟨t',rfl⟩:=ry;exact PySem.EqNone.eq_none_str (dX I q (by simp))
  |_=>exact absurd (show false=true from hs) Bool.false_ne_true
 |bl i=>
  cases rx
  cases y with
  |non=>cases ry;exact PySem.EqNone.eq_bool_none (dX I q (by simp))
  |bl j=>cases ry;exact eq_bool (dX I q a5j)
  |str j=>obtain⟨t',rfl⟩:=ry;exact PySem.EqMixed.eq_bool_str (dX I q (by simp))
  |_=>exact absurd (show false=true from hs) Bool.false_ne_true
 |int i=>
  obtain⟨t,rfl⟩:=rx
  cases y with
  |non=>cases ry;exact PySem.EqNone.eq_int_none (dX I q (by simp))
  |int j=>obtain⟨t',rfl⟩:=ry;exact eq_int (dX I q a26)
  |str j=>obtain⟨t',rfl⟩:=ry;exact PySem.EqMixed.eq_int_str (dX I q (by simp))
  |_=>exact absurd (show false=true from hs) Bool.false_ne_true
 |str i=>
  obtain⟨t,rfl⟩:=rx
  cases y with
  |non=>cases ry;exact PySem.EqNone.eq_str_none (dX I q (by simp))
  |bl j=>cases ry;exact PySem.EqMixed.eq_str_bool (dX I q (by simp))
  |int j=>obtain⟨t',rfl⟩:=ry;exact PySem.EqMixed.eq_str_int (dX I q (by simp))
  |str j=>obtain⟨t',rfl⟩:=ry;exact eq_str (dX I q a4J)
  |_=>exact absurd (show false=true from hs) Bool.false_ne_true
 |byt i=>
  obtain⟨t,rfl⟩:=rx
  cases y with
  |byt j=>obtain⟨t',rfl⟩:=ry;exact W.eq_bytes (dX I q a4G)
  |_=>exact absurd (show false=true from hs) Bool.false_ne_true
 |_=>cases y<;>exact absurd (show false=true from hs) Bool.false_ne_true
theorem xS:dR X (compareOp .NotEq) rNe:=by
 intro ae s σ H x y v u Q I rx ry h;obtain⟨hs,q⟩:=h
 cases x with
 |non=>
  cases rx
  cases y with
  |non=>cases ry;exact PySem.EqNone.ne_none_none (dX I q (by simp))
  |bl j=>cases ry;exact PySem.EqNone.ne_none_bool (dX I q (by simp))
  |int j=>obtain⟨t',rfl⟩:=ry;exact PySem.EqNone.ne_none_int (dX I q (by simp))
  |str j=>obtain⟨t',rfl⟩:=ry;exact PySem.EqNone.ne_none_str (dX I q (by simp))
  |_=>exact absurd (show false=true from hs) Bool.false_ne_true
 |bl i=>
  cases rx
  cases y with
  |non=>cases ry;exact PySem.EqNone.ne_bool_none (dX I q (by simp))
  |bl j=>cases ry;exact ne_bool (dX I q (congrArg not a5j))
  |str j=>obtain⟨t',rfl⟩:=ry;exact PySem.EqMixed.ne_bool_str (dX I q (by simp))
  |_=>exact absurd (show false=true from hs) Bool.false_ne_true
 |int i=>
  obtain⟨t,rfl⟩:=rx
  cases y with
  |non=>cases ry;exact PySem.EqNone.ne_int_none (dX I q (by simp))
  |int j=>obtain⟨t',rfl⟩:=ry;exact ne_int (dX I q (congrArg not a26))
  |str j=>obtain⟨t',rfl⟩:=ry;exact PySem.EqMixed.ne_int_str (dX I q (by simp))
  |_=>exact absurd (show false=true from hs) Bool.false_ne_true
 |str i=>
  obtain⟨t,rfl⟩:=rx
  cases y with
  |non=>cases ry;exact PySem.EqNone.ne_str_none (dX I q (by simp))
  |bl j=>cases ry;exact PySem.EqMixed.ne_str_bool (dX I q (by simp))
  |int j=>obtain⟨t',rfl⟩:=ry;exact PySem.EqMixed.ne_str_int (dX I q (by simp))
  |str j=>obtain⟨t',rfl⟩:=ry;exact ne_str (dX I q (congrArg not a4J))
  |_=>exact absurd (show false=true from hs) Bool.false_ne_true
 |byt i=>
  obtain⟨t,rfl⟩:=rx
  cases y with
  |byt j=>obtain⟨t',rfl⟩:=ry;exact W.ne_bytes (dX I q (congrArg not a4G))
  |_=>exact absurd (show false=true from hs) Bool.false_ne_true
 |_=>cases y<;>exact absurd (show false=true from hs) Bool.false_ne_true
theorem sB:dR X (compareOp .Lt) (mY λi j=> .bl (decide (i<j))):=xI λ_ _ _ _ _ _ _ q=>lt_int q
theorem iR:dR X (compareOp .LtE) (mY λi j=> .bl (decide (i<=j))):=xI λ_ _ _ _ _ _ _ q=>le_int q
theorem a5q:dR X (compareOp .Gt) (mY λi j=> .bl (decide (j<i))):=xI λ_ _ _ _ _ _ _ q=>gt_int q
theorem oK:dR X (compareOp .GtE) (mY λi j=> .bl (decide (j<=i))):=xI λ_ _ _ _ _ _ _ q=>ge_int q
theorem a9q:dR X (compareOp .In) (λx y H Q=>∃i j,x= .str i/\y= .str j/\Q (.bl (!(Builtin.Str.occurrences j i 0 j.length 1).isEmpty)) H):=by
 intro ae s σ H x y v u Q I rx ry h;obtain⟨i,j,rfl,rfl,q⟩:=h;obtain⟨t,rfl⟩:=rx;obtain⟨t',rfl⟩:=ry;exact in_str (dX I q rfl)
theorem a0i:dR X (compareOp .Is) (λx y H Q=>y= .non/\Q (.bl (decide (x= .non))) H):=by
 intro ae s σ H x y v u Q I rx ry h;obtain⟨rfl,q⟩:=h;cases ry;refine is_none_gen (dX I q ?_);cases x<;>first
  |(cases rx;rfl)
  |(obtain⟨t,rfl⟩:=rx;rfl)
theorem a2T:dR X (compareOp .IsNot) (λx y H Q=>y= .non/\Q (.bl (!decide (x= .non))) H):=by
 intro ae s σ H x y v u Q I rx ry h;obtain⟨rfl,q⟩:=h;cases ry;refine isnot_none_gen (dX I q ?_);cases x<;>first
  |(cases rx;rfl)
  |(obtain⟨t,rfl⟩:=rx;rfl)
theorem cN(b:Expr){op:CmpOp}(h:op≠ .In:=by decide)(h2:op≠ .NotIn:=by decide):behindInMarks op b=false:=by
 have e1:(op==CmpOp.In)=false:=by cases op<;>first|rfl|exact absurd rfl h
 have e2:(op==CmpOp.NotIn)=false:=by cases op<;>first|rfl|exact absurd rfl h2
 cases b<;>simp[behindInMarks,e1,e2]
theorem lP{op:CmpOp}(ho:dR X (compareOp op) r)(ha:PE X a ta)(hb:PE X b tb)(hm:behindInMarks op b=false):PE X (.Compare a [op] [b] pos) (hJ r ta tb):=by
 intro ae s σ H Q I h;exact wpAny_Compare1 (binT ha hb I h λv u s2 x y H2 I2 rx ry q=>ho ae s2 σ H2 x y v u Q I2 rx ry q) hm
inductive a1j(Q:Bool->Hp->Prop)(x:V)(H':Hp):Prop
 |mk (k:_):(x= .bl k)->(Q k H')->a1j Q x H'
def tG(t:TE):TT:=λσ H Q=>t σ H (a1j Q)
theorem cK{op:CmpOp}(ho:dR X (compareOp op) r)(ha:PE X a ta)(hb:PE X b tb)(hm:behindInMarks op b=false):PT X (.Compare a [op] [b] pos) (tG (hJ r ta tb)):=by
 intro ae s σ H Q I h
 refine wpAny_isTrue_Compare1 (aV (ha ae s σ H _ I h) λv s1 ⟨x,H1,I1,r1,q1⟩=>aV (hb ae s1 σ H1 _ I1 q1) λu s2 ⟨y,H2,I2,r2,q2⟩=>
  aV (ho ae s2 σ H2 x y v u _ I2 r1 r2 q2) λc s3 ⟨z,H3,I3,r3,k,e,q3⟩=> ?_) hm
 subst e;cases r3;exact wpAny_truthy_bool ⟨H3,I3,q3⟩
inductive a0I(r':R2)(tc:TE)(σ:St)(Q:VK)(y:V)(z:V)(H3:Hp):Prop
 |mk (k:_):(z= .bl k)->((if k=true then tc σ H3 λw' H4=>r' y w' H4 Q else Q (.bl false) H3))->a0I r' tc σ Q y z H3
def a6n(r r':R2)(ta tb tc:TE):TE:=λσ H Q=>ta σ H λx H1=>tb σ H1 λy H2=>r x y H2 (a0I r' tc σ Q y)
theorem sQ{op op':CmpOp}{r':R2}(ho:dR X (compareOp op) r)(ho':dR X (compareOp op') r')(ha:PE X a ta)(hb:PE X b tb)(hc:PE X c tc)
 (hm:lastMarks [op,op'] [b,c]=false:=by with_unfolding_all rfl):PT X (.Compare a [op,op'] [b,c] pos) (tG (a6n r r' ta tb tc)):=by
 intro ae s σ H Q I h
 refine isTrue_chain (aV (ha ae s σ H _ I h) λv s1 ⟨x,H1,I1,r1,q1⟩=>test_link (aV (hb ae s1 σ H1 _ I1 q1) λu s2 ⟨y,H2,I2,r2,q2⟩=>
  aV (ho ae s2 σ H2 x y v u _ I2 r1 r2 q2) λd s3 ⟨z,H3,I3,r3,k,e,q3⟩=> ?_)) hm
 subst e;cases r3;refine wpAny_truthy_bool ?_
 cases k with
 |false=>
  obtain⟨k',e',q'⟩:=q3;cases e';exact ite_ff ⟨H3,I3,q'⟩
 |true=>
  refine ite_tt (test_last (aV (hc ae s3 σ H3 _ I3 q3) λw' s4 ⟨z',H4,I4,r4,q4⟩=>aV (ho' ae s4 σ H4 y z' u w' _ I4 r2 r4 q4) λd' s5 ⟨z2,H5,I5,r5,k2,e2,q5⟩=> ?_));subst e2;cases r5;exact wpAny_truthy_bool ⟨H5,I5,q5⟩
def TruV(K:Fg)(x:V)(H:Hp)(k:Bool):Prop:=
 match x with
 | .non=>k=false
 | .bl b=>k=b
 | .int i=>k=(i !=0)
 | .str y=>y.length<=sizeLine/\k=((y.length:Int) !=0)
 | .byt y=>y.size<=sizeLine/\k=((y.size:Int) !=0)
 | .ref p=>(∃xs,aU K H p xs/\k= !xs.isEmpty)\/ (∃xs,bS K H p xs/\k= !xs.isEmpty)\/ ∃kvs,H p=some (.dK kvs)/\k= !kvs.isEmpty
 |_=>False
theorem a8M{κ:Type}{kvs:List (κ×V)}{vs:List (κ×Value)}(r:KV kvs vs):(!vs.isEmpty)= !kvs.isEmpty:=by
 cases r<;>rfl
theorem a3x(r:bK xs its):(!its.toArray.isEmpty)= !xs.isEmpty:=by
 cases r<;>simp
theorem pY:(sizeLine:Nat)<2^ 63:=by rw[sizeLine_eq];decide
theorem a9A:TruR X (λx H Q=>∃k,TruV X.K x H k/\Q k H):=by
 intro ae s σ H x v Q I rx h;obtain⟨k,e,q⟩:=h;have hl:=pY;have hs:sizeLine=16777216:=sizeLine_eq
 cases x with
 |non=>
  cases rx;have e':k=false:=e;subst e';exact truthy_none ⟨H,I,q⟩
 |bl b=>
  cases rx;have e':k=b:=e;subst e';exact wpAny_truthy_bool ⟨H,I,q⟩
 |int i=>
  obtain⟨t,rfl⟩:=rx;have e':k=(i !=0):=e;subst e';exact PySem.P.truthy_int ⟨H,I,q⟩
 |str y=>
  obtain⟨t,rfl⟩:=rx;obtain⟨hy,e'⟩:y.length<=sizeLine/\k=((y.length:Int) !=0):=e;subst e';exact PySem.P.truthy_str (by omega) ⟨H,I.tok _,q⟩
 |byt y=>
  obtain⟨t,rfl⟩:=rx;obtain⟨hy,e'⟩:y.size<=sizeLine/\k=((y.size:Int) !=0):=e;subst e';exact W.truthy_bytes (by omega) ⟨H,I.tok _,q⟩
 |ref p=>
  cases rx;have e':(∃xs,aU X.K H p xs/\k= !xs.isEmpty)\/ (∃xs,bS X.K H p xs/\k= !xs.isEmpty)\/ ∃kvs,H p=some (.dK kvs)/\k= !kvs.isEmpty:=e
  rcases e' with⟨xs,hx,e'⟩|⟨xs,hx,e'⟩|⟨kvs,hx,e'⟩
  ·subst e'
   obtain⟨its,r,pl,hz⟩:=I.list hx;have hlen:=r.length;exact wpAny_truthy_list pl.isList (by simp only[List.size_toArray];omega) ⟨H,I.tok _,by rw[a3x r];exact q⟩
  ·subst e'
   obtain⟨its,r,pl,hz⟩:=I.tuple hx;have hlen:=r.length;exact truthy_tuple pl (by simp only[List.size_toArray];omega) ⟨H,I.tok _,by rw[a3x r];exact q⟩
  ·subst e'
   obtain⟨hz,hS,vs,r,m⟩:kvs.length<=sizeLine/\(p==sysModules)=false/\∃vs,KV kvs vs/\s.heap.DictOf (fC X.prog X.w) p vs:=I.hok p _ hx;have hlen:kvs.length=vs.length:=Paired.length r;exact wpAny_truthy_dict hS m (by omega) ⟨H,I.tok _,by rw[a8M r];exact q⟩
 |_=>exact(show False from e).elim
theorem a2W(ha:PE X a ta)(he:∀whole,isTrue a X.env whole=(do let v<- whole;standAt a.pos;holding [v] (truthy v))):
 PT X a (λσ H Q=>ta σ H λx H'=>∃k,TruV X.K x H' k/\Q k H'):=by
 intro ae s σ H Q I h;exact isTrue_plain (aV (ha ae s σ H _ I h) λv s1 ⟨x,H1,I1,r1,q1⟩=>a9A ae s1 σ H1 x v Q I1 r1 q1) (he _)
theorem lN{x:V}(r:bK [x] us):∃u,us= [u] /\bQ x u:=by
 cases r with
 |cons r1 r2=>cases r2;exact⟨_,rfl,r1⟩
theorem a9w:iC X (.builtin "abs") (λxs H Q=>∃i,xs= [.int i] /\Q (.int (if i<0 then-i else i)) H):=by
 intro ae s σ H xs us Q I r h;obtain⟨i,rfl,q⟩:=h;obtain⟨u,rfl,t,rfl⟩:=lN r;exact call_abs_int λu tk=>⟨.int (if i<0 then-i else i),H,I.tok _,⟨_,rfl⟩,q⟩
theorem a6D:iC X (.type "int") (λxs H Q=>(∃i,xs= [.int i] /\Q (.int i) H)\/ ∃k,xs= [.bl k] /\Q (.int (if k then 1 else 0)) H):=by
 intro ae s σ H xs us Q I r h
 rcases h with⟨i,rfl,q⟩|⟨k,rfl,q⟩
 ·obtain⟨u,rfl,t,rfl⟩:=lN r
  exact call_int_int ⟨.int i,H,I,⟨_,rfl⟩,q⟩
 ·obtain⟨u,rfl,r1⟩:=lN r
  cases r1;exact call_int_bool ⟨.int (if k then 1 else 0),H,I.tok _,⟨_,rfl⟩,q⟩
def LenV(K:Fg)(x:V)(H:Hp)(n:Nat):Prop:=
 match x with
 | .str y=>y.length<=sizeLine/\n=y.length
 | .byt y=>y.size<=sizeLine/\n=y.size
 | .ref p=>(∃xs,aU K H p xs/\n=xs.length)\/ ∃xs,bS K H p xs/\n=xs.length
 |_=>False
theorem gU:iC X (.builtin "len") (λxs H Q=>∃x n,xs= [x] /\LenV X.K x H n/\Q (.int n) H):=by
 intro ae s σ H xs us Q I r h;obtain⟨x,n,rfl,e,q⟩:=h;obtain⟨u,rfl,rx⟩:=lN r;have hl:=pY;have hs:sizeLine=16777216:=sizeLine_eq
 cases x with
 |str y=>
  obtain⟨t,rfl⟩:=rx;obtain⟨hy,e'⟩:y.length<=sizeLine/\n=y.length:=e;subst e';exact len_str (by omega) ⟨.int _,H,I.tok _,⟨_,rfl⟩,q⟩
 |byt y=>
  obtain⟨t,rfl⟩:=rx;obtain⟨hy,e'⟩:y.size<=sizeLine/\n=y.size:=e;subst e';exact W.len_bytes (by omega) ⟨.int _,H,I.tok _,⟨_,rfl⟩,q⟩
 |ref p=>
  cases rx;have e':(∃xs,aU X.K H p xs/\n=xs.length)\/ ∃xs,bS X.K H p xs/\n=xs.length:=e
  rcases e' with⟨xs,hx,e'⟩|⟨xs,hx,e'⟩
  ·subst e'
   obtain⟨its,r',pl,hz⟩:=I.list hx;have hlen:=r'.length;exact Calls.call_len_list pl.isList (by simp only[List.size_toArray];omega) ⟨.int xs.length,H,I.tok _,⟨_,by simp only[List.size_toArray];rw[hlen]⟩,q⟩
  ·subst e'
   obtain⟨its,r',pl,hz⟩:=I.tuple hx;have hlen:=r'.length;exact len_tuple pl (by simp only[List.size_toArray];omega) ⟨.int xs.length,H,I.tok _,⟨_,by simp only[List.size_toArray];rw[hlen]⟩,q⟩
 |_=>exact(show False from e).elim
end
structure nS(h:Heap)(x dx C:Addr)(mA:Str->Option Value):Prop where
 obj:h.get? x=some (W.instObj C dx)
 ns:h.Ns1 dx mA
 ne:dx≠x
theorem b0z{mA:Str->Option Value}(n:h.Ns1 dx mA):∃od,h.get? dx=some od/\∀name,W.lookIn name od=some (mA name):=by
 obtain⟨o,es,ep,ho,hd,hk,_,hm⟩:=n;refine⟨o,ho,λname=> ?_⟩;have e:=hm name;unfold nsFind findBy at e;rw[<- Array.find?_toList]at e;unfold W.lookIn;rw[hd];dsimp only;split
 ·rename_i y q
  rw[q]at e;exact congrArg some e
 ·rename_i q
  rw[q]at e
  have a:es.toList.any (·.refKey)=false:=by
   rw[List.any_eq_false];intro y hy;obtain⟨z,t,hkey⟩:=hk y (Array.mem_toList_iff.mp hy);simp[DictEntry.refKey,hkey]
  have a':¬es.toList.any (·.refKey)=true:=by rw[a];exact Bool.false_ne_true
  rw[if_neg a'];exact congrArg some e
theorem nS.look{x:Addr}{mA:Str->Option Value}(I:nS h x dx C mA):∃od,W.InstAt h x (W.instObj C dx) C (some od)/\∀name,W.lookIn name od=some (mA name):=
 let ⟨od,ho,hl⟩:=b0z I.ns
 ⟨od,⟨I.obj,rfl,rfl,ho⟩,hl⟩
section
variable{s:Shared}{x:Addr}{mA:Str->Option Value}{name:Str}{v:Value}
theorem a5D{expr:Bool}{Q:Value->Shared->Prop}(X:K.In s.heap)(I:nS s.heap x dx C mA)(hg:W.plainGet K C name=true)(hh:W.hasDictIn K C=true)
 (ha:W.findIn K (.ref C) name=some none)(hv:mA name=some v)(hv':W.handedIn v=true)(h:Q v {s with toks:=s.toks+ 1}):
 wpAny (model prog w) A (getAttr (.ref x) name expr) Q E s:=by
 obtain⟨od,J,hl⟩:=I.look;exact W.get_value X J (W.plainGet_of hg).1 (W.findObj_own hh ha rfl (by rw[hl,hv])) hv' h
theorem a7H{pl:Sem Bool}{Q:Value×List Value->Shared->Prop}(X:K.In s.heap)(I:nS s.heap x dx C mA)(hg:W.plainGet K C name=true)
 (hf:W.findIn K (.ref C) name=some (some (.ref f)))(ht:W.isFn K (.ref f)=true)(hv:mA name=none)(h:Q (.ref f,[.ref x]) s):
 wpAny (model prog w) A (getMethod (.ref x) name pl) Q E s:=by
 obtain⟨od,J,hl⟩:=I.look;exact W.method_fn X J (W.plainGet_of hg).1 (W.plainGet_of hg).2 hf (beq_iff_eq.mp ht) (by show(W.lookIn name od).map (·.isSome)=some false;rw[hl,hv];rfl) h
theorem b0b{ns:List Str}{Q:Unit->Shared->Prop}(X:K.In s.heap)(I:nS s.heap x dx C mA)
 (hs:W.findIn K (.ref C) "__setattr__"=some (some (.builtin "object.__setattr__")))(hp:W.plainOver K C=true)(ht:W.takerIn K C name=some none)(hh:W.hasDictIn K C=true)
 (hw:PySem.Within mA ns)(hsz:ns.length<=sizeLine)
 (h:∀h',nS h' x dx C (λy=>if y=name then some v else mA y)->Heap.SameBut dx s.heap h'->Q () {s with heap:=h',toks:=s.toks+ 2}):
 wpAny (model prog w) A (setAttr (.ref x) name v) Q E s:=by
 obtain⟨od,J,hl⟩:=I.look;refine W.set_plain X J hs (W.osa_open (s:={s with toks:=s.toks+ 1}) (r:=none) X J hp ht λb=> ?_);obtain⟨cd,hc,hd'⟩:=W.any_some hh;have hx:s.heap.get? x=some ⟨.ref C,some dx,.plain,#[]⟩:=I.obj;refine wpAny_bind (wpAny_pure (wpAny_bind (wpAny_bind (wpAny_loadPart hx (wpAny_bind (W.Looks.here (s:={s with toks:=s.toks+ 1}) (W.looks_clsIn X hc) ?_))))));rw[hd'];refine wpAny_pure (a:=some dx) (wpAny_bind (wpAny_pure (wpAny_bind ?_)));refine wpAny_nsSet1 (s:={s with toks:=s.toks+ 1}) I.ns λh' hn2 hs2=> ?_
 obtain⟨oD,esD,epD,hoD,hdD,hcD⟩:=hn2.count (PySem.Within.cons name v hw);refine wpAny_bind (wpAny_lookBehind hoD (by rw[hdD];exact pastItsLine_dict (Nat.le_trans hcD (by rw[List.length_cons];omega))) ?_);exact wpAny_pure (h _ ⟨(hs2.2 _ (Ne.symm I.ne)).trans I.obj,hn2,I.ne⟩ hs2)
theorem a8u{R:Result->Shared->Prop}{vs:List Value}{kw:List (Str×Value)}(X:K.In s.heap)(hm:W.makesIn K C=true)
 (hi:W.findIn K (.ref C) "__init__"=some (some (.ref f)))(hf:W.typeIn K (.ref f)=some (.type "function"))
 (h:codeAny (model prog w) (A.under (.builtin "type.__call__" ⟨.ref C::vs,kw⟩)) (.call (.ref f) ⟨.ref (s.heap.objs.size+ 1)::vs,kw⟩) (W.InitBack (s.heap.objs.size+ 1) R)
  {s with heap:=(s.heap.push W.emptyDict).push (W.instObj C s.heap.objs.size)}):
 codeAny (model prog w) A (.call (.ref C) ⟨vs,kw⟩) R s:=by
 obtain⟨hh,g,d,t,os⟩:=s;exact W.make_core (W.makes_of X hm) (W.looks_findIn X hi) (λself=>W.bind_fn X self hf) (.inl rfl) h
end
def aM(f:Str)(v:V):List (Str×V)->List (Str×V)
 | []=> [(f,v)]
 |(g,x)::r=>if g=f then(g,v)::r else(g,x)::aM f v r
theorem a3v(f g:Str)(v:V):∀fs:List (Str×V),(aM f v fs).lookup g=if g=f then some v else fs.lookup g
 | []=>by
  show List.lookup g [(f,v)]=_;by_cases h:g=f
  ·have hb:(g==f)=true:=beq_iff_eq.mpr h
   simp only[List.lookup,hb,if_pos h]
  ·have hb:(g==f)=false:=beq_eq_false_iff_ne.mpr h
   simp only[List.lookup,hb,if_neg h]
 |(k,x)::r=>by
  have ih:=a3v f g v r;rw[show aM f v ((k,x)::r)=(if k=f then(k,v)::r else(k,x)::aM f v r) from rfl];by_cases hk:k=f
  ·rw[if_pos hk]
   by_cases h:g=k
   ·have hb:(g==k)=true:=beq_iff_eq.mpr h
    simp only[List.lookup,hb,if_pos (h.trans hk)]
   ·have hb:(g==k)=false:=beq_eq_false_iff_ne.mpr h
    simp only[List.lookup,hb,if_neg (λe:g=f=>h (e.trans hk.symm))]
  ·rw[if_neg hk]
   by_cases h:g=k
   ·have hb:(g==k)=true:=beq_iff_eq.mpr h
    simp only[List.lookup,hb,if_neg (λe:g=f=>hk (h.symm.trans e))]
   ·have hb:(g==k)=false:=beq_eq_false_iff_ne.mpr h
    simp only[List.lookup,hb];exact ih
theorem a0r(f:Str)(v:V):∀fs:List (Str×V),f∈(aM f v fs).map (·.1)/\∀g,g∈fs.map (·.1)->g∈(aM f v fs).map (·.1)
 | []=>⟨by simp[aM],λg h=>by simp at h⟩
 |(k,x)::r=>by
  obtain⟨i1,i2⟩:=a0r f v r;rw[show aM f v ((k,x)::r)=(if k=f then(k,v)::r else(k,x)::aM f v r) from rfl];by_cases hk:k=f
  ·rw[if_pos hk]
   subst hk;exact⟨by simp,λg h=>by simpa using h⟩
  ·rw[if_neg hk]
   refine⟨?_,λg h=> ?_⟩
   ·rw[List.map_cons]
    exact List.mem_cons_of_mem _ i1
   ·rw[List.map_cons]at h|-
    rcases List.mem_cons.mp h with e|e
    ·exact List.mem_cons.mpr (.inl e)
    ·exact List.mem_cons_of_mem _ (i2 g e)
theorem a3c(f:Str)(v:V):∀fs:List (Str×V),(aM f v fs).length<=fs.length+ 1
 | []=>by simp[aM]
 |(k,x)::r=>by
  have ih:=a3c f v r;rw[show aM f v ((k,x)::r)=(if k=f then(k,v)::r else(k,x)::aM f v r) from rfl];by_cases hk:k=f
  ·rw[if_pos hk,List.length_cons,List.length_cons];omega
  ·rw[if_neg hk,List.length_cons,List.length_cons];omega
theorem gK.some_of{o:Option Value}(r:gK (some v) o):∃u,o=some u/\bQ v u:=by
 cases o with
 |none=>exact(show False from r).elim
 |some u=>exact⟨u,rfl,r⟩
theorem gK.none_of{o:Option Value}(r:gK none o):o=none:=by
 cases o with
 |none=>rfl
 |some u=>exact(show False from r).elim
theorem a5C(r:bQ v u):W.handedIn u=true:=by
 cases v with
 |non=>cases (show u=Value.none from r);rfl
 |bl b=>cases (show u=Value.bool b from r);rfl
 |int i=>obtain⟨t,e⟩:=(show∃t,u=Value.int i t from r);cases e;rfl
 |str x=>obtain⟨t,e⟩:=(show∃t,u=Value.str x t from r);cases e;rfl
 |byt b=>obtain⟨t,e⟩:=(show∃t,u=Value.bytes b t from r);cases e;rfl
 |flt b=>obtain⟨t,e⟩:=(show∃t,u=Value.float b t from r);cases e;rfl
 |ref a=>cases (show u=Value.ref a from r);rfl
 |ty n=>cases (show u=Value.type n from r);rfl
section
variable{fs fs':List (Str×V)}
theorem wK(hok:dN P w H h)(e:H a=some (.ins C dx fs)):∃mA,nS h a dx C mA/\(∀f,gK (fs.lookup f) (mA f))/\PySem.Within mA (fs.map (·.1))/\fs.length<=1000/\H dx=some (.own a):=by
 obtain⟨d,z,ne,ob,mA,n,r,q⟩:=(show cX P w H h a (.ins C dx fs) from hok a _ e);exact⟨mA,⟨ob,n,ne⟩,r,q,z,d⟩
end
structure dC(K:Fg)(C:Addr):Prop where
 pg:W.plainGet K C Str.empty=true
 hd:W.hasDictIn K C=true
 po:W.plainOver K C=true
 sa:W.findIn K (.ref C) "__setattr__"=some (some (.builtin "object.__setattr__"))
theorem dC.get(c:dC K C)(f:Str):W.plainGet K C f=true:=c.pg
def cA(K:Fg)(C:Addr)(f:Str):Prop:=W.findIn K (.ref C) f=some none
theorem cA.taker{f:Str}(n:cA K C f):W.takerIn K C f=some none:=by
 unfold W.takerIn;rw[show W.findIn K (.ref C) f=some none from n];rfl
structure tQ(K:Fg)(C:Addr)(m:Str)(f:Addr):Prop where
 at_:W.findIn K (.ref C) m=some (some (.ref f))
 fn:W.isFn K (.ref f)=true
 kp:W.keepIn K (.ref f)=true
section
variable{s:Shared}{fs:List (Str×V)}{f:Str}
theorem a7s{b:Bool}{Q:Value->Shared->Prop}(I:aE X ae σ H s)(e:H a=some (.ins C dx fs))(c:dC X.K C)(n:cA X.K C f)(l:fs.lookup f=some v)
 (h:∀u s',aE X ae σ H s'->bQ v u->Q u s'):wpAny (model X.prog X.w) A (getAttr (.ref a) f b) Q E s:=by
 obtain⟨mA,O,r,_,_,_⟩:=wK I.hok e;obtain⟨u,hu,ru⟩:=gK.some_of (v:=v) (o:=mA f) (by rw[<- l];exact r f);exact a5D I.kIn O (c.get f) c.hd n hu (a5C ru) (h u _ (I.tok _) ru)
theorem wJ{m:Str}{g:Addr}{pl:Sem Bool}{Q:Value×List Value->Shared->Prop}(I:aE X ae σ H s)(e:H a=some (.ins C dx fs))(c:dC X.K C)(k:tQ X.K C m g)(l:fs.lookup m=none)
 (h:Q (.ref g,[.ref a]) s):wpAny (model X.prog X.w) A (getMethod (.ref a) m pl) Q E s:=by
 obtain⟨mA,O,r,_,_,_⟩:=wK I.hok e;have hn:mA m=none:=gK.none_of (by rw[<- l];exact r m);exact a7H I.kIn O (c.get m) k.at_ k.fn hn h
theorem a9L{Q:Unit->Shared->Prop}(I:aE X ae σ H s)(e:H a=some (.ins C dx fs))(c:dC X.K C)(n:cA X.K C f)(hl:fs.length<1000)(ry:bQ y u)
 (h:∀s',aE X ae σ (upd H a (.ins C dx (aM f y fs))) s'->Q () s'):wpAny (model X.prog X.w) A (setAttr (.ref a) f u) Q E s:=by
 obtain⟨mA,O,r,wi,_,ho⟩:=wK I.hok e
 have hz:(fs.map (·.1)).length<=sizeLine:=by rw[List.length_map,sizeLine_eq];omega
 refine b0b I.kIn O c.sa c.po n.taker c.hd wi hz λh' O' sb=>h _ ?_
 have hd:∃o,h'.get? dx=some o:=let ⟨o,_,_,e',_⟩:=O'.ns;⟨o,e'⟩;refine I.write (x:=a) (e:=dx) (by rw[e];exact True.intro) (.inr ho) (λb q hb z=>(sb.2 b hb).trans z) hd ?_;refine⟨by rw[aF O.ne];exact ho,?_,O.ne,O'.obj,_,O'.ns,λg=> ?_,λg hg=> ?_⟩
 ·have:=a3c f y fs;omega
 ·show gK ((aM f y fs).lookup g) (if g=f then some u else mA g)
  rw[a3v];by_cases q:g=f
  ·rw[if_pos q,if_pos q];exact ry
  ·rw[if_neg q,if_neg q];exact r g
 ·by_cases q:g=f
  ·rw[q];exact(a0r f y fs).1
  ·refine(a0r f y fs).2 g (wi g λz=>hg ?_)
   show(if g=f then some u else mA g)=none;rw[if_neg q];exact z
theorem aE.made(I:aE X ae σ H s):aE X ae σ (upd (upd H s.heap.objs.size (.own (s.heap.objs.size+ 1))) (s.heap.objs.size+ 1) (.ins C s.heap.objs.size []))
 {s with heap:=(s.heap.push W.emptyDict).push (W.instObj C s.heap.objs.size)}:=by
 have e1:(s.heap.push W.emptyDict).get? s.heap.objs.size=some W.emptyDict:=Heap.get?_push_size s.heap rfl
 have e2:((s.heap.push W.emptyDict).push (W.instObj C s.heap.objs.size)).get? (s.heap.objs.size+ 1)=some (W.instObj C s.heap.objs.size):=by
  have:=Heap.get?_push_size (s.heap.push W.emptyDict) (o:=W.instObj C s.heap.objs.size) rfl
  rwa [Heap.size_push]at this
 have e3:(s.heap.push W.emptyDict).Ns s.heap.objs.size (λ_=>none):=⟨W.emptyDict,#[],_,e1,rfl,(λe he=>absurd he (by simp)),λ_=>rfl⟩;have I1:=I.laid (a:=s.heap.objs.size) (o:=.own (s.heap.objs.size+ 1)) (h':=s.heap.push W.emptyDict) (t':=s.toks) (λb u q=>Heap.get?_push_of_some _ q) (Nat.le_refl _) ⟨_,e1⟩;refine I1.laid (a:=s.heap.objs.size+ 1) (o:=.ins C s.heap.objs.size []) (t':=s.toks) (λb u q=>Heap.get?_push_of_some _ q) (Nat.le_of_eq (Heap.size_push _ _)) ?_;have ne:s.heap.objs.size≠s.heap.objs.size+ 1:=Nat.ne_of_lt (Nat.lt_succ_self _);refine⟨by rw[aF ne,aG],Nat.zero_le _,ne,e2,λ_=>none,(Heap.Ns1.of_empty e3).at λo q=>Heap.get?_push_of_some _ q,λ_=>True.intro,λy hy=>absurd rfl hy⟩
theorem a7T{f:Str}{s:Shared}{Q:Value->Shared->Prop}(hb:attributeBase e f env (eval e env)=eval e env)
 (h:wpAny (model prog w) A (eval e env) (λo s₁=>wpAny (model prog w) A (getAttr o f true) Q E s₁) E s):wpAny (model prog w) A (eval (.Attribute e f pos) env) Q E s:=
 Attribute_any_ h (by rw[arm_eval_Attribute,hb])
end
inductive a2z(K:Fg)(f:Str)(Q:VK)(x:V)(H1:Hp):Prop
 |mk (a:_) (C:_) (dx:_) (fs:_) (v:_):(x= .ref a)->(H1 a=some (.ins C dx fs))->(dC K C)->(cA K C f)->(fs.lookup f=some v)->(Q v H1)->a2z K f Q x H1
def zK(K:Fg)(ta:TE)(f:Str):TE:=λσ H Q=>ta σ H (a2z K f Q)
inductive a5m(K:Fg)(f:Str)(D:eG)(σ:St)(y:V)(x:V)(H2:Hp):Prop
 |mk (a:_) (C:_) (dx:_) (fs:_):(x= .ref a)->(H2 a=some (.ins C dx fs))->(dC K C)->(cA K C f)->(fs.length<1000)->(D.nx σ (upd H2 a (.ins C dx (aM f y fs))))->a5m K f D σ y x H2
def sFld(K:Fg)(ta tv:TE)(f:Str):TS:=λD σ H=>tv σ H λy H1=>ta σ H1 (a5m K f D σ y)
section
variable{o value:Expr}{f:Str}{ta tv:TE}
theorem bB(he:PE X e ta)(hb:attributeBase e f X.env (eval e X.env)=eval e X.env):PE X (.Attribute e f pos) (zK X.K ta f):=by
 intro ae s σ H Q I h;refine a7T hb (aV (he ae s σ H _ I h) ?_);rintro u s1 ⟨x,H1,I1,rx,a,C,dx,fs,v,ex,ea,c,n,l,q⟩;subst ex;obtain rfl:u=Value.ref a:=rx;exact a7s I1 ea c n l λu' s2 I2 ru=>⟨v,H1,I2,ru,q⟩
theorem cJ(ha:PE X o ta)(hv:PE X value tv)(hs:swapsWith value (some (.Attribute o f pos')) pos.line X.env=pure false):PS X (.Assign [.Attribute o f pos'] value pos) (sFld X.K ta tv f):=by
 intro ae s σ H D I h;refine plainObj_wpAny_Assign_Attribute (aV (hv ae s σ H _ I h) λu s1 ⟨y,H1,I1,ry,q⟩=>aV (ha ae s1 σ H1 _ I1 q) λov s2 ⟨x,H2,I2,rx,a,C,dx,fs,ex,ea,c,n,l,q2⟩=> ?_) hs;subst ex;obtain rfl:ov=Value.ref a:=rx;exact a9L I2 ea c n l ry λs3 I3=>⟨σ,_,I3,q2⟩
theorem methcall_of{pl:Sem Bool}{m:Str}{args:List Expr}{s:Shared}{Q:Value->Shared->Prop}(he:PE X e te)(I:aE X ae σ H s)
 (h:te σ H λx H1=>∃a C dx fs g,x= .ref a/\H1 a=some (.ins C dx fs)/\dC X.K C/\tQ X.K C m g/\fs.lookup m=none/\
  ∀s1,aE X ae σ H1 s1->wpAny (model X.prog X.w) X.A (callWith pos (.ref g) [.ref a] (backTo pos (starEach args X.env)) (backToKw pos (keywordEach [] X.env))) Q X.xe s1)
 (ht:eval (.Call (.Attribute e m apos) args [] pos) X.env=(do
  let ov<- eval e X.env
  standAt apos.atName
  let (f,first)<- holding [ov] (getMethod ov m pl)
  callWith pos f first (backTo pos (starEach args X.env)) (backToKw pos (keywordEach [] X.env)))):
 wpAny (model X.prog X.w) X.A (eval (.Call (.Attribute e m apos) args [] pos) X.env) Q X.xe s:=by
 refine W.methodCall_KW (pl:=pl) (aV (he ae s σ H _ I h) ?_) ht;rintro u s1 ⟨x,H1,I1,rx,a,C,dx,fs,g,ex,ea,c,k,l,q⟩;subst ex;obtain rfl:u=Value.ref a:=rx;exact wJ I1 ea c k l (q s1 I1)
end
section
variable{s:Shared}{Q:Value->Shared->Prop}{c:Value}{b:Bool}
inductive hZ(K:Fg)(H:Hp):V->Value->Prop where
 |non:hZ K H .non (.type "NoneType")
 |bl (x:Bool):hZ K H (.bl x) (.type "bool")
 |int (i:Int):hZ K H (.int i) (.type "int")
 |str (x:Str):hZ K H (.str x) (.type "str")
 |flt (x:UInt64):hZ K H (.flt x) (.type "float")
 |lst {a:Addr} {xs:List V} (e:H a=some (.lst xs)):hZ K H (.ref a) (.type "list")
 |frz {a:Addr} {o:Obj} {xs:List V} (e:H a=some (.frz o (.lst xs))):hZ K H (.ref a) (.type "list")
 |tup {a:Addr} {xs:List V} (e:H a=some (.tup xs)):hZ K H (.ref a) (.type "tuple")
 |dK {a:Addr} {kvs:List (aD×V)} (e:H a=some (.dK kvs)):hZ K H (.ref a) (.type "dict")
 |dT {a:Addr} {kvs:List (List aD×V)} (e:H a=some (.dT kvs)):hZ K H (.ref a) (.type "dict")
 |ins {a C dx:Addr} {fs:List (Str×V)} (e:H a=some (.ins C dx fs)) (cl:dC K C) (ha:W.findIn K (.ref C) "__class__"=some (some (.builtin "object.__class__")))
  (hn:W.specialIn K (.builtin "object.__class__") "__get__"=some (some (.builtin "getset_descriptor.__get__"))) (htk:W.takesIn K (.builtin "object.__class__")=some true)
  (hm:W.mroIn K C (.type "object")=some true):hZ K H (.ref a) (.ref C)
theorem b1d{x:V}{t:Value}(I:aE X ae σ H s)(rx:bQ x u)(ty:hZ X.K H x t)(e:W.kitOne X.K t c=some b)(h:∀tk,Q (.bool b) {s with toks:=tk}):
 wpAny (model X.prog X.w) A (call (.builtin "isinstance") [u,c]) Q E s:=by
 cases ty with
 |non=>cases (show u=Value.none from rx);exact W.kia_one W.kitx_none I.kIn True.intro e (λz=>nomatch z) h
 |bl y=>cases (show u=Value.bool y from rx);exact W.kia_one W.kitx_bool I.kIn True.intro e (λz=>nomatch z) h
 |int i=>obtain⟨t,q⟩:=(show∃t,u=Value.int i t from rx);cases q;exact W.kia_one W.kitx_int I.kIn True.intro e (λz=>nomatch z) h
 |str y=>obtain⟨t,q⟩:=(show∃t,u=Value.str y t from rx);cases q;exact W.kia_one W.kitx_str I.kIn True.intro e (λz=>nomatch z) h
 |flt y=>obtain⟨t,q⟩:=(show∃t,u=Value.float y t from rx);cases q;exact W.kia_one W.kitx_float I.kIn True.intro e (λz=>nomatch z) h
 | @lst a xs ea=>
  cases (show u=Value.ref a from rx);obtain⟨_,_,n,_,h1⟩:=(show cX X.prog X.w H s.heap a (.lst xs) from I.hok a _ ea);exact W.kia_one W.kitx_list I.kIn ⟨_,h1,rfl⟩ e (λz=>nomatch z) h
 | @frz a ob xs ea=>
  cases (show u=Value.ref a from rx);obtain⟨_,_,_,n,_,h1⟩:=(show cX X.prog X.w H s.heap a (.frz ob (.lst xs)) from I.hok a _ ea);exact W.kia_one W.kitx_list I.kIn ⟨_,h1,rfl⟩ e (λz=>nomatch z) h
 | @tup a xs ea=>
  cases (show u=Value.ref a from rx);obtain⟨_,_,_,p⟩:=(show cX X.prog X.w H s.heap a (.tup xs) from I.hok a _ ea);obtain⟨o,h1,h2,_⟩:=p;exact W.kia_one W.kitx_tuple I.kIn ⟨o,h1,h2⟩ e (λz=>nomatch z) h
 | @dK a kvs ea=>
  cases (show u=Value.ref a from rx);obtain⟨_,_,vs,_,p⟩:=(show cX X.prog X.w H s.heap a (.dK kvs) from I.hok a _ ea);obtain⟨o,es,ep,h1,h2,_⟩:=p;exact W.kia_one W.kitx_dict I.kIn ⟨o,h1,h2.1⟩ e (λz=>nomatch z) h
 | @dT a kvs ea=>
  cases (show u=Value.ref a from rx);obtain⟨_,_,xs,_,o,es,ep,h1,h2,_⟩:=(show cX X.prog X.w H s.heap a (.dT kvs) from I.hok a _ ea);exact W.kia_one W.kitx_dict I.kIn ⟨o,h1,h2.1⟩ e (λz=>nomatch z) h
 | @ins a C dx fs ea cl ha hn htk hm=>
  cases (show u=Value.ref a from rx);obtain⟨mA,O,_⟩:=wK I.hok ea;obtain⟨od,J,_⟩:=O.look;exact W.kia_one (W.kitx_own (cl.get _) cl.hd ha hn htk hm) I.kIn J e (λz=>nomatch z) h
end
structure cR(k:Nat)(A:Around):Prop where
 hd:A.handled=none
 dp:A.depth+ 3* k+ 5<recursionLimit
 un:A.units+ 16* k+ 200<cLine
theorem cR.mono{k:Nat}(r:cR k A)(h:j<=k):cR j A:=⟨r.hd,by have:=r.dp;omega,by have:=r.un;omega⟩
theorem cR.mn{k:Nat}(r:cR k A)(h:j<=k:=by decide):cR j A:=r.mono h
theorem cR.deeper{k:Nat}(r:cR (k+ 1) A)(env:Env):cR k (A.deeper env):=
 ⟨r.hd,by have:=r.dp;show A.depth+ 1+ 3* k+ 5<_;omega,by have:=r.un;show A.units+ 3+ 16* k+ 200<_;omega⟩
theorem a5I{kw:List (Str×Value)}:(A.under (.builtin "type.__call__" ⟨.ref C::us,kw⟩)).depth=A.depth+ 1:=by
 first|rfl|simp[Around.under,Code.weight,Code.isCreation,Code.isGuard,Code.isCaller,Code.frames,Code.isFrame,guardIds]
theorem a6L{kw:List (Str×Value)}:(A.under (.builtin "type.__call__" ⟨.ref C::us,kw⟩)).units=A.units+ 1:=by
 first|rfl|simp[Around.under,Code.cUnits,Code.frames,Code.isFrame]
theorem cR.make{k:Nat}(r:cR (k+ 1) A)(C:Addr)(us:List Value)(kw:List (Str×Value)):cR k (A.under (.builtin "type.__call__" ⟨.ref C::us,kw⟩)):=
 ⟨r.hd,by have:=r.dp;rw[a5I];omega,by have:=r.un;rw[a6L];omega⟩
theorem cR.depth{k:Nat}(r:cR k A):A.depth<recursionLimit:=by have:=r.dp;omega
theorem cR.units{k:Nat}(r:cR k A):A.units+ 64<cLine:=by have:=r.un;omega
def eL:TA:=λ_ H Q=>Q [] H
def dM(ta:TE)(tr:TA):TA:=λσ H Q=>ta σ H λx H1=>tr σ H1 λxs H2=>Q (x::xs) H2
section
variable{t:TA}
theorem aC:PA X [] eL:=λ_ _ _ _ H Q I h=>Calls.spliced_nil ⟨[],H,I,.nil,h⟩
theorem aA(ha:PE X e te)(hr:PA X es t)(hs:starEach (e::es) X.env=(false,eval e X.env)::starEach es X.env:=by rfl):PA X (e::es) (dM te t):=by
 intro pos ae s σ H Q I h;rw[hs];show wpAny _ _ (spliced ((false,eval e X.env)::backTo pos (starEach es X.env))) _ _ s;refine Calls.spliced_cons (aV (ha ae s σ H _ I h) ?_);rintro u s1 ⟨x,H1,I1,r1,q1⟩;exact aV (hr pos ae s1 σ H1 _ I1 q1) λus s2 ⟨xs,H2,I2,r2,q2⟩=>⟨x::xs,H2,I2,.cons r1 r2,q2⟩
inductive a3u(Q:VK)(xs:List V)(H1:Hp):Prop
 |mk:(xs.length<=sizeLine)->(∀p,H1 p=none->Q (.ref p) (upd H1 p (.tup xs)))->a3u Q xs H1
def jP(t:TA):TE:=λσ H Q=>t σ H (a3u Q)
inductive yP(Q:VK)(xs:List V)(H1:Hp):Prop
 |mk:(xs.length<=sizeLine)->(∀p,H1 p=none->Q (.ref p) (upd H1 p (.lst xs)))->yP Q xs H1
def kO(t:TA):TE:=λσ H Q=>t σ H (yP Q)
theorem dU{x1}(h:PA X es t):PE X (.Tuple es x1 pos) (jP t):=by
 intro ae s σ H Q I hq;refine wpAny_Tuple_spliced (aV (h pos ae s σ H _ I hq) λus s1 ⟨xs,H1,I1,r,z,q⟩=>⟨by rw[<- r.length];exact z,?_⟩);have hf:H1 s1.heap.objs.size=none:=I1.hok.fresh (Nat.le_refl _);refine⟨.ref s1.heap.objs.size,upd H1 s1.heap.objs.size (.tup xs),I1.laid (t':=s1.toks) (λb u e=>Heap.get?_push_of_some _ e) (Nat.le_refl _) ?_,rfl,q _ hf⟩;exact⟨z,us,r,⟨_,Heap.get?_push_size _ rfl,rfl,_,rfl⟩⟩
theorem dQ(h:PA X es t):PE X (.List es pos) (kO t):=by
 intro ae s σ H Q I hq;refine wpAny_List_spliced (aV (h pos ae s σ H _ I hq) λus s1 ⟨xs,H1,I1,r,z,q⟩=>⟨by rw[<- r.length];exact z,?_⟩);have hf:H1 s1.heap.objs.size=none:=I1.hok.fresh (Nat.le_refl _);refine⟨.ref s1.heap.objs.size,upd H1 s1.heap.objs.size (.lst xs),I1.laid (t':=s1.toks) (λb u e=>Heap.get?_push_of_some _ e) (Nat.le_refl _) ?_,rfl,q _ hf⟩;exact⟨z,us,0,r,Heap.get?_push_size _ rfl⟩
end
abbrev Sp:=List V->Hp->VK->XK->Prop
abbrev fL:=List Env->Hp->Shared->XK->Value->Shared->Prop
structure nO(P:Program)(w:World)(K:Fg)(mg:Str->Option Value)(af:Heap)(A:Around)(ag:List Env)(s:Shared)(H:Hp):Prop where
 frames:A.frames=some ag
 mod:Mod K mg af
 bs:∀b o,af.get? b=some o->s.heap.get? b=some o/\H b=none
 bsz:af.objs.size<=s.heap.objs.size
 funs:s.heap.FunFrames af ag
 frf:∀b∈eT ag,H b=none
 hok:dN P w H s.heap
 bare:AllBare s.gens
variable{CX:fL}{sp:Sp}{RL:Addr->Sp->Prop}
def CE(ag:List Env)(P:Program)(w:World)(H:Hp)(s:Shared)(Q:VK)(u:Value)(s':Shared):Prop:=
 ∃v H',s'.os=s.os/\AllBare s'.gens/\Un (eT ag) [] H H' s.heap s'.heap/\dN P w H' s'.heap/\bQ v u/\Q v H'
def CR(CX:fL)(ag:List Env)(P:Program)(w:World)(H:Hp)(s:Shared)(Q:VK)(E:XK)(r:Result)(s':Shared):Prop:=
 match r with
 | .ok (.ret u)=>CE ag P w H s Q u s'
 | .ok _=>False
 | .error e=>CX ag H s E e s'
structure gJ(P:Program)(w:World)(K:Fg)(mg:Str->Option Value)(af:Heap)(CX:fL)(k:Nat)(f:Addr)(fd:FuncData)(ps:List Str)(sp:Sp):Prop where
 len:∀vs H Q E,sp vs H Q E->vs.length=ps.length
 run:∀(A:Around) (ag:List Env) (s:Shared) (H:Hp) (args:Args) (us:List Value) (vs:List V) (Q:VK) (E:XK),cR k A->nO P w K mg af A ag s H->BindsTo s fd args (ps.zip us)->bK vs us->sp vs H Q E->
  codeAny (model P w) A (.call (.ref f) args) (CR CX ag P w H s Q E) s
theorem nO.make{s:Shared}(e:nO P w K mg af A ag s H)(C:Addr)(us:List Value)(kw:List (Str×Value)):
 nO P w K mg af (A.under (.builtin "type.__call__" ⟨.ref C::us,kw⟩)) ag s H:=⟨by first|exact e.frames|(simpa [Around.under,Code.envs,Code.isFrame,pushEnvs] using e.frames),e.mod,e.bs,e.bsz,e.funs,e.frf,e.hok,e.bare⟩
section
variable{s:Shared}
theorem aE.env0(I:aE X ae σ H s):nO X.prog X.w X.K X.mg X.base X.A X.stack s H:=
 ⟨I.ok.frames,I.ok.mod,I.bs,Nat.le_trans I.ok.bsz I.sz,I.stack,I.stkFree,I.hok,I.bare⟩
theorem aE.after(I:aE X ae σ H s)(h:CE X.stack X.prog X.w H s Q u s'):EP X ae σ Q u s':=by
 obtain⟨v,H',os,bare,un,hok,r,q⟩:=h;obtain⟨hh,g,d,t,os'⟩:=s';obtain rfl:os'=s.os:=os;exact⟨v,H',I.call (h':=hh) (g':=g) (d':=d) (t':=t) (ch:=[]) un hok bare (λb z=>absurd z (by simp)),r,q⟩
end
def tZ(sp:Sp)(dvs:List V)(E:XK)(t:TA):TE:=λσ H Q=>t σ H λvs H1=>sp (vs++ dvs) H1 Q E
inductive a19(C:Addr)(m:Str)(sp:Sp)(dvs:List V)(E:XK)(t:TA)(σ:St)(Q:VK)(x:V)(H1:Hp):Prop
 |mk (a:_) (dx:_) (fs:_):(x= .ref a)->(H1 a=some (.ins C dx fs))->(fs.lookup m=none)->(t σ H1 λvs H2=>sp (x::(vs++ dvs)) H2 Q E)->a19 C m sp dvs E t σ Q x H1
def uN(C:Addr)(m:Str)(sp:Sp)(dvs:List V)(E:XK)(ta:TE)(t:TA):TE:=λσ H Q=>ta σ H (a19 C m sp dvs E t σ Q)
def mC(C:Addr)(sp:Sp)(dvs:List V)(E:XK)(t:TA):TE:=λσ H Q=>t σ H λvs H1=>∀x dx,H1 x=none->H1 dx=none->dx≠x->
 sp (.ref x::(vs++ dvs)) (upd (upd H1 dx (.own x)) x (.ins C dx [])) (λv H2=>v= .non/\Q (.ref x) H2) E
def jA(K:Fg)(fd:FuncData)(ps:List Str)(ds:List Value):Prop:=
 ∀(s:Shared) (us:List Value),K.In s.heap->(us++ ds).length=ps.length->BindsTo s fd ⟨us,[]⟩ (ps.zip (us++ ds))
theorem jA.all(h:∀us:List Value,us.length=ps.length->bindArgs fd ⟨us,[]⟩=pure (ps.zip us)):jA K fd ps []:=λs us _ hl=>by
 rw[List.append_nil]at hl|-
 exact .of_eq (h us hl)
def iA(CX:fL)(X:Cx)(E:XK):Prop:=∀(ae:List (Addr×Obj)) (σ:St) (H:Hp) (s:Shared) (e:Value) (s':Shared),aE X ae σ H s->CX X.stack H s E e s'->X.xe e s'
section
variable{k:Nat}{dvs:List V}{ds:List Value}{E:XK}{m:Str}{p:Pos}{o:Expr}{ta:TE}{t:TA}
theorem rN{s:Shared}(F:gJ X.prog X.w X.K X.mg X.base CX k f fd ps sp)(hr:cR k X.A)(hb:jA X.K fd ps ds)(hd:bK dvs ds)(hx:iA CX X E)
 (I:aE X ae σ H s)(r:bK vs us)(h:sp (vs++ dvs) H Q E):wpAny (model X.prog X.w) X.A (call (.ref f) us) (EP X ae σ Q) X.xe s:=by
 have r2:bK (vs++ dvs) (us++ ds):=r.append hd
 have hl:(us++ ds).length=ps.length:=by rw[<- r2.length];exact F.len _ _ _ _ h
 refine wpAny_call (codeAny_mono (F.run X.A X.stack s H ⟨us,[]⟩ (us++ ds) (vs++ dvs) Q E hr I.env0 (hb s us I.kIn hl) r2 h) λr s' hq=> ?_)
 cases r with
 |error e=>exact hx ae σ H s e s' I hq
 |ok fl=>
  cases fl with
  |ret u=>exact I.after hq
  |next=>exact False.elim hq
  |brk=>exact False.elim hq
  |cont=>exact False.elim hq
theorem a5u(F:gJ X.prog X.w X.K X.mg X.base CX k f fd ps sp)(hr:cR k X.A)(hg:Gl X x)(hm:X.mg x=some (.ref f))(hk:W.keepIn X.K (.ref f)=true)(hb:jA X.K fd ps ds)(hd:bK dvs ds)(hx:iA CX X E)
 (ha:PA X (e::es) t)(hdb:(x==("__debug__":Str))=false:=by decide)(he:starEach (e::es) X.env=(false,eval e X.env)::starEach es X.env:=by rfl)(hpl:(backTo pos (starEach es X.env)).any (·.1)=false:=by rfl):
 PE X (.Call (.Name x p) (e::es) [] pos) (tZ sp dvs E t):=by
 intro ae s σ H Q I h;refine wpAny_Call_Name_kw (oN I hg hm ?_ hdb);refine W.callWith_K (h₀:=X.base) I.ok.mod.kin hk (aV (ha pos ae s σ H _ I h) λus s1 ⟨vs,H1,I1,r,q⟩=>⟨I1.kIn,?_⟩) he hpl;exact rN F hr hb hd hx I1 r q
theorem a6i{pl:Sem Bool}(he:PE X o ta)(c:dC X.K C)(hm:tQ X.K C m f)(F:gJ X.prog X.w X.K X.mg X.base CX k f fd ps sp)(hr:cR k X.A)(hb:jA X.K fd ps ds)(hd:bK dvs ds)(hx:iA CX X E)(ha:PA X (e::es) t)
 (hst:starEach (e::es) X.env=(false,eval e X.env)::starEach es X.env:=by rfl)(hpl:(backTo pos (starEach es X.env)).any (·.1)=false:=by rfl)
 (ht:eval (.Call (.Attribute o m apos) (e::es) [] pos) X.env=(do
  let ov<- eval o X.env
  standAt apos.atName
  let (f,first)<- holding [ov] (getMethod ov m pl)
  callWith pos f first (backTo pos (starEach (e::es) X.env)) (backToKw pos (keywordEach [] X.env))):=by rfl):
 PE X (.Call (.Attribute o m apos) (e::es) [] pos) (uN C m sp dvs E ta t):=by
 intro ae s σ H Q I h;refine W.methodCall_KW (pl:=pl) (aV (he ae s σ H _ I h) ?_) ht;rintro u s1 ⟨x,H1,I1,rx,a,dx,fs,ex,ea,l,q⟩;subst ex;obtain rfl:u=Value.ref a:=rx;refine wJ I1 ea c hm l ?_;refine W.callWith_K (first:=[.ref a]) (h₀:=X.base) I.ok.mod.kin hm.kp (aV (ha pos ae s1 σ H1 _ I1 q) λus s2 ⟨vs,H2,I2,r,q2⟩=>⟨I2.kIn,?_⟩) hst hpl;exact rN (us:=.ref a::us) (vs:=.ref a::vs) F hr hb hd hx I2 (.cons rfl r) q2
theorem a7h{pl:Sem Bool}(he:PE X o ta)(c:dC X.K C)(hm:tQ X.K C m f)(F:gJ X.prog X.w X.K X.mg X.base CX k f fd ps sp)(hr:cR k X.A)(hb:jA X.K fd ps ds)(hd:bK dvs ds)(hx:iA CX X E)
 (ht:eval (.Call (.Attribute o m apos) [] [] pos) X.env=(do
  let ov<- eval o X.env
  standAt apos.atName
  let (f,first)<- holding [ov] (getMethod ov m pl)
  callWith pos f first (backTo pos (starEach [] X.env)) (backToKw pos (keywordEach [] X.env))):=by rfl):
 PE X (.Call (.Attribute o m apos) [] [] pos) (uN C m sp dvs E ta eL):=by
 intro ae s σ H Q I h;refine W.methodCall_KW (pl:=pl) (aV (he ae s σ H _ I h) ?_) ht;rintro u s1 ⟨x,H1,I1,rx,a,dx,fs,ex,ea,l,q⟩;subst ex;obtain rfl:u=Value.ref a:=rx;refine wJ I1 ea c hm l ?_;exact W.callWith_K0 (first:=[.ref a]) I1.kIn hm.kp (rN (us:=[.ref a]) (vs:=[.ref a]) F hr hb hd hx I1 (.cons rfl .nil) q)
structure Mk(K:Fg)(C f:Addr):Prop where
 makes:W.makesIn K C=true
 init:W.findIn K (.ref C) "__init__"=some (some (.ref f))
 fn:W.isFn K (.ref f)=true
 kp:W.keepIn K (.ref C)=true
theorem a0Z{s:Shared}(M:Mk X.K C f)(F:gJ X.prog X.w X.K X.mg X.base CX k f fd ps sp)(hr:cR (k+ 1) X.A)(hb:jA X.K fd ps ds)(hd:bK dvs ds)
 (hx:iA CX X E)(I:aE X ae σ H s)(r:bK vs us)
 (h:∀x dx,H x=none->H dx=none->dx≠x->sp (.ref x::(vs++ dvs)) (upd (upd H dx (.own x)) x (.ins C dx [])) (λv H2=>v= .non/\Q (.ref x) H2) E):
 wpAny (model X.prog X.w) X.A (call (.ref C) us) (EP X ae σ Q) X.xe s:=by
 have hq:=h (s.heap.objs.size+ 1) s.heap.objs.size (I.hok.fresh (Nat.le_succ _)) (I.hok.fresh (Nat.le_refl _)) (Nat.ne_of_lt (Nat.lt_succ_self _));have I2:=aE.made (C:=C) I;have r2:bK (V.ref (s.heap.objs.size+ 1)::(vs++ dvs)) (Value.ref (s.heap.objs.size+ 1)::(us++ ds)):=.cons rfl (r.append hd)
 have hl:(Value.ref (s.heap.objs.size+ 1)::us++ ds).length=ps.length:=by
  have e:=r2.length;rw[F.len _ _ _ _ hq]at e;exact e.symm
 refine wpAny_call (a8u (f:=f) I.kIn M.makes M.init (beq_iff_eq.mp M.fn) (codeAny_mono (F.run _ X.stack _ _ ⟨Value.ref (s.heap.objs.size+ 1)::us,[]⟩ (Value.ref (s.heap.objs.size+ 1)::(us++ ds)) _ _ E (hr.make C us [])
  (I2.env0.make C us []) (hb _ (Value.ref (s.heap.objs.size+ 1)::us) I2.kIn hl) r2 hq) λr s' hq'=> ?_))
 cases r with
 |error e=>exact hx ae σ _ _ e s' I2 hq'
 |ok fl=>
  cases fl with
  |ret u=>
   obtain⟨v,H',I3,rv,ev,q3⟩:=I2.after hq';subst ev;exact⟨rv,⟨V.ref (s.heap.objs.size+ 1),H',I3,rfl,q3⟩⟩
  |next=>exact False.elim hq'
  |brk=>exact False.elim hq'
  |cont=>exact False.elim hq'
theorem a8O(M:Mk X.K C f)(F:gJ X.prog X.w X.K X.mg X.base CX k f fd ps sp)(hr:cR (k+ 1) X.A)(hg:Gl X x)(hm:X.mg x=some (.ref C))(hb:jA X.K fd ps ds)(hd:bK dvs ds)(hx:iA CX X E)
 (ha:PA X (e::es) t)(hdb:(x==("__debug__":Str))=false:=by decide)(he:starEach (e::es) X.env=(false,eval e X.env)::starEach es X.env:=by rfl)(hpl:(backTo pos (starEach es X.env)).any (·.1)=false:=by rfl):
 PE X (.Call (.Name x p) (e::es) [] pos) (mC C sp dvs E t):=by
 intro ae s σ H Q I h;refine wpAny_Call_Name_kw (oN I hg hm ?_ hdb);refine W.callWith_K (h₀:=X.base) I.ok.mod.kin M.kp (aV (ha pos ae s σ H _ I h) λus s1 ⟨vs,H1,I1,r,q⟩=>⟨I1.kIn,?_⟩) he hpl;exact a0Z M F hr hb hd hx I1 r q
theorem a9p(M:Mk X.K C f)(F:gJ X.prog X.w X.K X.mg X.base CX k f fd ps sp)(hr:cR (k+ 1) X.A)(hg:Gl X x)(hm:X.mg x=some (.ref C))(hb:jA X.K fd ps ds)(hd:bK dvs ds)(hx:iA CX X E)
 (hdb:(x==("__debug__":Str))=false:=by decide):PE X (.Call (.Name x p) [] [] pos) (mC C sp dvs E eL):=by
 intro ae s σ H Q I h;refine wpAny_Call_Name_kw (oN I hg hm ?_ hdb);exact W.callWith_K0 I.kIn M.kp (a0Z (us:=[]) M F hr hb hd hx I .nil h)
end
structure bD(N P:List Str)(sc:Scope):Prop where
 kind:sc.kind= .function:=by rfl
 co:sc.isCoroutine=false:=by rfl
 gen:sc.isGenerator=false:=by rfl
 nd:N.Nodup:=by decide+kernel
 pre:N.take P.length=P:=by rfl
 par:∀x∈P,sc.names.lookup x=some .local\/ sc.names.lookup x=some .cell:=by decide+kernel
 nofree:∀y∈sc.names,y.2≠ .free:=by decide+kernel
theorem a48{kindOf:Str->Option NameKind}{x:Str}:∀{binds:List (Str×Value)} {m:Str->Option Value},(∀v,(x,v)∉binds)->bindL kindOf binds m x=m x
 | [],_,_=>rfl
 |(n,v)::r,m,h=>by
  unfold bindL;rw[a48 λw hw=>h w (List.mem_cons_of_mem _ hw)];split
  ·have:x≠n:=by rintro rfl;exact h v List.mem_cons_self
   simp[this]
  ·rfl
theorem a1k{kindOf:Str->Option NameKind}{x:Str}:∀{binds:List (Str×Value)} {m:Str->Option Value},(∀v,(x,v)∉binds)->bindC kindOf binds m x=m x
 | [],_,_=>rfl
 |(n,v)::r,m,h=>by
  unfold bindC;rw[a1k λw hw=>h w (List.mem_cons_of_mem _ hw)];split
  ·rfl
  ·have:x≠n:=by rintro rfl;exact h v List.mem_cons_self
   simp[this]
theorem a0J{kindOf:Str->Option NameKind}{x:Str}{v:Value}:∀{P:List Str} {vs:List Value} {i:Nat} {m:Str->Option Value},P.Nodup->P[i]?=some x->vs[i]?=some v->kindOf x=some .local->
 bindL kindOf (P.zip vs) m x=some v
 | [],_,_,_,_,h,_,_=>by simp at h
 |_::_,[],_,_,_,_,h,_=>by simp at h
 |p::P,w::vs,0,m,nd,h1,h2,hk=>by
  simp at h1 h2;subst h1;subst h2;show bindL kindOf ((p,w)::P.zip vs) m p=_;unfold bindL;rw[a48 λv hv=>(List.nodup_cons.mp nd).1 (List.of_mem_zip hv).1,if_pos hk];simp
 |p::P,w::vs,i+ 1,m,nd,h1,h2,hk=>by
  show bindL kindOf ((p,w)::P.zip vs) m x=_;unfold bindL;exact a0J (i:=i) (List.nodup_cons.mp nd).2 (by simpa using h1) (by simpa using h2) hk
theorem a4r{kindOf:Str->Option NameKind}{x:Str}{v:Value}:∀{P:List Str} {vs:List Value} {i:Nat} {m:Str->Option Value},P.Nodup->P[i]?=some x->vs[i]?=some v->kindOf x≠some .local->
 bindC kindOf (P.zip vs) m x=some v
 | [],_,_,_,_,h,_,_=>by simp at h
 |_::_,[],_,_,_,_,h,_=>by simp at h
 |p::P,w::vs,0,m,nd,h1,h2,hk=>by
  simp at h1 h2;subst h1;subst h2;show bindC kindOf ((p,w)::P.zip vs) m p=_;unfold bindC;rw[a1k λv hv=>(List.nodup_cons.mp nd).1 (List.of_mem_zip hv).1,if_neg hk];simp
 |p::P,w::vs,i+ 1,m,nd,h1,h2,hk=>by
  show bindC kindOf ((p,w)::P.zip vs) m x=_;unfold bindC;exact a4r (i:=i) (List.nodup_cons.mp nd).2 (by simpa using h1) (by simpa using h2) hk
def fJ(N:List Str)(vs:List V):St:=vs.map some++ List.replicate (N.length- vs.length) none
def fV(CX:fL)(P:Program)(w:World)(K:Fg)(mg:Str->Option Value)(af:Heap)(N:List Str)(qual:Str)(ai:Scope)(f:Addr)(cd:Value)(A:Around)(ag:List Env)(s:Shared)(H:Hp)(E:XK):Cx where
 prog:=P
 w:=w
 K:=K
 mg:=mg
 base:=af
 A:=A.deeper (envOfC qual ai s.heap.objs.size f cd)
 N:=N
 s₀:=s
 H₀:=H
 env:=envOfC qual ai s.heap.objs.size f cd
 outer:=ag
 stack:=envOfC qual ai s.heap.objs.size f cd::ag
 ex:=[]
 calm:=true
 fn:=λ_=>true
 pn:=[]
 xe:=λe s'=>wpAny (model P w) (A.deeper (envOfC qual ai s.heap.objs.size f cd)) (leaving (envOfC qual ai s.heap.objs.size f cd) e) (λ_ s''=>CX ag H s E e s'') (λe' s''=>CX ag H s E e' s'') s'
theorem a3R{sc:Scope}(h:sc.names.lookup x=some .cell):∃c,(cellsFrom n sc.names []).lookup x=some c:=by
 have q:=W.cellsFrom_some sc.names n [] (.inl h);exact Option.isSome_iff_exists.mp q
theorem a6j{s s1:Shared}{E:XK}
 (S:bD N ps ai)(hd:A.handled=none)(e0:nO P w K mg af A ag s H)(hl:vs.length=ps.length)(r:bK vs us)
 (x:InCallC s s.heap.objs.size (bindL (envOfC qual ai s.heap.objs.size f cd).kindOf (ps.zip us) λ_=>none) (cellsFrom (s.heap.objs.size+ 1) ai.names []) (bindC (envOfC qual ai s.heap.objs.size f cd).kindOf (ps.zip us) λ_=>none) s1):
 aE (fV CX P w K mg af N qual ai f cd A ag s H E) [] (fJ N vs) H s1:=by
 have hpl:ps.length<=N.length:=by have:=congrArg List.length S.pre;rw[List.length_take]at this;omega
 obtain⟨h1,tk,rfl,hk⟩:=x.done;have noA:∀b:Addr,b∉(fV CX P w K mg af N qual ai f cd A ag s H E).ex:=λb z=>absurd (show b∈([]:List Addr) from z) (by simp)
 refine⟨⟨e0.mod,S.kind,rfl,rfl,Nat.le_refl _,λy z c h1 h2=> ?_,λy hy=> ?_,λy c _ h=> ?_,λ_=>hd,Around.frames_deeper e0.frames,.inr ⟨rfl,rfl⟩,λb z=>absurd z (noA b),e0.bs,e0.bsz,λb _ _=>noA b,λb z=>absurd z (noA b),e0.funs,e0.frf⟩,
  rfl,e0.bare,Un.kept hk,⟨_,x.toInCall.ns,λi y v h1 h2 h3=> ?_⟩,λy c h=>⟨_,x.cell y c h⟩,e0.hok.fresh (Nat.le_refl _),λy c h=> ?_,λp hp=>absurd (show p∈([]:List (Addr×Obj)) from hp) (by simp),e0.hok.kept hk,?_⟩
 ·exact name_of_addr x.apart (PySem.mem_of_lookup h1) (PySem.mem_of_lookup h2)
 ·have hy:ai.names.lookup y=some .cell\/ ai.names.lookup y=some .free:=hy
  rcases hy with hy|hy
  ·exact a3R hy
  ·exact absurd rfl (S.nofree _ (PySem.mem_of_lookup hy))
 ·exact Nat.le_of_lt (x.above y c (PySem.mem_of_lookup h))
 ·have hi:i<vs.length:=by
   unfold fJ at h2;by_cases hi:i<vs.length
   ·exact hi
   ·rw[List.getElem?_append_right (by simpa using hi)]at h2
    rw[List.getElem?_replicate]at h2;split at h2<;>cases h2
  have ha:vs[i]?=some v:=by
   unfold fJ at h2;rw[List.getElem?_append_left (by simpa using hi),List.getElem?_map]at h2
   cases e:vs[i]? with
   |none=>rw[e]at h2;cases h2
   |some a=>rw[e]at h2;cases h2;rfl
  obtain⟨u,hu,rv⟩:=r.get ha
  have hp:ps[i]?=some y:=by
   rw[<- S.pre,List.getElem?_take_of_lt (by omega)];exact h1
  have ndP:ps.Nodup:=by rw[<- S.pre];exact S.nd.sublist (List.take_sublist _ _)
  refine⟨u,rv,?_⟩
  rcases S.par y (List.mem_of_getElem? hp)with k|k
  ·exact .inl ⟨k,a0J ndP hp hu k⟩
  ·obtain⟨c,e⟩:=a3R (n:=s.heap.objs.size+ 1) k
   refine .inr ⟨.inl k,c,e,?_⟩;have q:=x.cell y c e;rw[a4r ndP hp hu (by show ai.names.lookup y≠_;rw[k];decide)]at q;exact q
 ·exact e0.hok.fresh (Nat.le_of_lt (x.above y c (PySem.mem_of_lookup h)))
 ·unfold fJ
  show _=N.length;rw[List.length_append,List.length_map,List.length_replicate];omega
theorem a0t{k:Nat}{name:Str}{params:Arguments}{dV kV:Value}
 {osl:Array (Option Value)}(lk:K.lookup f=some ⟨oc,od,.func (W.fnOf name qual params body ai dV kV doc pm an ah ct),osl⟩)(hcd:W.codeIn K ah qual=true)(S:bD N ps ai)
 (len:∀vs H Q E,sp vs H Q E->vs.length=ps.length)
 (hbody:∀(A:Around) (ag:List Env) (s:Shared) (H:Hp) (vs:List V) (Q:VK) (E:XK),cR k (A.deeper (envOfC qual ai s.heap.objs.size f ah))->sp vs H Q E->
  ∃t,dL (fV CX P w K mg af N qual ai f ah A ag s H E) body t/\t {nx:=λ_ H'=>Q .non H',rt:=Q} (fJ N vs) H):
 gJ P w K mg af CX (k+ 1) f (W.fnOf name qual params body ai dV kV doc pm an ah ct) ps sp:=by
 refine⟨len,λA ag s H args us vs Q E hr e0 hb r hsp=> ?_⟩;have hl:=len _ _ _ _ hsp;have KX:K.In s.heap:=e0.mod.kin.keeps λb o e=>(e0.bs b o e).1
 have lim:s.heap.NoLimit:=e0.mod.nolimit.keeps λb o e=>(e0.bs b o e).1
 have hkind:∀y∈ps.zip us,ai.names.lookup y.1=some .local\/ (ai.names.lookup y.1=some .cell/\((cellsFrom (s.heap.objs.size+ 1) ai.names []).lookup y.1).isSome=true):=fun⟨n,v⟩ hy=>by
  rcases S.par n (List.of_mem_zip hy).1 with q|q
  ·exact .inl q
  ·exact .inr ⟨q,W.cellsFrom_some _ _ _ (.inl q)⟩
 refine codeAny_call_function hr.depth (KX _ _ lk) rfl S.co S.gen rfl (W.codeRec_of KX hcd) (hb _ _ _ _ ?_);refine wpAny_newFunctionEnv_cells S.kind hkind λenv he s1 x=> ?_
 subst he;refine⟨lim.keeps x.toInCall.keep,codeAny_func ?_⟩;obtain⟨t,ht,hq⟩:=hbody A ag s H vs Q E (hr.deeper _) hsp;have I:aE (fV CX P w K mg af N qual ai f ah A ag s H E) [] (fJ N vs) H s1:=a6j S hr.hd e0 hl r x;refine wpAny_mono (ht [] s1 (fJ N vs) H _ I hq) (λfl s' hs=> ?_) λe s' hs=>hs
 have fin:∀{σ':St} {H':Hp} {v:V} {u:Value},aE (fV CX P w K mg af N qual ai f ah A ag s H E) [] σ' H' s'->bQ v u->Q v H'->CE ag P w H s Q u s':=
  fun{σ' H' v u} J rv q=>⟨v,H',J.os,J.bare,J.base,J.hok,rv,q⟩
 cases fl with
 |ret u=>
  obtain⟨v,σ',H',J,rv,q⟩:=hs;exact fin J rv q
 |next=>
  obtain⟨σ',H',J,q⟩:=hs;exact fin (v:=V.non) (u:=Value.none) J rfl q
 |brk=>
  obtain⟨_,_,_,q⟩:=hs;exact False.elim q
 |cont=>
  obtain⟨_,_,_,q⟩:=hs;exact False.elim q
section
variable{p:Pos}{t:TA}{id T:String}{r:List V->Hp->VK->Prop}
def yY(r:List V->Hp->VK->Prop)(t:TA):TE:=λσ H Q=>t σ H λvs H1=>r vs H1 Q
theorem cM(hc:iC X (.builtin id) r)(hg:Gl X x)(hm:X.mg x=none)(hv:bootBuiltins x=some (.builtin id))(ha:PA X (e::es) t)(hn:x≠ "__name__":=by decide)(hdb:(x==("__debug__":Str))=false:=by decide)
 (he:starEach (e::es) X.env=(false,eval e X.env)::starEach es X.env:=by rfl)(hpl:(backTo pos (starEach es X.env)).any (·.1)=false:=by rfl):PE X (.Call (.Name x p) (e::es) [] pos) (yY r t):=by
 intro ae s σ H Q I h;refine wpAny_Call_Name_kw (sF I hg hm hv ?_ hn hdb);exact PyProof.Rows.callWith_builtin1 (aV (ha pos ae s σ H _ I h) λus s1 ⟨vs,H1,I1,r1,q1⟩=>hc ae s1 σ H1 vs us Q I1 r1 q1) he hpl
theorem jZ(hc:iC X (.type T) r)(hg:Gl X x)(hm:X.mg x=none)(hv:bootBuiltins x=some (.type T))(ha:PA X (e::es) t)(hn:x≠ "__name__":=by decide)(hdb:(x==("__debug__":Str))=false:=by decide)
 (he:starEach (e::es) X.env=(false,eval e X.env)::starEach es X.env:=by rfl)(hpl:(backTo pos (starEach es X.env)).any (·.1)=false:=by rfl):PE X (.Call (.Name x p) (e::es) [] pos) (yY r t):=by
 intro ae s σ H Q I h;refine wpAny_Call_Name_kw (sF I hg hm hv ?_ hn hdb);exact PyProof.Rows.callWith_type1 (aV (ha pos ae s σ H _ I h) λus s1 ⟨vs,H1,I1,r1,q1⟩=>hc ae s1 σ H1 vs us Q I1 r1 q1) he hpl
end
end L2
variable{xs vs ys:List V}{H H' H1 H2 H0 Hb:Hp}{o:HO}{v y:V}{X:Cx}{ta:TA}{tb tc te tl:TE}{σ:St}{Q:VK}{D:eG}{g:TG}{wi:TI}{r:R2}{CX:fL}{sp:Sp}{kvs kb:List (aD×V)}{trs:List (TE×TE)}{tt:TT}{J:It}{RL:Addr->Sp->Prop}{RN Φ:Hp->V->Prop}
namespace HT
open PySem PyProof.Rows
section
variable{s:Shared}
def sIx(n d:Nat):Option Int->Nat
 |none=>d
 |some v=>if v<0 then(v+ (n:Int)).toNat else min v.toNat n
end
end HT
namespace L2
open PySem PySem.Spec PyProof.Rows
abbrev TO:=St->Hp->(Option Int->Hp->Prop)->Prop
section
variable{lo hi:Option Expr}{tl th:TO}{p2:Pos}
def uD(X:Cx)(r:V->Option Int->Option Int->Hp->VK->Prop):Prop:=
 ∀(ae:List (Addr×Obj)) (s:Shared) (σ:St) (H:Hp) (x:V) (v vl vu:Value) (lo hi:Option Int) (sl:Addr) (Q:VK),aE X ae σ H s->bQ x v->s.heap.IsSliceOf sl vl vu .none->IsPart vl lo->IsPart vu hi->r x lo hi H Q->
  ∃T id,typeLookup (.type T) "__getitem__"=pure (some (.builtin id))/\s.TypeIs v T/\wpAny (model X.prog X.w) X.A (getItem v (.ref sl)) (EP X ae σ Q) X.xe s
theorem uD.or{r r':V->Option Int->Option Int->Hp->VK->Prop}(h:uD X r)(h':uD X r'):uD X (λx lo hi H Q=>r x lo hi H Q\/ r' x lo hi H Q):=by
 intro ae s σ H x v vl vu lo hi sl Q I rx hs pl pu q
 rcases q with q|q
 ·exact h ae s σ H x v vl vu lo hi sl Q I rx hs pl pu q
 ·exact h' ae s σ H x v vl vu lo hi sl Q I rx hs pl pu q
def uX(xs:List V)(lo hi:Option Int):List V:=(xs.drop (HT.sIx xs.length 0 lo)).take (HT.sIx xs.length xs.length hi- HT.sIx xs.length 0 lo)
theorem a5L(xs:List V)(lo hi:Option Int):(uX xs lo hi).length<=xs.length:=by
 unfold uX;rw[List.length_take,List.length_drop];omega
end
def lF(n:Nat)(i:Int):Option Nat:=if 0<=i then(if i<n then some i.toNat else none) else if-(n:Int)<=i then some (i+ n).toNat else none
def fE{α:Type}(xs:List α)(i:Int):Option α:=(lF xs.length i).bind λj=>xs[j]?
theorem a07{i:Int}(h:lF n i=some j):seqIndex? i n=some j/\j<n/\ -(n:Int)<=i/\i<n:=by
 unfold lF at h;by_cases h0:0<=i
 ·rw[if_pos h0]at h
  by_cases h1:i<n
  ·rw[if_pos h1]at h
   have e:i.toNat=j:=Option.some.inj h;exact⟨by rw[seqIndex_of h0 h1,e],by omega,by omega,h1⟩
  ·rw[if_neg h1]at h;cases h
 ·rw[if_neg h0]at h
  by_cases h1: -(n:Int)<=i
  ·rw[if_pos h1]at h
   have e:(i+ n).toNat=j:=Option.some.inj h;exact⟨by rw[seqIndex_neg (by omega) h1,e],by omega,h1,by omega⟩
  ·rw[if_neg h1]at h;cases h
theorem a0u{α:Type}{xs:List α}{i:Int}{v:α}(h:fE xs i=some v):∃j,seqIndex? i xs.length=some j/\xs[j]?=some v/\j<xs.length/\ -(xs.length:Int)<=i/\i<xs.length:=by
 unfold fE at h
 cases e:lF xs.length i with
 |none=>rw[e]at h;cases h
 |some j=>
  rw[e]at h;obtain⟨h1,h2,h3,h4⟩:=a07 e;exact⟨j,h1,h,h2,h3,h4⟩
theorem a4F{α:Type}{xs:List α}{v:α}(h:xs[j]?=some v):fE xs (j:Int)=some v:=by
 have hj:j<xs.length:=(List.getElem?_eq_some_iff.mp h).1
 have e:lF xs.length (j:Int)=some j:=by
  unfold lF;rw[if_pos (by omega),if_pos (by omega)];simp
 unfold fE;rw[e];exact h
def a11(b:Expr):Prop:=∀o i,subscripted b false o i=operate [o,i] (getItem o i)
def oR(X:Cx)(r:R2):Prop:=
 ∀(value slice:Expr) (ae:List (Addr×Obj)) (s:Shared) (σ:St) (H:Hp) (x y:V) (v u:Value) (Q:VK),aE X ae σ H s->bQ x v->bQ y u->r x y H Q->
  subscripted slice false v u=operate [v,u] (getItem v u)->wpAny (model X.prog X.w) X.A (subscriptTail value slice v u) (EP X ae σ Q) X.xe s
def MtR(X:Cx)(id:String)(r:V->List V->Hp->VK->Prop):Prop:=
 ∀(ae:List (Addr×Obj)) (s:Shared) (σ:St) (H:Hp) (x:V) (xs:List V) (v:Value) (us:List Value) (Q:VK),aE X ae σ H s->bQ x v->bK xs us->r x xs H Q->
  wpAny (model X.prog X.w) X.A (call (.builtin id) (v::us)) (EP X ae σ Q) X.xe s
section
variable{a b:Expr}{ta:TE}
theorem cE(hr:oR X r)(ha:PE X a ta)(hb:PE X b tb)(hs:a11 b):PE X (.Subscript a b pos) (hJ r ta tb):=by
 intro ae s σ H Q I h;exact Subscript_ (binT ha hb I h λv u s2 x y H2 I2 rx ry q=>hr a b ae s2 σ H2 x y v u Q I2 rx ry q (hs _ _))
inductive a27(K:Fg)(x:V)(y:V)(H:Hp)(Q:VK):Prop
 |mk (p:_) (xs:_) (i:_) (v:_):(x= .ref p)->(y= .int i)->(aU K H p xs)->(fE xs i=some v)->(Q v H)->a27 K x y H Q
noncomputable def uK (K:Fg):R2:=λx y H Q=>a27 K x y H Q
inductive a2I(K:Fg)(x:V)(y:V)(H:Hp)(Q:VK):Prop
 |mk (p:_) (xs:_) (i:_) (v:_):(x= .ref p)->(y= .int i)->(bS K H p xs)->(fE xs i=some v)->(Q v H)->a2I K x y H Q
noncomputable def zV (K:Fg):R2:=λx y H Q=>a2I K x y H Q
inductive a4I(x:V)(y:V)(H:Hp)(Q:VK):Prop
 |mk (z:_) (i:_) (c:_):(x= .str z)->(y= .int i)->(z.length<=sizeLine)->(fE z.cps.toList i=some c)->(Q (.str ⟨#[c]⟩) H)->a4I x y H Q
noncomputable def rIxS:R2:=λx y H Q=>a4I x y H Q
theorem fM:oR X (uK X.K):=by
 intro value slice ae s σ H x y v u Q I rx ry h hs;obtain⟨p,xs,i,z,rfl,rfl,hq,he,q⟩:=h;cases rx;obtain⟨t,rfl⟩:=ry;obtain⟨its,r,pl,hz⟩:=I.list hq;obtain⟨j,h1,h2,h3,h4,h5⟩:=a0u he;obtain⟨w,ew,rw'⟩:=r.get h2;have hl:=r.length;have hn:=pY;have fin:EP X ae σ Q w s:=⟨z,H,I,rw',q⟩;by_cases h0:0<=i
 ·have hj:i.toNat=j:=by
   rw[seqIndex_of h0 h5]at h1;exact Option.some.inj h1
  exact item_listR pl.isList h0 (by omega) (by rw[hj];simpa using ew) fin hs
 ·have hj:(i+ (its.toArray.size:Int)).toNat=j:=by
   rw[seqIndex_neg (by omega) h4]at h1;rw[List.size_toArray,<- hl];exact Option.some.inj h1
  exact subscriptTail_builtinR (x:=w) pl.isList.typeIs slot_list_getitem.lookup
   (wpAny_getItem_list_neg (Q:=λr s'=>r=w/\EP X ae σ Q r s') pl.isList (by omega) (by rw[List.size_toArray]<;>omega) (by omega) (by rw[hj];simpa using ew) ⟨rfl,fin⟩) hs
theorem cV:oR X (zV X.K):=by
 intro value slice ae s σ H x y v u Q I rx ry h hs;obtain⟨p,xs,i,z,rfl,rfl,hq,he,q⟩:=h;cases rx;obtain⟨t,rfl⟩:=ry;obtain⟨its,r,pl,hz⟩:=I.tuple hq;obtain⟨j,h1,h2,h3,h4,h5⟩:=a0u he;obtain⟨w,ew,rw'⟩:=r.get h2;have hl:=r.length;have hn:=pY;have fin:EP X ae σ Q w s:=⟨z,H,I,rw',q⟩;exact subscriptTail_builtinR (x:=w) pl.typeIs slot_tuple_getitem.lookup
  (getItem_tuple (j:=j) (Q:=λr s'=>r=w/\EP X ae σ Q r s') pl (by omega) (by omega) (by rw[List.size_toArray,<- hl];exact h1) (by simpa using ew) ⟨rfl,fin⟩) hs
theorem a80:oR X rIxS:=by
 intro value slice ae s σ H x y v u Q I rx ry h hs;obtain⟨z,i,c,rfl,rfl,hz,he,q⟩:=h;obtain⟨t,rfl⟩:=rx;obtain⟨t',rfl⟩:=ry;obtain⟨j,h1,h2,h3,h4,h5⟩:=a0u he
 have hl:z.cps.toList.length=z.length:=by simp[Str.length]
 rw[hl]at h1 h4 h5;have hn:=pY
 exact tail_any (typeIs_str s z t) slot_str_getitem.lookup (getItem_str (c:=c) (by
  have e1:decide (i< -(2^ 63:Int))=false:=decide_eq_false (by omega);have e2:decide (i>=2^ 63)=false:=decide_eq_false (by omega)
  rw[e1,e2,Bool.or_false]) (by rw[h1];simpa using h2) ⟨.str ⟨#[c]⟩,H,I.tok _,⟨_,rfl⟩,q⟩) hs
theorem a9Q(its:List Value)(n j:Nat)(u:Value):Obj.mapSeq (·.setIfInBounds j u) {cls:=.type "list",data:=.seq its.toArray n}={cls:=.type "list",data:=.seq (its.set j u).toArray n}:=by
 simp[Obj.mapSeq]
theorem aE.lst{s:Shared}(I:aE X ae σ H s)(h:H p=some (.lst xs)):
 ∃(its:List Value) (n:Nat),bK xs its/\s.heap.get? p=some {cls:=.type "list",data:=.seq its.toArray n} /\xs.length<=sizeLine:=by
 obtain⟨z,its,n,r,e⟩:=I.hok p _ h;exact⟨its,n,r,e,z⟩
theorem aE.lstUpd{s:Shared}{its':List Value}{n':Nat}{f:Obj->Obj}(I:aE X ae σ H s)(h:H p=some (.lst xs))
 (ho:s.heap.get? p=some {cls:=.type "list",data:=.seq its.toArray n})(hf:f {cls:=.type "list",data:=.seq its.toArray n}={cls:=.type "list",data:=.seq its'.toArray n'})(r:bK ys its')(hz:ys.length<=sizeLine)(t:Nat):
 aE X ae σ (upd H p (.lst ys)) {s with heap:=s.heap.update p f,toks:=t}:=by
 have e:(s.heap.update p f).get? p=some {cls:=.type "list",data:=.seq its'.toArray n'}:=by
  rw[Heap.get?_update_self f ho (by rw[hf]<;>rfl),hf]
 refine I.write (x:=p) (e:=p) (by rw[h];trivial) (.inl rfl) (λb u hb q=>(Heap.get?_update_other _ _ (Ne.symm hb)).trans q) ⟨_,e⟩ ?_;exact⟨hz,its',n',r,e⟩
inductive a4L(o:V)(i:V)(v:V)(H:Hp)(Q:(Hp->Prop)):Prop
 |mk (p:_) (xs:_) (k:_) (j:_):(o= .ref p)->(i= .int k)->(H p=some (.lst xs))->(lF xs.length k=some j)->(Q (upd H p (.lst (xs.set j v))))->a4L o i v H Q
def a8I:V->V->V->Hp->(Hp->Prop)->Prop:=λo i v H Q=>a4L o i v H Q
theorem a3T:PSet X a8I:=by
 intro ae s σ H o i v ov iv u Q I ro ri rv h;obtain⟨p,xs,k,j,rfl,rfl,hp,hj,q⟩:=h;cases ro;obtain⟨t,rfl⟩:=ri;obtain⟨its,n,r,ho,hz⟩:=I.lst hp;obtain⟨h1,h2,h3,h4⟩:=a07 hj;have hl:=r.length;have hn:=pY;have I':aE X ae σ (upd H p (.lst (xs.set j v))) {s with heap:=s.heap.update p (Obj.mapSeq (·.setIfInBounds j u))}:=
  I.lstUpd hp ho (a9Q its n j u) (r.set rv j) (by rw[List.length_set];exact hz) s.toks
 by_cases h0:0<=k
 ·have hk:k.toNat=j:=by
   rw[seqIndex_of h0 h4]at h1;exact Option.some.inj h1
  exact W.ki_setAt ho h0 (by omega) (by rw[List.size_toArray,<- hl];exact h4) (by rw[hk];exact⟨_,I',q⟩)
 ·have hk:(k+ (its.toArray.size:Int)).toNat=j:=by
   rw[seqIndex_neg (by omega) h3]at h1;rw[List.size_toArray,<- hl];exact Option.some.inj h1
  exact W.ki_setBack ho (by omega) (by rw[List.size_toArray,<- hl];exact h3) (by omega) (by rw[hk];exact⟨_,I',q⟩)
theorem a6l(lo hi:Option Int)(n:Nat):(sliceBounds lo hi none n).1=((HT.sIx n 0 lo:Nat):Int)/\(sliceBounds lo hi none n).2.1=((HT.sIx n n hi:Nat):Int)/\(sliceBounds lo hi none n).2.2=1:=by
 refine⟨?_,?_,rfl⟩
 ·cases lo with
  |none=>simp[sliceBounds,HT.sIx]
  |some i=>
   simp only[sliceBounds,HT.sIx,Option.getD_none,show(1:Int)>0 by decide,if_true];by_cases h:i<0
   ·simp only[h,if_true]<;>omega
   ·simp only[h,if_false]<;>omega
 ·cases hi with
  |none=>simp[sliceBounds,HT.sIx]
  |some i=>
   simp only[sliceBounds,HT.sIx,Option.getD_none,show(1:Int)>0 by decide,if_true];by_cases h:i<0
   ·simp only[h,if_true]<;>omega
   ·simp only[h,if_false]<;>omega
theorem a87(its:List Value)(lo hi:Option Int):slicePick its.toArray lo hi none=((its.drop (HT.sIx its.length 0 lo)).take (HT.sIx its.length its.length hi- HT.sIx its.length 0 lo)).toArray:=by
 obtain⟨h1,h2,h3⟩:=a6l lo hi its.toArray.size;unfold slicePick;rw[h1,h2,h3];simp only[sliceRange_one,pick_run,List.size_toArray]<;>rfl
inductive a3p(K:Fg)(x:V)(lo:Option Int)(hi:Option Int)(H:Hp)(Q:VK):Prop
 |mk (a:_) (xs:_):(x= .ref a)->(aU K H a xs)->(∀p,H p=none->Q (.ref p) (upd H p (.lst (uX xs lo hi))))->a3p K x lo hi H Q
def rSlL(K:Fg):V->Option Int->Option Int->Hp->VK->Prop:=λx lo hi H Q=>a3p K x lo hi H Q
theorem sl_list:uD X (rSlL X.K):=by
 intro ae s σ H x v vl vu lo hi sl Q I rx hs pl pu h;obtain⟨a,xs,rfl,hx,q⟩:=h;cases rx;obtain⟨its,r,ht,hz⟩:=I.list hx;have hlen:=r.length;refine⟨"list",_,slot_list_getitem.lookup,ht.isList.typeIs,?_⟩;refine wpAny_getItem_list_slice ht.isList hs pl pu .none (by simp) ?_ (by rw[List.size_toArray]<;>omega);rw[a87,<- hlen];refine⟨.ref s.heap.objs.size,_,I.laid (t':=s.toks) (o:=.lst (uX xs lo hi)) (λb ob q=>Heap.get?_push_of_some _ q) (Nat.le_refl _) ?_,rfl,q _ (I.hok.fresh (Nat.le_refl _))⟩;exact⟨Nat.le_trans (a5L xs lo hi) hz,_,0,(r.drop (HT.sIx xs.length 0 lo)).take (HT.sIx xs.length xs.length hi- HT.sIx xs.length 0 lo),Heap.get?_push_size _ rfl⟩
def mD:V->Bool
 | .non=>true
 | .bl _=>true
 | .int _=>true
 | .str _=>true
 |_=>false
def jT:V->V->Bool
 | .non,.non=>true
 | .bl a,.bl b=>a==b
 | .bl a,.int b=>(if a then 1 else 0)==b
 | .int a,.bl b=>a==(if b then 1 else 0)
 | .int a,.int b=>a==b
 | .str a,.str b=>a==b
 |_,_=>false
theorem a7m{s:Shared}{x:V}{v:Value}(ry:bQ y u)(rx:bQ x v)(fy:mD y=true)(fx:mD x=true):SeqAt.EqAt A s u v (jT y x):=by
 cases y with
 |non=>
  cases ry
  cases x with
  |non=>cases rx;exact SeqAt.EqAt.same _
  |bl b=>cases rx;exact SeqAt.EqAt.none_bool b
  |int b=>obtain⟨t,rfl⟩:=rx;exact SeqAt.EqAt.none_int b t
  |str b=>obtain⟨t,rfl⟩:=rx;exact SeqAt.EqAt.none_str b t
  |_=>exact absurd (show false=true from fx) Bool.false_ne_true
 |bl a=>
  cases ry
  cases x with
  |non=>cases rx;exact SeqAt.EqAt.bool_none a
  |bl b=>cases rx;exact SeqAt.EqAt.bool_bool a b
  |int b=>obtain⟨t,rfl⟩:=rx;exact SeqAt.EqAt.bool_int a b t
  |str b=>obtain⟨t,rfl⟩:=rx;exact SeqAt.EqAt.bool_str a b t
  |_=>exact absurd (show false=true from fx) Bool.false_ne_true
 |int a=>
  obtain⟨t',rfl⟩:=ry
  cases x with
  |non=>cases rx;exact SeqAt.EqAt.int_none a t'
  |bl b=>cases rx;exact SeqAt.EqAt.int_bool a t' b
  |int b=>obtain⟨t,rfl⟩:=rx;exact SeqAt.EqAt.int_int a t' b t
  |str b=>obtain⟨t,rfl⟩:=rx;exact SeqAt.EqAt.int_str a t' b t
  |_=>exact absurd (show false=true from fx) Bool.false_ne_true
 |str a=>
  obtain⟨t',rfl⟩:=ry
  cases x with
  |non=>cases rx;exact SeqAt.EqAt.str_none a t'
  |bl b=>cases rx;exact SeqAt.EqAt.str_bool a t' b
  |int b=>obtain⟨t,rfl⟩:=rx;exact SeqAt.EqAt.str_int a t' b t
  |str b=>obtain⟨t,rfl⟩:=rx;exact SeqAt.EqAt.str_str a t' b t
  |_=>exact absurd (show false=true from fx) Bool.false_ne_true
 |_=>exact absurd (show false=true from fy) Bool.false_ne_true
noncomputable def iE (x:V) (u:Value):Bool:=match u with
 | .none=>jT .non x
 | .bool b=>jT (.bl b) x
 | .int i _=>jT (.int i) x
 | .str z _=>jT (.str z) x
 |_=>false
theorem a3b{x:V}(r:bQ y u)(f:mD y=true):iE x u=jT y x:=by
 cases y with
 |non=>cases r;rfl
 |bl b=>cases r;rfl
 |int i=>obtain⟨t,rfl⟩:=r;rfl
 |str z=>obtain⟨t,rfl⟩:=r;rfl
 |_=>exact absurd (show false=true from f) Bool.false_ne_true
theorem sJ{x:V}:∀{xs:List V} {us:List Value},bK xs us->xs.all mD=true->us.any (iE x)=xs.any λy=>jT y x
 |_,_,.nil,_=>rfl
 |y::xs,u::us,.cons r t,f=>by
  rw[List.all_cons,Bool.and_eq_true]at f;rw[List.any_cons,List.any_cons,a3b r f.1,sJ t f.2]
theorem uM{A:Around}{s:Shared}{x:V}{v:Value}(rx:bQ x v)(fx:mD x=true):∀{xs:List V} {us:List Value},bK xs us->xs.all mD=true->∀u∈us,SeqAt.EqAt A s u v (iE x u)
 |_,_,.nil,_=>λu hu=>by cases hu
 |y::xs,u::us,.cons r t,f=>λu' hu=>by
  rw[List.all_cons,Bool.and_eq_true]at f
  rcases List.mem_cons.mp hu with rfl|hu
  ·rw[a3b r f.1];exact a7m r rx f.1 fx
  ·exact uM rx fx t f.2 u' hu
def eJ(x:V)(xs:List V):Bool:=xs.any λy=>jT y x
inductive a4D(K:Fg)(neg:Bool)(x:V)(y:V)(H:Hp)(Q:VK):Prop
 |mk (p:_) (xs:_):(y= .ref p)->((aU K H p xs\/ bS K H p xs))->(mD x=true)->(xs.all mD=true)->(Q (.bl (if neg then !eJ x xs else eJ x xs)) H)->a4D K neg x y H Q
noncomputable def rIn (K:Fg) (neg:Bool):R2:=λx y H Q=>a4D K neg x y H Q
theorem wT:dR X (compareOp .In) (rIn X.K false):=by
 intro ae s σ H x y v u Q I rx ry h;obtain⟨p,xs,rfl,hq,fx,fs,q⟩:=h;cases ry
 rcases hq with hq|hq
 ·obtain⟨its,r,pl,hz⟩:=I.list hq
  refine SeqAt.in_listAt (iE x) pl.isList (λw hw=>uM rx fx r fs w (by simpa using hw)) ⟨.bl _,H,I,rfl,?_⟩;rw[show its.toArray.any (iE x)=its.any (iE x)by simp,sJ r fs];exact q
 ·obtain⟨its,r,pl,hz⟩:=I.tuple hq
  refine SeqAt.in_tupleAt (iE x) pl (λw hw=>uM rx fx r fs w (by simpa using hw)) ⟨.bl _,H,I,rfl,?_⟩;rw[show its.toArray.any (iE x)=its.any (iE x)by simp,sJ r fs];exact q
theorem qA:dR X (compareOp .NotIn) (rIn X.K true):=by
 intro ae s σ H x y v u Q I rx ry h;obtain⟨p,xs,rfl,hq,fx,fs,q⟩:=h;cases ry
 rcases hq with hq|hq
 ·obtain⟨its,r,pl,hz⟩:=I.list hq
  refine SeqAt.notIn_listAt (iE x) pl.isList (λw hw=>uM rx fx r fs w (by simpa using hw)) ⟨.bl _,H,I,rfl,?_⟩;rw[show its.toArray.any (iE x)=its.any (iE x)by simp,sJ r fs];exact q
 ·obtain⟨its,r,pl,hz⟩:=I.tuple hq
  refine SeqAt.notIn_tupleAt (iE x) pl (λw hw=>uM rx fx r fs w (by simpa using hw)) ⟨.bl _,H,I,rfl,?_⟩;rw[show its.toArray.any (iE x)=its.any (iE x)by simp,sJ r fs];exact q
theorem vA:iC X (.type "list") (λxs H Q=>∃p ys,xs= [.ref p] /\(aU X.K H p ys\/ bS X.K H p ys)/\∀l,H l=none->Q (.ref l) (upd H l (.lst ys))):=by
 intro ae s σ H xs us Q I r h;obtain⟨p,ys,rfl,hq,q⟩:=h;obtain⟨u,rfl,rx⟩:=lN r;cases rx;have fin:∀(its:List Value),bK ys its->ys.length<=sizeLine->∀(h':Heap) (c':Nat),(∀b o',s.heap.get? b=some o'->h'.get? b=some o')->
  h'.get? s.heap.objs.size=some {cls:=.type "list",dict:=none,data:=.seq its.toArray c',slots:= #[]} ->EP X ae σ Q (.ref s.heap.objs.size) {s with heap:=h'}:=λits r' hz h' c' kp e=>
  ⟨.ref s.heap.objs.size,_,I.laid (t':=s.toks) kp (Nat.le_refl _) (show cX X.prog X.w _ h' _ (.lst ys) from⟨hz,its,c',r',e⟩),rfl,q _ (I.hok.fresh (Nat.le_refl _))⟩
 rcases hq with hq|hq
 ·obtain⟨its,r',pl,hz⟩:=I.list hq
  have hlen:=r'.length;obtain⟨o,ho,hc,n,hd⟩:=pl.isList;exact call_list_seq p (.inl rfl) ho hc hd (λh' c' kp e=>fin its r' hz h' c' kp e) (by simp only[List.size_toArray]<;>omega)
 ·obtain⟨its,r',pl,hz⟩:=I.tuple hq
  have hlen:=r'.length;obtain⟨o,ho,hc,n,hd⟩:=pl;exact call_list_seq p (.inr rfl) ho hc hd (λh' c' kp e=>fin its r' hz h' c' kp e) (by simp only[List.size_toArray]<;>omega)
theorem a8K:iC X (.type "tuple") (λxs H Q=>∃p ys,xs= [.ref p] /\((aU X.K H p ys/\∀l,H l=none->Q (.ref l) (upd H l (.tup ys)))\/ (bS X.K H p ys/\Q (.ref p) H))):=by
 intro ae s σ H xs us Q I r h;obtain⟨p,ys,rfl,h⟩:=h;obtain⟨u,rfl,rx⟩:=lN r;cases rx
 rcases h with⟨hq,q⟩|⟨hq,q⟩
 ·obtain⟨its,r',pl,hz⟩:=I.list hq
  have hlen:=r'.length;refine call_tuple_list pl.isList (λh' kp=> ?_) (by simp only[List.size_toArray]<;>omega);have I1:aE X ae σ H {s with heap:=h'}:=I.kept (t':=s.toks) kp;have I2:aE X ae σ (upd H h'.objs.size (.tup ys)) {s with heap:=h'.push {cls:=.type "tuple",data:=.seq its.toArray}}:=
   I1.laid (t':=s.toks) (λb o e=>Heap.get?_push_of_some _ e) (Nat.le_refl _) (show cX X.prog X.w _ _ _ (.tup ys) from⟨hz,its,r',IsTup.new _ _⟩)
  exact⟨.ref h'.objs.size,_,I2,rfl,q _ (I1.hok.fresh (Nat.le_refl _))⟩
 ·obtain⟨its,r',pl,hz⟩:=I.tuple hq
  exact call_tuple_same pl ⟨.ref p,H,I,rfl,q⟩
def zR(K:Fg)(T:String)(x:V)(H:Hp):Prop:=match x with
 | .str _=>T= "str"
 | .int _=>T= "int"
 | .ref p=>(T= "list" /\∃xs,aU K H p xs)\/ (T= "tuple" /\∃o,K.lookup p=some o/\o.cls= .type "tuple" /\o.dict=none)\/
  (T= "dict" /\((∃kvs,H p=some (.dK kvs))\/ ∃kvs,H p=some (.dT kvs)))\/ (T= "set" /\∃S n,H p=some (.set S n))
 |_=>False
theorem a2t{s:Shared}{T:String}{x:V}{v:Value}(I:aE X ae σ H s)(r:bQ x v)(ty:zR X.K T x H):
 s.TypeIs v T/\∀a,v= .ref a->∃ob,s.heap.get? a=some ob/\ob.dict=none:=by
 cases x with
 |str z=>
  obtain⟨t,rfl⟩:=r;cases (show T= "str" from ty);exact⟨typeIs_str s z t,λ_ e=>nomatch e⟩
 |int i=>
  obtain⟨t,rfl⟩:=r;cases (show T= "int" from ty);exact⟨typeIs_int s i t,λ_ e=>nomatch e⟩
 |ref p=>
  cases r
  rcases ty with⟨rfl,xs,hq⟩|⟨rfl,o,hk,hc,hd⟩|⟨rfl,hk⟩|⟨rfl,S,n,hk⟩
  ·obtain⟨its,_,pl,_⟩:=I.list hq
   refine⟨pl.isList.typeIs,λa e=> ?_⟩;cases e;obtain⟨o,n,e,c,hd,_⟩:=pl;exact⟨o,e,hd⟩
  ·refine⟨⟨o,I.kIn p o hk,hc⟩,λa e=> ?_⟩
   cases e;exact⟨o,I.kIn _ o hk,hd⟩
  ·have z:∃o,s.heap.get? p=some o/\o.ExactDict:=by
    rcases hk with⟨kvs,hk⟩|⟨kvs,hk⟩
    ·obtain⟨_,_,_,_,o,_,_,e,ex,_⟩:=I.hok p _ hk
     exact⟨o,e,ex⟩
    ·obtain⟨_,_,_,_,o,_,_,e,ex,_⟩:=I.hok p _ hk
     exact⟨o,e,ex⟩
   obtain⟨o,e,ex⟩:=z;refine⟨⟨o,e,ex.1⟩,λa e2=> ?_⟩;cases e2;exact⟨o,e,ex.2.1⟩
  ·obtain⟨o,_,_,_,e,ex,_⟩:=I.hok p _ hk
   refine⟨⟨o,e,ex.1⟩,λa e2=> ?_⟩;cases e2;exact⟨o,e,ex.2.1⟩
 |_=>exact False.elim ty
inductive a5b(K:Fg)(T:String)(r:V->List V->Hp->VK->Prop)(Q:VK)(x:V)(H1:Hp):Prop
 |mk:(zR K T x H1)->(r x [] H1 Q)->a5b K T r Q x H1
def tBM0(K:Fg)(T:String)(r:V->List V->Hp->VK->Prop)(to:TE):TE:=λσ H Q=>to σ H (a5b K T r Q)
inductive a2P(K:Fg)(T:String)(r:V->List V->Hp->VK->Prop)(t:TA)(σ:St)(Q:VK)(x:V)(H1:Hp):Prop
 |mk:(zR K T x H1)->(t σ H1 λxs H2=>r x xs H2 Q)->a2P K T r t σ Q x H1
def yO(K:Fg)(T:String)(r:V->List V->Hp->VK->Prop)(to:TE)(t:TA):TE:=λσ H Q=>to σ H (a2P K T r t σ Q)
variable{o:Expr}{to:TE}{t:TA}{name:Str}{cpos:Pos}{T id:String}{r:V->List V->Hp->VK->Prop}
theorem a7A(pa:PlainAttrs T)(slot:Slot T name id)(hty:typeOf (.builtin id)=pure (.type "method_descriptor"))(hm:MtR X id r)(ho:PE X o to)
 (hbase:attributeBase o name X.env (eval o X.env)=eval o X.env:=by rfl)(hline:(apos.endLine==cpos.line)=true:=by rfl):PE X (.Call (.Attribute o name apos) [] [] cpos) (tBM0 X.K T r to):=by
 intro ae s σ H Q I h;refine wpAny_Call_method0_late hbase hline (aV (ho ae s σ H _ I h) ?_);rintro v s1 ⟨x,H1,I1,r1,ty,q1⟩;obtain⟨h1,h2⟩:=a2t I1 r1 ty;exact⟨T,id,pa,slot,hty,h1,h2,Calls.callWith_builtin rfl (PySem.evalArgs_none (hm ae s1 σ H1 x [] v [] Q I1 r1 .nil q1))⟩
theorem jS(pa:PlainAttrs T)(slot:Slot T name id)(hty:typeOf (.builtin id)=pure (.type "method_descriptor"))(hm:MtR X id r)(ho:PE X o to)(ha:PA X (e::es) t)
 (hbase:attributeBase o name X.env (eval o X.env)=eval o X.env:=by rfl)
 (hfew:((backTo cpos (starEach (e::es) X.env)).all (λx=> !x.1)&&(backToKw cpos (keywordEach [] X.env)).all (λx=>x.1.isSome)
  &&decide ((e::es).length+ ([]:List Keyword).length+ (if([]:List Keyword).isEmpty then 0 else 1)<30))=true:=by rfl)
 (hline:(apos.endLine==cpos.line)=true:=by rfl)(hs:starEach (e::es) X.env=(false,eval e X.env)::starEach es X.env:=by rfl)(hplain:(backTo cpos (starEach es X.env)).any (·.1)=false:=by rfl):
 PE X (.Call (.Attribute o name apos) (e::es) [] cpos) (yO X.K T r to t):=by
 intro ae s σ H Q I h;refine wpAny_Call_method_late hbase hfew hline rfl (aV (ho ae s σ H _ I h) ?_);rintro v s1 ⟨x,H1,I1,r1,ty,q1⟩;obtain⟨h1,h2⟩:=a2t I1 r1 ty;refine⟨T,id,pa,slot,hty,h1,h2,?_⟩;have hA:=ha cpos ae s1 σ H1 _ I1 q1
 rw[hs]at hA|-
 refine Calls.callWith_builtin (by show(false||(backTo cpos (starEach es X.env)).any (·.1))=false;rw[hplain]<;>rfl) (Calls.evalArgs_plain ?_);exact aV hA λus s2 ⟨vs,H2,I2,r2,q2⟩=>hm ae s2 σ H2 x vs v us Q I2 r1 r2 q2
end
def MtM(X:Cx)(id:String)(r:V->List V->Hp->VK->Prop):Prop:=
 ∀(ae:List (Addr×Obj)) (s:Shared) (σ:St) (H:Hp) (x:V) (xs:List V) (v:Value) (us:List Value) (Q:VK),aE X ae σ H s->bQ x v->bK xs us->r x xs H Q->
  wpAny (model X.prog X.w) X.A (call (.builtin id) (v::us)) (EP X ae σ Q) X.xe s
theorem bK.one:∀{x:V} {us:List Value},bK [x] us->∃u,us= [u] /\bQ x u
 |_,_,.cons r .nil=>⟨_,rfl,r⟩
theorem bK.two{x:V}(h:bK [x,y] us):∃u v,us= [u,v] /\bQ x u/\bQ y v:=by
 cases h with
 |cons r h=>cases h with
  |cons q h=>cases h with
   |nil=>exact⟨_,_,rfl,r,q⟩
theorem bK.zero:∀{us:List Value},bK [] us->us= []
 |_,.nil=>rfl
theorem bK.dropLast(h:bK xs us):bK xs.dropLast us.dropLast:=by
 induction h with
 |nil=>exact .nil
 |cons r t ih=>
  cases t with
  |nil=>exact .nil
  |cons q t'=>exact .cons r ih
theorem bK.rep{xs:List V}{us:List Value}(h:bK xs us):∀k:Nat,bK (List.replicate k xs).flatten (List.replicate k us).flatten
 |0=> .nil
 |k+ 1=>by
  rw[List.replicate_succ,List.replicate_succ,List.flatten_cons,List.flatten_cons];exact bK.append h (bK.rep h k)
theorem a8v{α:Type}(l:List α):l.eraseIdx (l.length- 1)=l.dropLast:=by
 induction l with
 |nil=>rfl
 |cons a r ih=>
  cases r with
  |nil=>rfl
  |cons b r=>
   have e:(a::b::r).length- 1=((b::r).length- 1)+ 1:=by
    have h1:(a::b::r).length=r.length+ 2:=rfl;have h2:(b::r).length=r.length+ 1:=rfl;omega
   rw[e,List.eraseIdx_cons_succ,ih]
   all_goals rfl
theorem a5d(its:List Value):∀(k:Nat) (acc:List Value),
 List.foldl (λx1 x2=>x1++ x2) acc.toArray (List.replicate k its.toArray)=(acc++ (List.replicate k its).flatten).toArray
 |0,acc=>by simp
 |k+ 1,acc=>by
  have e:acc.toArray++ its.toArray=(acc++ its).toArray:=by simp
  have e2:(acc++ its)++ (List.replicate k its).flatten=acc++ (List.replicate (k+ 1) its).flatten:=by
   rw[List.replicate_succ,List.flatten_cons,List.append_assoc]
  rw[<- e2,<- a5d its k (acc++ its),<- e,List.replicate_succ,List.foldl_cons]
section
variable{s:Shared}{l:Addr}{zs:List V}
theorem aE.lset{its':List Value}{f:Array Value->Array Value}{t':Nat}(I:aE X ae σ H s)(hH:H l=some (.lst xs))
 (e:s.heap.get? l=some {cls:=.type "list",data:=.seq its.toArray n})(hf:f its.toArray=its'.toArray)(hv:bK ys its')(hz:ys.length<=sizeLine):
 aE X ae σ (upd H l (.lst ys)) {s with heap:=s.heap.update l (Obj.mapSeq f),toks:=t'}:=by
 have q:=PySem.IsL.update e f;rw[hf]at q;refine I.write (x:=l) (e:=l) (by rw[hH];exact trivial) (.inl rfl) (λb' u hb hu=>(Heap.get?_update_other s.heap (Obj.mapSeq f) (Ne.symm hb)).trans hu) ⟨_,q⟩ ?_;exact⟨hz,its',_,hv,q⟩
theorem aE.lnew{t':Nat}(I:aE X ae σ H s)(hv:bK ys its)(hz:ys.length<=sizeLine):
 aE X ae σ (upd H s.heap.objs.size (.lst ys)) {s with heap:=s.heap.push {cls:=.type "list",data:=.seq its.toArray},toks:=t'}:=
 I.laid (λ_ _ q=>Heap.get?_push_of_some _ q) (Nat.le_refl _) ⟨hz,its,0,hv,Heap.get?_push_size _ rfl⟩
theorem aE.fresh(I:aE X ae σ H s):H s.heap.objs.size=none:=I.hok.fresh (Nat.le_refl _)
theorem aE.lstM(I:aE X ae σ H s)(hH:H l=some (.lst xs)):xs.length<=sizeLine/\∃(its:List Value) (n:Nat),bK xs its/\xs.length=its.length/\s.heap.get? l=some {cls:=.type "list",data:=.seq its.toArray n}:=by
 obtain⟨z,its,n,r,e⟩:=I.hok l _ hH;exact⟨z,its,n,r,r.length,e⟩
theorem a1P(h:n<=sizeLine):Builtin.List.listTooLong n=false:=by
 unfold Builtin.List.listTooLong;exact decide_eq_false (by omega)
end
section
inductive a2v(x:V)(vs:List V)(H:Hp)(Q:VK):Prop
 |mk (l:_) (xs:_) (y:_):(x= .ref l)->(vs= [y])->(H l=some (.lst xs))->(xs.length<sizeLine)->(Q .non (upd H l (.lst (xs++ [y]))))->a2v x vs H Q
def a0h:V->List V->Hp->VK->Prop:=λx vs H Q=>a2v x vs H Q
theorem jJ:MtM X "list.append" a0h:=by
 intro ae s σ H x vs v us Q I rx rv h;obtain⟨l,xs,y,rfl,rfl,hH,hz,q⟩:=h;cases rx;obtain⟨u,rfl,ru⟩:=rv.one;obtain⟨z,its,n,r,hl,e⟩:=I.lstM hH;refine call_meets F.slot_list_append ⟨_,e,rfl⟩ F.entry_list_append (F.args_list_append_2 _ _) (PySem.list_append l its.toArray n u (by rw[List.size_toArray];omega)) ⟨e,?_⟩;refine⟨.non,_,I.lset (its':=its++ [u]) hH e (by simp) (r.append (.cons ru .nil)) ?_,rfl,q⟩;rw[List.length_append,List.length_singleton];omega
inductive a17(x:V)(vs:List V)(H:Hp)(Q:VK):Prop
 |mk (l:_) (b:_) (xs:_) (zs:_):(x= .ref l)->(vs= [.ref b])->(H l=some (.lst xs))->(H b=some (.lst zs))->(xs.length+ zs.length<=sizeLine)->(Q .non (upd H l (.lst (xs++ zs))))->a17 x vs H Q
def a6J:V->List V->Hp->VK->Prop:=λx vs H Q=>a17 x vs H Q
theorem mt_extend:MtM X "list.extend" a6J:=by
 intro ae s σ H x vs v us Q I rx rv h;obtain⟨l,b,xs,zs,rfl,rfl,hH,hB,hz,q⟩:=h;cases rx;obtain⟨u,rfl,ru⟩:=rv.one;cases ru;obtain⟨z,its,n,r,hl,e⟩:=I.lstM hH;obtain⟨z2,its2,n2,r2,hl2,e2⟩:=I.lstM hB
 have hsz:its.toArray.size+ its2.toArray.size<=sizeLine:=by rw[List.size_toArray,List.size_toArray];omega
 have hlong:¬(!its.toArray.isEmpty&&Builtin.List.listTooLong (its.toArray.size+ its2.toArray.size))=true:=by
  rw[a1P hsz,Bool.and_false];exact Bool.false_ne_true
 refine call_meets F.slot_list_extend ⟨_,e,rfl⟩ F.entry_list_extend (F.args_list_extend_2 _ _)
  (AutoSeq1.list_extend_list_list_0 l its.toArray n b its2.toArray n2 hlong (by rw[List.size_toArray];omega) (by omega)) ⟨e,e2,?_⟩
 refine⟨.non,_,I.lset (its':=its++ its2) hH e (by simp) (r.append r2) ?_,rfl,q⟩;rw[List.length_append];omega
inductive a3g(x:V)(vs:List V)(H:Hp)(Q:VK):Prop
 |mk (l:_) (xs:_) (y:_):(x= .ref l)->(vs= [])->(H l=some (.lst xs))->(xs[xs.length- 1]?=some y)->(Q y (upd H l (.lst xs.dropLast)))->a3g x vs H Q
def rPop:V->List V->Hp->VK->Prop:=λx vs H Q=>a3g x vs H Q
theorem a7O:MtM X "list.pop" rPop:=by
 intro ae s σ H x vs v us Q I rx rv h;obtain⟨l,xs,y,rfl,rfl,hH,hy,q⟩:=h;cases rx;have hus:=rv.zero;subst hus;obtain⟨z,its,n,r,hl,e⟩:=I.lstM hH;obtain⟨u,hu,ru⟩:=r.get hy
 have hy':its.toArray[its.toArray.size- 1]?=some u:=by
  show its.toArray[its.length- 1]?=some u;rw[<- Array.getElem?_toList,<- hl];exact hu
 refine call_meets F.slot_list_pop ⟨_,e,rfl⟩ F.entry_list_pop (F.args_list_pop_1 _) (MeetsSeq.list_pop_last l its.toArray n u hy' (by rw[List.size_toArray];omega)) ⟨e,?_⟩;refine⟨y,_,I.lset (its':=its.dropLast) hH e ?_ r.dropLast ?_,ru,q⟩
 ·show its.toArray.eraseIdxIfInBounds (its.toArray.size- 1)=its.dropLast.toArray
  rw[List.size_toArray,List.eraseIdxIfInBounds_toArray,a8v]
 ·rw[List.length_dropLast]
  omega
inductive a1n(x:V)(y:V)(H:Hp)(Q:VK):Prop
 |mk (l:_) (b:_) (xs:_) (zs:_):(x= .ref l)->(y= .ref b)->(H l=some (.lst xs))->(H b=some (.lst zs))->(xs.length+ zs.length<=sizeLine)->(∀p,H p=none->Q (.ref p) (upd H p (.lst (xs++ zs))))->a1n x y H Q
noncomputable def uF:R2:=λx y H Q=>a1n x y H Q
theorem eR:dR X (binaryOp .Add) uF:=by
 intro ae s σ H x y v u Q I rx ry h;obtain⟨l,b,xs,zs,rfl,rfl,hH,hB,hz,q⟩:=h;cases rx;cases ry;obtain⟨z,its,n,r,hl,e⟩:=I.lstM hH;obtain⟨z2,its2,n2,r2,hl2,e2⟩:=I.lstM hB;refine PySem.P.add_list e e2 ?_ (by rw[List.size_toArray,List.size_toArray];omega)
 have ea:its.toArray++ its2.toArray=(its++ its2).toArray:=by simp
 rw[ea];exact⟨.ref _,_,I.lnew (t':=s.toks) (r.append r2) (by rw[List.length_append];omega),rfl,q _ I.fresh⟩
inductive a2x(x:V)(y:V)(H:Hp)(Q:VK):Prop
 |mk (l:_) (k:_) (xs:_):(x= .ref l)->(y= .int k)->(H l=some (.lst xs))->(-(2^ 63)<=k)->(k<2^ 63)->(xs.length* k.toNat<=sizeLine)->(∀p,H p=none->Q (.ref p) (upd H p (.lst (List.replicate k.toNat xs).flatten)))->a2x x y H Q
noncomputable def rRep:R2:=λx y H Q=>a2x x y H Q
theorem a6x{α:Type}(xs:List α)(k:Nat):(List.replicate k xs).flatten.length=k* xs.length:=by
 induction k with
 |zero=>simp
 |succ k ih=>rw[List.replicate_succ,List.flatten_cons,List.length_append,ih,Nat.succ_mul,Nat.add_comm]
theorem rO:dR X (binaryOp .Mult) rRep:=by
 intro ae s σ H x y v u Q I rx ry h;obtain⟨l,k,xs,rfl,rfl,hH,h1,h2,hz,q⟩:=h;cases rx;obtain⟨t,rfl⟩:=ry;obtain⟨z,its,n,r,hl,e⟩:=I.lstM hH
 have hlen:its.toArray.size* k.toNat<=sizeLine:=by rw[List.size_toArray,<- hl];exact hz
 have hcap:¬its.toArray.size* k.toNat>(2^ 63- 1)/ 8:=by
  have:(sizeLine:Nat)<=(2^ 63- 1)/ 8:=by decide
  omega
 have hfit:¬(!Builtin.List.listFitsIndex k)=true:=by
  rw[fitsIndex_both h1 h2];exact Bool.false_ne_true
 have hlong:¬Builtin.List.listTooLong (its.toArray.size* k.toNat)=true:=by
  rw[a1P hlen];exact Bool.false_ne_true
 have hnew:List.foldl (λx1 x2=>x1++ x2) #[] (List.replicate (if its.toArray.isEmpty=true then 0 else k.toNat) its.toArray)=(List.replicate k.toNat its).flatten.toArray:=by
  have f0:∀m:Nat,List.foldl (λx1 x2=>x1++ x2) #[] (List.replicate m its.toArray)=(List.replicate m its).flatten.toArray:=λm=>by
   have:=a5d its m [];rw[List.nil_append]at this;exact this
  rw[f0]
  cases its with
  |nil=>simp
  |cons a r'=>rw[if_neg (by simp)]
 refine wpAny_binaryOp_repeat_ref (T:= "list") (U:= "int") (by decide) ⟨_,e,rfl⟩ (λs'=>typeIs_int s' k t) noFill_list_mul F.fills_int_mul F.slot_int_rmul repeat_list F.slot_int_index.lookup
  (call_meets F.slot_int_rmul (typeIs_int s k t) F.entry_int_rmul (F.args_int_rmul_2 _ _) (int___rmul___int_list k t l its.toArray n)
   ⟨e,rfl,⟨_,e,rfl⟩,call_meets F.slot_list_mul ⟨_,e,rfl⟩ F.entry_list_mul (F.args_list_mul_2 _ _) (AutoListH.list___mul___list_int_3 l its.toArray n k t hfit hcap hlong) ⟨e,?_⟩⟩)
 rw[hnew];exact⟨.ref _,_,I.lnew (t':=s.toks) (r.rep k.toNat) (by rw[a6x,Nat.mul_comm];exact hz),rfl,q _ I.fresh⟩
end
section
variable{κ:Type} [DecidableEq κ]
def bC(kvs:List (κ×V))(k:κ):Option V:=(kvs.find? λkv=>decide (kv.1=k)).map (·.2)
def bH(kvs:List (κ×V))(k:κ)(v:V):List (κ×V):=
 if(kvs.any λkv=>decide (kv.1=k))=true then kvs.map (λkv=>if kv.1=k then(kv.1,v) else kv) else kvs++ [(k,v)]
theorem iX{p:κ×V}{r:List (κ×V)}{k:κ}(e:p.1=k):bC (p::r) k=some p.2:=by simp[bC,List.find?_cons,e]
theorem jI{p:κ×V}{r:List (κ×V)}{k:κ}(e:¬p.1=k):bC (p::r) k=bC r k:=by simp[bC,List.find?_cons,e]
theorem oC(k:κ):∀kvs:List (κ×V),(kvs.any λkv=>decide (kv.1=k))=(bC kvs k).isSome
 | []=>rfl
 |p::r=>by
  rw[List.any_cons];by_cases e:p.1=k
  ·simp only[iX e,decide_eq_true e,Bool.true_or,Option.isSome_some]
  ·rw[jI e,decide_eq_false e,Bool.false_or];exact oC k r
theorem a1d(k j:κ)(y:V):∀kvs:List (κ×V),bC (kvs.map λkv=>if kv.1=k then(kv.1,y) else kv) j=(bC kvs j).map λx=>if j=k then y else x
 | []=>rfl
 |p::r=>by
  have ih:=a1d k j y r;rw[List.map_cons];by_cases h:p.1=k
  ·rw[if_pos h]
   by_cases e:p.1=j
   ·rw[iX (p:=(p.1,y)) e,iX e,Option.map_some,if_pos (e.symm.trans h)]
   ·rw[jI (p:=(p.1,y)) e,jI e,ih]
  ·rw[if_neg h]
   by_cases e:p.1=j
   ·rw[iX (p:=p) e,iX e,Option.map_some,if_neg (λz=>h (e.trans z))]
   ·rw[jI (p:=p) e,jI e,ih]
theorem a1H(k j:κ)(y:V):∀kvs:List (κ×V),bC kvs k=none->bC (kvs++ [(k,y)]) j=if j=k then some y else bC kvs j
 | [],_=>by
  by_cases e:k=j
  ·rw[if_pos e.symm];exact iX (p:=(k,y)) e
  ·rw[if_neg (λz=>e z.symm)];exact jI (p:=(k,y)) e
 |p::r,hn=>by
  rw[List.cons_append];have hk:¬p.1=k:=λz=>by rw[iX z]at hn;cases hn
  rw[jI hk]at hn;have ih:=a1H k j y r hn;by_cases e:p.1=j
  ·rw[iX e,iX e,if_neg (λz=>hk (e.trans z))]
  ·rw[jI e,jI e,ih]
theorem yF(kvs:List (κ×V))(k j:κ)(y:V):bC (bH kvs k y) j=if j=k then some y else bC kvs j:=by
 unfold bH;by_cases a:(kvs.any λkv=>decide (kv.1=k))=true
 ·rw[if_pos a,a1d]
  rw[oC]at a;by_cases e:j=k
  ·obtain⟨x,hx⟩:=Option.isSome_iff_exists.mp a
   rw[if_pos e,e,hx,Option.map_some,if_pos rfl]
  ·rw[if_neg e]
   cases bC kvs j with
   |none=>rfl
   |some x=>rw[Option.map_some,if_neg e]
 ·rw[if_neg a]
  refine a1H k j y kvs ?_;rw[oC]at a
  cases q:bC kvs k with
  |none=>rfl
  |some x=>rw[q]at a;exact(a rfl).elim
theorem tJ(kvs:List (κ×V))(k:κ)(v:V):(bH kvs k v).length<=kvs.length+ 1:=by
 unfold bH;split
 ·rw[List.length_map];omega
 ·rw[List.length_append,List.length_cons,List.length_nil];omega
theorem qU{kvs:List (κ×V)}{k:κ}(v:V)(h:bC kvs k=none):bH kvs k v=kvs++ [(k,v)]:=by
 unfold bH;rw[oC,h];exact if_neg (by decide)
theorem gK.isSome_eq{o:Option V}{u:Option Value}(r:gK o u):o.isSome=u.isSome:=by
 cases o with
 |none=>cases u with
  |none=>rfl
  |some _=>exact(show False from r).elim
 |some _=>cases u with
  |none=>exact(show False from r).elim
  |some _=>rfl
theorem gK.getD{o:Option V}{u:Option Value}{d:V}{d':Value}(r:gK o u)(rd:bQ d d'):bQ (o.getD d) (u.getD d'):=by
 cases o with
 |none=>cases u with
  |none=>exact rd
  |some _=>exact(show False from r).elim
 |some _=>cases u with
  |none=>exact(show False from r).elim
  |some _=>exact r
theorem KV.val{kvs:List (κ×V)}{vs:List (κ×Value)}(r:KV kvs vs)(k:κ):gK (bC kvs k) (valueAt vs k):=by
 unfold KV at r
 induction r with
 |nil=>exact True.intro
 | @cons p q ps qs h t ih=>
  obtain⟨h1,h2⟩:=h;by_cases e:p.1=k
  ·have e':q.1=k:=h1.symm.trans e
   have b:valueAt (q::qs) k=some q.2:=by simp[valueAt,List.find?_cons,e']
   rw[iX e,b];exact h2
  ·have e':¬q.1=k:=λz=>e (h1.trans z)
   have b:valueAt (q::qs) k=valueAt qs k:=by simp[valueAt,List.find?_cons,e']
   rw[jI e,b];exact ih
theorem KV.any{kvs:List (κ×V)}{vs:List (κ×Value)}(r:KV kvs vs)(k:κ):(kvs.any λkv=>decide (kv.1=k))=vs.any λkv=>decide (kv.1=k):=by
 unfold KV at r
 induction r with
 |nil=>rfl
 |cons h t ih=>rw[List.any_cons,List.any_cons,ih,h.1]
theorem KV.repl{kvs:List (κ×V)}{vs:List (κ×Value)}(r:KV kvs vs)(k:κ)(ry:bQ y u):
 KV (kvs.map λkv=>if kv.1=k then(kv.1,y) else kv) (vs.map λkv=>if kv.1=k then(kv.1,u) else kv):=by
 unfold KV at r|-
 induction r with
 |nil=>exact .nil
 | @cons p q ps qs h t ih=>
  rw[List.map_cons,List.map_cons];refine .cons ?_ ih;obtain⟨h1,h2⟩:=h;by_cases e:p.1=k
  ·rw[if_pos e,if_pos (h1.symm.trans e)];exact⟨h1,ry⟩
  ·rw[if_neg e,if_neg (λz=>e (h1.trans z))];exact⟨h1,h2⟩
theorem KV.put{kvs:List (κ×V)}{vs:List (κ×Value)}(r:KV kvs vs)(k:κ)(ry:bQ y u):KV (bH kvs k y) (stored vs k u):=by
 unfold bH stored;rw[r.any k];by_cases e:(vs.any λkv=>decide (kv.1=k))=true
 ·rw[if_pos e,if_pos e];exact r.repl k ry
 ·rw[if_neg e,if_neg e];exact Paired.snoc r ⟨rfl,ry⟩
theorem KV.length{kvs:List (κ×V)}{vs:List (κ×Value)}(r:KV kvs vs):kvs.length=vs.length:=Paired.length r
end
theorem pF{k:aD}(r:bQ (kV k) u):(fC P w).is k u=true:=by
 cases k with
 |inl i=>obtain⟨t,e⟩:=(show∃t,u=Value.int i t from r);subst e;exact a6F P w i t
 |inr x=>obtain⟨t,e⟩:=(show∃t,u=Value.str x t from r);subst e;exact a5W P w x t
theorem a2g{P:Program}{w:World}:∀{ks:List aD} {us:List Value},bK (ks.map kV) us->ItemsAre (fC P w) ks us
 | [],_,r=>by rw[List.map_nil]at r;cases r;exact .nil
 |k::ks,_,r=>by
  rw[List.map_cons]at r
  cases r with
  |cons h t=>exact .cons (pF h) (a2g t)
abbrev KT(H:Hp):List (List aD×V)->List (List aD×Addr×Value)->Prop:=Paired λp q=>p.1=q.1/\H q.2.1=some (.tup (p.1.map kV))/\bQ p.2 q.2.2
theorem KT.val{kvs:List (List aD×V)}{xs:List (List aD×Addr×Value)}(r:KT H kvs xs)(k:List aD):gK (bC kvs k) ((atKey xs k).map (·.2)):=by
 induction r with
 |nil=>exact True.intro
 | @cons p q ps qs h t ih=>
  obtain⟨h1,_,h2⟩:=h;by_cases e:p.1=k
  ·have e':q.1=k:=h1.symm.trans e
   have b:atKey (q::qs) k=some q.2:=by simp[atKey,List.find?_cons,e']
   rw[iX e,b];exact h2
  ·have e':¬q.1=k:=λz=>e (h1.trans z)
   have b:atKey (q::qs) k=atKey qs k:=by simp[atKey,List.find?_cons,e']
   rw[jI e,b];exact ih
theorem KT.repl{kvs:List (List aD×V)}{xs:List (List aD×Addr×Value)}(r:KT H kvs xs)(k:List aD)(ry:bQ y u):
 KT H (kvs.map λkv=>if kv.1=k then(kv.1,y) else kv) (xs.map (putAt k u)):=by
 induction r with
 |nil=>exact .nil
 | @cons p q ps qs h t ih=>
  rw[List.map_cons,List.map_cons];refine .cons ?_ ih;obtain⟨h1,h2,h3⟩:=h;unfold putAt;by_cases e:p.1=k
  ·rw[if_pos e,if_pos (h1.symm.trans e)];exact⟨h1,h2,ry⟩
  ·rw[if_neg e,if_neg (λz=>e (h1.trans z))];exact⟨h1,h2,h3⟩
theorem KT.put{kvs:List (List aD×V)}{xs:List (List aD×Addr×Value)}(r:KT H kvs xs)(k:List aD)(hb:H b=some (.tup (k.map kV)))(ry:bQ y u):
 KT H (bH kvs k y) (storedH xs k b u):=by
 have e:(kvs.any λkv=>decide (kv.1=k))=(atKey xs k).isSome:=by
  rw[oC,(r.val k).isSome_eq,Option.isSome_map]
 unfold bH storedH;rw[e];by_cases q:(atKey xs k).isSome=true
 ·rw[if_pos q,if_pos q];exact r.repl k ry
 ·rw[if_neg q,if_neg q];exact Paired.snoc r ⟨rfl,hb,ry⟩
theorem KT.keeps{kvs:List (List aD×V)}{xs:List (List aD×Addr×Value)}(r:KT H kvs xs)(ht:∀b ys,H b=some (.tup ys)->H' b=some (.tup ys)):KT H' kvs xs:=
 Paired.mapP r λ_ _ z=>⟨z.1,ht _ _ z.2.1,z.2.2⟩
section
theorem a1t{u:HO}(ok:dN P w H h)(e:Rd H a u):cX P w H h a u:=e.ok ok
theorem nC(ok:dN P w H h)(e:Rd H a (.dK kvs)):kvs.length<=sizeLine/\(a==sysModules)=false/\∃vs,KV kvs vs/\h.DictOf (fC P w) a vs:=
 show cX P w H h a (.dK kvs) from a1t ok e
theorem a0A(ok:dN P w H h)(e:H a=some (.dK kvs)):kvs.length<=sizeLine/\(a==sysModules)=false/\∃vs,KV kvs vs/\h.DictOf (fC P w) a vs:=nC ok (.inl e)
theorem qW{ks:List aD}(ok:dN P w H h)(e:H a=some (.tup (ks.map kV))):(tupleKind (fC P w)).is h ks a:=by
 obtain⟨_,its,r,o,h1,h2,n,h3⟩:=(show cX P w H h a (.tup (ks.map kV)) from ok a _ e);exact⟨o,its.toArray,n,h1,h2,h3,by simpa using a2g r⟩
theorem pA{kvs:List (List aD×V)}(ok:dN P w H h)(e:Rd H a (.dT kvs)):kvs.length<=sizeLine/\(a==sysModules)=false/\
 ∃xs,KT H kvs xs/\h.DictOfH (tupleKind (fC P w)) a xs:=by
 obtain⟨z,y,xs,r,o,es,ep,h1,h2,h3,h4,h5⟩:=(show cX P w H h a (.dT kvs) from a1t ok e);refine⟨z,y,xs,r,o,es,ep,h1,h2,h3,h4,λx hx=> ?_,h5⟩
 have all:∀{l:List (List aD×V)} {m:List (List aD×Addr×Value)},KT H l m->∀x∈m,(tupleKind (fC P w)).is h x.1 x.2.1:=by
  intro l m q
  induction q with
  |nil=>intro x hx;exact nomatch hx
  | @cons p q ps qs hq t ih=>
   intro x hx
   rcases List.mem_cons.mp hx with e|hx
   ·subst e
    exact qW ok (by rw[<- hq.1];exact hq.2.1)
   ·exact ih x hx
 exact all r x hx
theorem a7U{kvs:List (List aD×V)}(ok:dN P w H h)(e:H a=some (.dT kvs)):kvs.length<=sizeLine/\(a==sysModules)=false/\
 ∃xs,KT H kvs xs/\h.DictOfH (tupleKind (fC P w)) a xs:=pA ok (.inl e)
end
def cZ(H:Hp)(a:Addr)(y:V)(r:Option V):Prop:=
 (∃kvs k,Rd H a (.dK kvs)/\y=kV k/\r=bC kvs k)\/ ∃kvs k b,Rd H a (.dT kvs)/\y= .ref b/\H b=some (.tup (k.map kV))/\r=bC kvs k
def kP(H:Hp)(a:Addr)(y v:V)(H':Hp):Prop:=
 (∃kvs k,H a=some (.dK kvs)/\y=kV k/\kvs.length<sizeLine/\H'=upd H a (.dK (bH kvs k v)))\/
 ∃kvs k b,H a=some (.dT kvs)/\y= .ref b/\H b=some (.tup (k.map kV))/\kvs.length<sizeLine/\H'=upd H a (.dT (bH kvs k v))
theorem cZ.k{k:aD}(e:H a=some (.dK kvs)):cZ H a (kV k) (bC kvs k):=.inl ⟨kvs,k,.inl e,rfl,rfl⟩
theorem cZ.t{kvs:List (List aD×V)}{k:List aD}(e:H a=some (.dT kvs))(eb:H b=some (.tup (k.map kV))):cZ H a (.ref b) (bC kvs k):=.inr ⟨kvs,k,b,.inl e,rfl,eb,rfl⟩
theorem kP.k{k:aD}(e:H a=some (.dK kvs))(hl:kvs.length<sizeLine):kP H a (kV k) v (upd H a (.dK (bH kvs k v))):=.inl ⟨kvs,k,e,rfl,hl,rfl⟩
theorem kP.t{kvs:List (List aD×V)}{k:List aD}(e:H a=some (.dT kvs))(eb:H b=some (.tup (k.map kV)))(hl:kvs.length<sizeLine):
 kP H a (.ref b) v (upd H a (.dT (bH kvs k v))):=.inr ⟨kvs,k,b,e,rfl,eb,hl,rfl⟩
section
variable{s:Shared}{r:Value}{o:Option V}
theorem aE.big(I:aE X ae σ H s):sysModules<s.heap.objs.size:=by
 have h:mainGlobals<s.heap.objs.size:=(I.mod.glob.keeps I.bk).lt;exact Nat.lt_trans (by decide) h
theorem a7q{Q:Value->Shared->Prop}(hu:A.units+ 1<cLine)(I:aE X ae σ H s)(g:cZ H a y (some v))(ry:bQ y u)(h:∀w' s',aE X ae σ H s'->bQ v w'->Q w' s'):
 wpAny (model X.prog X.w) A (getItem (.ref a) u) Q E s:=by
 rcases g with⟨kvs,k,e,ey,l⟩|⟨kvs,k,b,e,ey,eb,l⟩
 ·subst ey
  obtain⟨z,hd,vs,rel,dd⟩:=nC I.hok e;obtain⟨w',hw,rw'⟩:=gK.some_of (v:=v) (o:=valueAt vs k) (by rw[l];exact rel.val k);exact wpAny_getItem_of (pF ry) dd.mapOf hw (h w' _ (I.tok _) rw')
 ·subst ey
  cases (show u=Value.ref b from ry);obtain⟨z,hd,xs,rel,dd⟩:=pA I.hok e;obtain⟨w',hw,rw'⟩:=gK.some_of (v:=v) (o:=(atKey xs k).map (·.2)) (by rw[l];exact rel.val k);obtain⟨p,hp,hp2⟩:=Option.map_eq_some_iff.mp hw;refine wpAny_getItem_heap (tupleKind_room_in1 hu) (qW I.hok eb) dd hp ?_;rw[hp2];exact h w' _ (I.tok _) rw'
theorem d_in{Q:Value->Shared->Prop}(hu:A.units+ 1<cLine)(I:aE X ae σ H s)(g:cZ H a y o)(ry:bQ y u)(h:∀s',aE X ae σ H s'->Q (.bool o.isSome) s'):
 wpAny (model X.prog X.w) A (compareOp .In u (.ref a)) Q E s:=by
 rcases g with⟨kvs,k,e,ey,l⟩|⟨kvs,k,b,e,ey,eb,l⟩
 ·subst ey
  obtain⟨z,hd,vs,rel,dd⟩:=nC I.hok e;refine wpAny_in_of (pF ry) hd dd.mapOf ?_;rw[<- (rel.val k).isSome_eq,<- l];exact h _ (I.tok _)
 ·subst ey
  cases (show u=Value.ref b from ry);obtain⟨z,hd,xs,rel,dd⟩:=pA I.hok e;refine wpAny_in_heap (tupleKind_room_in1 hu) (qW I.hok eb) hd dd ?_;have q:=(rel.val k).isSome_eq;rw[Option.isSome_map]at q;rw[<- q,<- l];exact h _ (I.tok _)
theorem a7N{Q:Value->Shared->Prop}(hu:A.units+ 1<cLine)(I:aE X ae σ H s)(g:cZ H a y o)(ry:bQ y u)(h:∀s',aE X ae σ H s'->Q (.bool (!o.isSome)) s'):
 wpAny (model X.prog X.w) A (compareOp .NotIn u (.ref a)) Q E s:=by
 rcases g with⟨kvs,k,e,ey,l⟩|⟨kvs,k,b,e,ey,eb,l⟩
 ·subst ey
  obtain⟨z,hd,vs,rel,dd⟩:=nC I.hok e;refine wpAny_notIn_of (pF ry) hd dd.mapOf ?_;rw[<- (rel.val k).isSome_eq,<- l];exact h _ (I.tok _)
 ·subst ey
  cases (show u=Value.ref b from ry);obtain⟨z,hd,xs,rel,dd⟩:=pA I.hok e;refine wpAny_notIn_heap (tupleKind_room_in1 hu) (qW I.hok eb) hd dd ?_;have q:=(rel.val k).isSome_eq;rw[Option.isSome_map]at q;rw[<- q,<- l];exact h _ (I.tok _)
theorem a0o{t':Nat}{ob:HO}(I:aE X ae σ H s)(mu:sL (H a))(hs:Heap.SameBut a s.heap h')(he:∃q,h'.get? a=some q)(new:cX X.prog X.w (upd H a ob) h' a ob):
 aE X ae σ (upd H a ob) {s with heap:=h',toks:=t'}:=
 I.write (x:=a) (e:=a) mu (.inl rfl) (λb q hb z=>(hs.2 b hb).trans z) he new
theorem a4B{vs:List (aD×Value)}(z:kvs.length<=sizeLine)(hd:(a==sysModules)=false)(rel:KV kvs vs)(dd:h'.DictOf (fC P w) a vs):
 cX P w H' h' a (.dK kvs):=⟨z,hd,vs,rel,dd⟩
theorem a9I{Q:Unit->Shared->Prop}(hu:A.units+ 1<cLine)(I:aE X ae σ H s)(g:kP H a y v H')(ry:bQ y u)(rv:bQ v r)(h:∀s',aE X ae σ H' s'->Q () s'):
 wpAny (model X.prog X.w) A (setItem (.ref a) u r) Q E s:=by
 rcases g with⟨kvs,k,e,ey,l,eH⟩|⟨kvs,k,b,e,ey,eb,l,eH⟩
 ·subst ey eH
  obtain⟨z,hd,vs,rel,dd⟩:=a0A I.hok e
  have hz:vs.length<=sizeLine:=by rw[<- rel.length];exact z
  have hl:(bH kvs k v).length<=sizeLine:=by have:=tJ kvs k v;omega
  refine wpAny_setItem_pairs (hsz:=hz) (pF ry) dd λh' dd' hs=>h _ ?_
  have he:∃q,h'.get? a=some q:=let ⟨q,_,_,hq,_⟩:=dd';⟨q,hq⟩;exact a0o I (by rw[e];exact True.intro) hs he (a4B hl hd (rel.put k rv) dd')
 ·subst ey eH
  cases (show u=Value.ref b from ry);obtain⟨z,hd,xs,rel,dd⟩:=a7U I.hok e
  have hz:xs.length<=sizeLine:=by rw[<- Paired.length rel];exact z
  have hl:(bH kvs k v).length<=sizeLine:=by have:=tJ kvs k v;omega
  refine wpAny_setItem_heap (hsz:=hz) (tupleKind_room_in1 hu) (qW I.hok eb) dd λh' dd' hs=>h _ ?_
  obtain⟨q,es,ep,hq,h2,h3,h4,_,h5⟩:=dd';refine a0o I (by rw[e];exact True.intro) hs ⟨q,hq⟩ ⟨hl,hd,_,(rel.put k eb rv).keeps λc ys ec=> ?_,q,es,ep,hq,h2,h3,h4,h5⟩;rw[aF (jG ec e (λz=>nomatch z))];exact ec
end
section
variable{s:Shared}{k:aD}
theorem b0M{Q:Value->Shared->Prop}(I:aE X ae σ H s)(e:Rd H a (.dK kvs))(h:∀t s',aE X ae σ H s'->Q (.int kvs.length t) s'):wpAny (model X.prog X.w) A (call (.builtin "len") [.ref a]) Q E s:=by
 obtain⟨z,hd,vs,rel,dd⟩:=nC I.hok e;refine call_len_dict hd dd (by rw[<- rel.length];rw[sizeLine_eq]at z;omega) ?_;rw[<- rel.length];exact h _ _ (I.tok _)
end
def NoSl(i:Expr):Prop:=∀ov iv,subscripted i false ov iv=operate [ov,iv] (getItem ov iv)
theorem a60{s:Shared}{value slice:Expr}{T id:String}{Q:Value->Shared->Prop}
 (hl:typeLookup (.type T) "__getitem__"=pure (some (.builtin id)))(hs:NoSl slice)
 (h:wpAny (model prog w) A (eval value env) (λo s₁=>wpAny (model prog w) A (eval slice env) (λi s₂=>s₂.TypeIs o T/\wpAny (model prog w) A (getItem o i) Q E s₂) E s₁) E s):
 wpAny (model prog w) A (eval (.Subscript value slice pos) env) Q E s:=by
 refine Subscript_ (wpAny_mono h (λo s₁ h₁=>wpAny_mono h₁ (λi s₂ h₂=> ?_) λ_ _ x=>x) λ_ _ x=>x);obtain⟨hT,h₂⟩:=h₂;unfold subscriptTail;refine wpAny_bind ?_;rw[getitemInPython_of_ne hT.not_modules];refine wpAny_bind (wpAny_specialOf hT hl ?_)
 have fin:wpAny (model prog w) A (subscripted slice false o i) (λr s₃=>wpAny (model prog w) A (letTemporaryGo value o r>>=λ_=>pure r) Q E s₃) E s₂:=by
  rw[hs o i];exact wpAny_operating (wpAny_mono h₂ (λr s₃ h₃=>wpAny_bind (wpAny_letTemporaryGo (wpAny_pure h₃))) λ_ _ x=>x)
 first
  |exact wpAny_pure (wpAny_bind fin)
  |exact wpAny_bind (wpAny_pure (wpAny_bind fin))
  |exact wpAny_bind fin
theorem b0m{s:Shared}{o:Option V}(I:aE X ae σ H s)(g:cZ H a y o):s.TypeIs (.ref a) "dict":=by
 rcases g with⟨kvs,k,e,_,_⟩|⟨kvs,k,b,e,_,_,_⟩
 ·obtain⟨_,_,vs,_,dd⟩:=nC I.hok e
  exact dd.typeIs
 ·obtain⟨_,_,xs,_,dd⟩:=pA I.hok e
  exact dd.typeIs
inductive a1L(Q:VK)(x:V)(y:V)(H2:Hp):Prop
 |mk (a:_) (v:_):(x= .ref a)->(cZ H2 a y (some v))->(Q v H2)->a1L Q x y H2
def b0f(td ty:TE):TE:=λσ H Q=>td σ H λx H1=>ty σ H1 (a1L Q x)
inductive a3A(Q:VK)(y:V)(x:V)(H2:Hp):Prop
 |mk (a:_) (o:_):(x= .ref a)->(cZ H2 a y o)->(Q (.bl o.isSome) H2)->a3A Q y x H2
def tDIn(ty td:TE):TE:=λσ H Q=>ty σ H λy H1=>td σ H1 (a3A Q y)
inductive a4K(Q:VK)(y:V)(x:V)(H2:Hp):Prop
 |mk (a:_) (o:_):(x= .ref a)->(cZ H2 a y o)->(Q (.bl (!o.isSome)) H2)->a4K Q y x H2
def a7d(ty td:TE):TE:=λσ H Q=>ty σ H λy H1=>td σ H1 (a4K Q y)
inductive a5r(D:eG)(σ:St)(v:V)(x:V)(y:V)(H3:Hp):Prop
 |mk (a:_) (H4:_):(x= .ref a)->(kP H3 a y v H4)->(D.nx σ H4)->a5r D σ v x y H3
def a8k(td ty tv:TE):TS:=λD σ H=>tv σ H λv H1=>td σ H1 λx H2=>ty σ H2 (a5r D σ v x)
section
variable{o i value:Expr}{td ty tv:TE}
theorem lL(hu:X.A.units+ 1<cLine)(ho:PE X o td)(hi:PE X i ty)(hs:NoSl i):PE X (.Subscript o i pos) (b0f td ty):=by
 intro ae s σ H Q I h;refine a60 F.slot_dict_getitem.lookup hs (aV (ho ae s σ H _ I h) λu s1 ⟨x,H1,I1,rx,q1⟩=>aV (hi ae s1 σ H1 _ I1 q1) λiv s2 ⟨y,H2,I2,ry,a,v,ex,g,q2⟩=> ?_);subst ex;obtain rfl:u=Value.ref a:=rx;exact⟨b0m I2 g,a7q hu I2 g ry λw' s3 I3 rw'=>⟨v,H2,I3,rw',q2⟩⟩
theorem kE(hu:X.A.units+ 1<cLine)(hi:PE X i ty)(ho:PE X o td):PC X .In i o (tDIn ty td):=by
 intro ae s σ H Q I h;refine aV (hi ae s σ H _ I h) λiv s1 ⟨y,H1,I1,ry,q1⟩=>aV (ho ae s1 σ H1 _ I1 q1) λu s2 ⟨x,H2,I2,rx,a,ov,ex,g,q2⟩=> ?_
 subst ex;obtain rfl:u=Value.ref a:=rx;exact d_in hu I2 g ry λs3 I3=>⟨.bl ov.isSome,H2,I3,rfl,q2⟩
theorem mR(hu:X.A.units+ 1<cLine)(hi:PE X i ty)(ho:PE X o td):PC X .NotIn i o (a7d ty td):=by
 intro ae s σ H Q I h;refine aV (hi ae s σ H _ I h) λiv s1 ⟨y,H1,I1,ry,q1⟩=>aV (ho ae s1 σ H1 _ I1 q1) λu s2 ⟨x,H2,I2,rx,a,ov,ex,g,q2⟩=> ?_
 subst ex;obtain rfl:u=Value.ref a:=rx;exact a7N hu I2 g ry λs3 I3=>⟨.bl (!ov.isSome),H2,I3,rfl,q2⟩
theorem mP(hu:X.A.units+ 1<cLine)(ho:PE X o td)(hi:PE X i ty)(hv:PE X value tv)(hs:swapsWith value (some (.Subscript o i pos')) pos.line X.env=pure false):
 PS X (.Assign [.Subscript o i pos'] value pos) (a8k td ty tv):=by
 intro ae s σ H D I h;refine wpAny_Assign_Subscript (aV (hv ae s σ H _ I h) λr s1 ⟨v,H1,I1,rv,q1⟩=>aV (ho ae s1 σ H1 _ I1 q1) λu s2 ⟨x,H2,I2,rx,q2⟩=>aV (hi ae s2 σ H2 _ I2 q2) λiv s3 ⟨y,H3,I3,ry,a,H4,ex,g,q3⟩=> ?_) hs;subst ex;obtain rfl:u=Value.ref a:=rx;exact a9I hu I3 g ry rv λs4 I4=>⟨σ,H4,I4,q3⟩
end
theorem a1X(h:Heap)(hb:sysModules<h.objs.size):cX P w H (h.push {cls:=.type "dict",data:=.dict #[]}) h.objs.size (.dK []):=
 ⟨Nat.zero_le _,beq_eq_false_iff_ne.mpr (Ne.symm (Nat.ne_of_lt hb)),[],.nil,Heap.DictOf.new h⟩
theorem a96(h:Heap)(hb:sysModules<h.objs.size):cX P w H (h.push {cls:=.type "dict",data:=.dict #[]}) h.objs.size (.dT []):=
 ⟨Nat.zero_le _,beq_eq_false_iff_ne.mpr (Ne.symm (Nat.ne_of_lt hb)),[],.nil,_,#[],0,Heap.get?_push_size _ rfl,⟨rfl,rfl,rfl⟩,rfl,rfl,List.nodup_nil⟩
def a4H:TE:=λ_ H Q=>∀p,H p=none->Q (.ref p) (upd H p (.dK []))
def b1i:TE:=λ_ H Q=>∀p,H p=none->Q (.ref p) (upd H p (.dT []))
section
theorem nH:PE X (.Dict [] [] pos) a4H:=λae s σ H Q I h=>
 wpAny_Dict_empty ⟨.ref s.heap.objs.size,_,I.laid (a:=s.heap.objs.size) (o:=.dK []) (t':=s.toks) (λ_ _ q=>Heap.get?_push_of_some _ q) (Nat.le_refl _) (a1X s.heap I.big),rfl,h _ (I.hok.fresh (Nat.le_refl _))⟩
theorem uZ:PE X (.Dict [] [] pos) b1i:=λae s σ H Q I h=>
 wpAny_Dict_empty ⟨.ref s.heap.objs.size,_,I.laid (a:=s.heap.objs.size) (o:=.dT []) (t':=s.toks) (λ_ _ q=>Heap.get?_push_of_some _ q) (Nat.le_refl _) (a96 s.heap I.big),rfl,h _ (I.hok.fresh (Nat.le_refl _))⟩
end
def wI:List (TE×TE)->St->Hp->(List (V×V)->Hp->Prop)->Prop
 | [],_,H,Q=>Q [] H
 |(tk,tv)::r,σ,H,Q=>tk σ H λx H1=>tv σ H1 λy H2=>wI r σ H2 λps H3=>Q ((x,y)::ps) H3
abbrev VV:List (V×V)->List (Value×Value)->Prop:=Paired λp q=>bQ p.1 q.1/\bQ p.2 q.2
def uH(X:Cx)(pos:Pos)(keys:List (Option Expr))(values:List Expr)(trs:List (TE×TE)):Prop:=
 ∀(ae:List (Addr×Obj)) (s:Shared) (σ:St) (H:Hp) (Q:List (V×V)->Hp->Prop),aE X ae σ H s->wI trs σ H Q->
  wpAny (model X.prog X.w) X.A (evalPairs (pairTrees keys values X.env pos)) (λvs s'=>∃ps H',aE X ae σ H' s'/\VV ps vs/\Q ps H') X.xe s
theorem a2F:uH X pos [] [] []:=λae s σ H Q I h=>pairTrees_nil_walk ⟨[],H,I,.nil,h⟩
theorem vR{k v:Expr}{ks:List (Option Expr)}{vs:List Expr}{tk tv:TE}(hk:PE X k tk)(hv:PE X v tv)(hr:uH X pos ks vs trs):
 uH X pos (some k::ks) (v::vs) ((tk,tv)::trs):=λae s σ H Q I h=>
 pairTrees_cons_walk (aV (hk ae s σ H _ I h) λu s1 ⟨x,H1,I1,rx,q1⟩=>aV (hv ae s1 σ H1 _ I1 q1) λw2 s2 ⟨y,H2,I2,ry,q2⟩=>
  aV (hr ae s2 σ H2 _ I2 q2) λws s3 ⟨ps,H3,I3,rel,q3⟩=>⟨(x,y)::ps,H3,I3,.cons ⟨rx,ry⟩ rel,q3⟩)
noncomputable def pU (kvs more:List (aD×V)):List (aD×V):=more.foldl (λacc kv=>bH acc kv.1 kv.2) kvs
theorem KV.merge:∀{more:List (aD×V)} {rs:List (aD×Value)} {kvs:List (aD×V)} {vs:List (aD×Value)},KV more rs->KV kvs vs->KV (pU kvs more) (merged vs rs):=by
 intro more rs kvs vs r;unfold KV at r
 induction r generalizing kvs vs with
 |nil=>intro q;exact q
 | @cons p q ps qs h t ih=>
  intro r0
  have e:KV (bH kvs p.1 p.2) (stored vs q.1 q.2):=by
   have:=r0.put p.1 h.2;rw[<- h.1];exact this
  exact ih e
theorem a5k:∀(more kvs:List (aD×V)),(pU kvs more).length<=kvs.length+ more.length
 | [],kvs=>by show kvs.length<=kvs.length+ 0;omega
 |p::r,kvs=>by
  have h1:=a5k r (bH kvs p.1 p.2);have h2:=tJ kvs p.1 p.2;show(pU (bH kvs p.1 p.2) r).length<=_;rw[List.length_cons];omega
theorem a3f{P:Program}{w:World}:∀{kvs:List (aD×V)} {ws:List (Value×Value)},VV (kvs.map λkv=>(kV kv.1,kv.2)) ws->∃rs,Carries (fC P w) ws rs/\KV kvs rs
 | [],_,r=>by rw[List.map_nil]at r;cases r;exact⟨[],True.intro,.nil⟩
 |p::kvs,_,r=>by
  rw[List.map_cons]at r
  cases r with
  | @cons a b as bs h t=>
   obtain⟨rs,c,q⟩:=a3f (P:=P) (w:=w) t;obtain⟨b1,b2⟩:=b;exact⟨(p.1,b2)::rs,⟨pF h.1,rfl,c⟩,.cons ⟨rfl,h.2⟩ q⟩
def zX(trs:List (TE×TE)):TE:=λσ H Q=>∀p,H p=none->wI trs σ (upd H p (.dK [])) λps H2=>H2 p=some (.dK [])/\∃kvs:List (aD×V),ps=kvs.map (λkv=>(kV kv.1,kv.2))/\kvs.length<=15/\Q (.ref p) (upd H2 p (.dK (pU [] kvs)))
theorem a3t{keys:List (Option Expr)}{values:List Expr}(h:uH X pos keys values trs)(hall:keys.all (·.isSome)=true)(hl:keys.length=values.length)(h0:keys≠ [])
 (h15:keys.length<=15):PE X (.Dict keys values pos) (zX trs):=by
 intro ae s σ H Q I q;have hn:=I.hok.fresh (Nat.le_refl s.heap.objs.size);have I1:=I.laid (a:=s.heap.objs.size) (o:=.dK []) (h':=s.heap.push {cls:=.type "dict",data:=.dict #[]}) (t':=s.toks) (λ_ _ q=>Heap.get?_push_of_some _ q) (Nat.le_refl _) (a1X s.heap I.big);refine wpAny_Dict_walk (knd:=fC X.prog X.w) hall hl h0 h15 (aV (h ae _ σ _ _ I1 (q _ hn)) ?_);rintro ws s2 ⟨ps,H2,I2,rel,e,kvs,ep,lk,q2⟩;subst ep;obtain⟨rs,c,rk⟩:=a3f (P:=X.prog) (w:=X.w) rel;obtain⟨z,hd,vs0,r0,dd⟩:=a0A I2.hok e;cases r0;refine⟨rs,c,dd,λh' dd' hs=>⟨.ref s.heap.objs.size,_,?_,rfl,q2⟩⟩
 have hz:(pU [] kvs).length<=sizeLine:=by
  have h1:=a5k kvs [];rw[List.length_nil]at h1;rw[sizeLine_eq];omega
 have he:∃q,h'.get? s.heap.objs.size=some q:=let ⟨q,_,_,hq,_⟩:=dd';⟨q,hq⟩;exact a0o I2 (by rw[e];exact True.intro) hs he (a4B hz hd (rk.merge .nil) dd')
structure M1(X:Cx)(o:Expr)(m:Str)(apos:Pos)(e:Expr)(cpos:Pos):Prop where
 base:attributeBase o m X.env (eval o X.env)=eval o X.env
 few:((backTo cpos (starEach [e] X.env)).all (λx=> !x.1)&&(backToKw cpos (keywordEach [] X.env)).all (λx=>x.1.isSome)
  &&decide (([e]:List Expr).length+ ([]:List Keyword).length+ (if([]:List Keyword).isEmpty then 0 else 1)<30))=true
 line:(apos.endLine==cpos.line)=true
 trees:backTo cpos (starEach [e] X.env)= [(false,eval e X.env)]
structure M2(X:Cx)(o:Expr)(m:Str)(apos:Pos)(e f:Expr)(cpos:Pos):Prop where
 base:attributeBase o m X.env (eval o X.env)=eval o X.env
 few:((backTo cpos (starEach [e,f] X.env)).all (λx=> !x.1)&&(backToKw cpos (keywordEach [] X.env)).all (λx=>x.1.isSome)
  &&decide (([e,f]:List Expr).length+ ([]:List Keyword).length+ (if([]:List Keyword).isEmpty then 0 else 1)<30))=true
 line:(apos.endLine==cpos.line)=true
 trees:backTo cpos (starEach [e,f] X.env)= [(false,eval e X.env),(false,eval f X.env)]
def bL(H:Hp)(a:Addr):Prop:=(∃kvs,Rd H a (.dK kvs))\/ ∃kvs,Rd H a (.dT kvs)
theorem a1e{s:Shared}(I:aE X ae σ H s)(d:bL H a):
 s.TypeIs (.ref a) "dict" /\(∀b,Value.ref a= .ref b->∃ob,s.heap.get? b=some ob/\ob.dict=none)/\(a==sysModules)=false:=by
 rcases d with⟨kvs,e⟩|⟨kvs,e⟩
 ·obtain⟨_,hd,vs,_,dd⟩:=nC I.hok e
  refine⟨dd.typeIs,λb q=> ?_,hd⟩;cases q;obtain⟨ob,_,_,h1,h2,_⟩:=dd;exact⟨ob,h1,h2.2.1⟩
 ·obtain⟨_,hd,xs,_,dd⟩:=pA I.hok e
  refine⟨dd.typeIs,λb q=> ?_,hd⟩;cases q;obtain⟨ob,_,_,h1,h2,_⟩:=dd;exact⟨ob,h1,h2.2.1⟩
section
variable{s:Shared}{d:V}{r:Value}{o:Option V}
theorem a6w{Q:Value->Shared->Prop}(hu:A.units+ 1<cLine)(I:aE X ae σ H s)(g:cZ H a y o)(ry:bQ y u)(rd:bQ d r)(h:∀w' s',aE X ae σ H s'->bQ (o.getD d) w'->Q w' s'):
 wpAny (model X.prog X.w) A (call (.builtin "dict.get") [.ref a,u,r]) Q E s:=by
 rcases g with⟨kvs,k,e,ey,l⟩|⟨kvs,k,b,e,ey,eb,l⟩
 ·subst ey
  obtain⟨z,hd,vs,rel,dd⟩:=nC I.hok e;refine call_meetsIn F.slot_dict_get dd.typeIs F.entry_dict_get (F.args_dict_get_3 _ _ _) (meets_dict_get_default (fC X.prog X.w) a (pF ry) hd r) ⟨_,dd.mapOf,h _ _ (I.tok _) ?_⟩;rw[l];exact(rel.val k).getD rd
 ·subst ey
  cases (show u=Value.ref b from ry);obtain⟨z,hd,xs,rel,dd⟩:=pA I.hok e;refine call_meetsIn F.slot_dict_get dd.typeIs F.entry_dict_get (F.args_dict_get_3 _ _ _) (meetsH_dict_get_default (tupleKind (fC X.prog X.w)) a b hd r) ⟨tupleKind_room_in1 hu,k,xs,qW I.hok eb,dd,h _ _ (I.tok _) ?_⟩;rw[l];exact(rel.val k).getD rd
end
def a9v(td ty tx:TE):TE:=λσ H Q=>td σ H λx H1=>∃a,x= .ref a/\bL H1 a/\ty σ H1 λy H2=>tx σ H2 λz H3=>∃o,cZ H3 a y o/\Q (o.getD z) H3
section
variable{o f:Expr}{cpos:Pos}{td ty tx:TE}
theorem a7z(hu:X.A.units+ 1<cLine)(ho:PE X o td)(he:PE X e ty)(hf:PE X f tx)(m:M2 X o "get" apos e f cpos):PE X (.Call (.Attribute o "get" apos) [e,f] [] cpos) (a9v td ty tx):=by
 intro ae s σ H Q I h;refine wpAny_Call_method m.base m.few m.line F.plainAttrs_dict F.slot_dict_get F.type_dict_get (aV (ho ae s σ H _ I h) ?_);rintro u s1 ⟨x,H1,I1,rx,a,ex,d,q1⟩;subst ex;obtain rfl:u=Value.ref a:=rx;obtain⟨t1,t2,_⟩:=a1e I1 d;refine⟨t1,t2,?_⟩;rw[m.trees]
 refine Calls.callWith_builtin rfl (Calls.evalArgs_plain (Calls.spliced_cons (aV (he ae s1 σ H1 _ I1 q1) λiv s2 ⟨y,H2,I2,ry,q2⟩=>
  Calls.spliced_cons (aV (hf ae s2 σ H2 _ I2 q2) λfv s3 ⟨z,H3,I3,rz,ov,g,q3⟩=>Calls.spliced_nil ?_))))
 exact a6w hu I3 g ry rz λw' s4 I4 rw'=>⟨_,H3,I4,rw',q3⟩
end
end L2
namespace Att
open PySem PySem.W PySem.Calls PyProof.Rows
theorem a5V{P:Params}:∀(ns:List Int) (vs:List Value),WellAll P h vs (ns.map WData.int)->IntsAre vs ns:=by
 intro ns
 induction ns with
 |nil=>
  intro vs w;rw[List.map_nil]at w;cases w;exact .nil
 |cons n ns ih=>
  intro vs w;rw[List.map_cons]at w
  cases w with
  |cons a b=>
   cases a;exact .cons _ _ (ih _ b)
theorem b05{l:OpenLaw}(hn:l.most=some n){P:Params}{args:List WData}{vals:List Value}
 (hpre:l.row.toRowW.claim.pre args=true)(hwl:WellAll P h vals args):
 ∃a vs ns,vals= [Value.ref a] /\args= [WData.list (ns.map WData.int)] /\h.get? a=some {cls:=.type "list",data:=.seq vs.toArray} /\IntsAre vs ns/\ns.length<=n:=by
 have hsh:WShape.hasAll [] args [.list .int]=true:=(pre_splitW hpre).1;have hc:l.pre.holds [] {args:=args}=true:=(pre_splitW hpre).2;obtain⟨d,r,rfl,h1,h2⟩:=hasAllW_cons hsh;obtain rfl:=hasAllW_nil h2;obtain⟨xs,rfl,h3⟩:=hasW_list h1;obtain⟨ns,rfl⟩:=items_int h3
 have hlen:ns.length<=n:=by
  unfold OpenLaw.pre at hc
  have h4:(WTm.not (.lt (.lit (.int (n:Int))) (.len (.arg 0)))).holds [] {args:=[.list (ns.map .int)]}=true:=by
   have h4:=(holds_andW hc).1;rw[hn]at h4;exact h4
  have h5:=condW_of h4 (w_not (w_lt w_lit (w_len_list (w_arg rfl))));rw[List.length_map]at h5;refine Nat.le_of_not_lt λq=> ?_
  have q':(n:Int)<((ns.length:Nat):Int):=by omega
  first
   |(rw[decide_eq_true q']at h5;exact absurd h5 (by decide))
   |(simp at h5;omega)
 cases hwl with
 |cons w1 w2=>
  cases w2
  cases w1 with
  |list ho hall=>exact⟨_,_,ns,rfl,rfl,ho,a5V ns _ hall,hlen⟩
theorem a7f(l:OpenLaw)(args:List WData):l.row.toRowW.claim.post args (.bool true) args=true:=
 postW_of (r:=l.row.toRowW) (X:=(true==true))
  (show WShape.has [] (.bool true) .bool=true by first|rfl|decide|simp[WShape.has,WShape.arms,WShape.armsAll])
  (show(WTm.eq .res (.lit (.bool true))).value [] {args:=args,res:=some (.bool true),after:=args}=some (.bool (true==true)) from w_eq_bool (w_res rfl) w_lit) rfl
theorem attach_call{l:OpenLaw}{q:Program}{loose:List Str}{XP:(Str->Option Value)->Heap->Prop}{YP:World->Heap->Prop}{d:DefRec}
 (hn:l.most=some n)(hdf:d.params.defaults= [])
 (call:∀(w:World) (s₀ s₁:Shared) (mg mb:Str->Option Value) (fa:Addr) (o:Obj) (pm cd doc:Value) (a:Addr) (vs:List Value) (ns:List Int),
  Ground q loose [] XP w s₀ mg mb s₁.heap->YP w s₁.heap->
  s₁.heap.get? fa=some o->o.data= .func (docDef d.name d.params d.body d.scope pm cd doc)->s₁.heap.CodeRec cd d.name->mg d.name=some (.ref fa)->
  s₁.heap.get? a=some {cls:=.type "list",data:=.seq vs.toArray} ->IntsAre vs ns->ns.length<=n->s₁.gens= #[] ->
  codeAny (model l.prog w) callerA (.call (.ref fa) ⟨[.ref a],[]⟩) (λr s'=>r= .ok (.ret (.bool true))/\OldK s₁.heap s'.heap/\s'.os=s₁.os/\AllBare s'.gens) s₁):
 WalkO q loose XP YP l.row.toRowW d [] (λf vs=>PySem.call f vs):=by
 intro w s₀ s₁ mg mb G Y fa o pm cd doc dV kV ho hd hcd hD hmg hg args vals as hpre hlay hrd hwl hlo;obtain rfl:dV= .none:=Dflts.none hD hdf;obtain rfl:kV= .none:=Dflts.noKw hD;obtain⟨a,vs,ns,rfl,rfl,hobj,hints,hlen⟩:=b05 hn hpre hwl;refine enter_call (codeAny_mono (call w s₀ s₁ mg mb fa o pm cd doc a vs ns G Y ho (fd_plain hd) hcd hmg hobj hints hlen hg) λr s' hq=> ?_);obtain⟨rfl,h2,h3,h4⟩:=hq;exact⟨.inl ⟨.bool true,.bool true,[],rfl,λ_=>rfl,.bool true,a7f l _,λ_=>⟨List.Pairwise.nil,λ_ hm=>(nomatch hm)⟩⟩,h2,h3,h4⟩
section
variable{s:Shared}{K:Frag}
noncomputable def ledger(h:Heap)(L d:Addr):List (Addr×Obj):=(List.range h.objs.size).filterMap λa=>if a=L\/ a=d then none else(h.get? a).map λo=>(a,o)
end
end Att
namespace L2
open PySem PySem.Spec PyProof.Rows
theorem a4j:∀{vs:List Value} {ns:List Int},IntsAre vs ns->bK (ns.map V.int) vs
 |_,_,.nil=> .nil
 |_,_,.cons n t h=> .cons ⟨t,rfl⟩ (a4j h)
def jH(s:Stmt):Arguments:=match s with
 | .FunctionDef _ a _ _ _ _ _ _ _ _=>a
 |_=>{posonlyargs:=[],args:=[],vararg:=none,kwonlyargs:=[],kw_defaults:=[],kwarg:=none,defaults:=[]}
def dY(s:Stmt):List Stmt:=match s with
 | .FunctionDef _ _ b _ _ _ _ _ _ _=>b
 |_=> []
def aS(s:Stmt):Scope:=match s with
 | .FunctionDef _ _ _ _ _ _ sc _ _ _=>sc
 |_=>{kind:=.function,names:=[],isGenerator:=false,isCoroutine:=false}
abbrev aN:fL:=λ_ _ _ _ _ _=>False
abbrev E0:XK:=λ_ _ _=>False
theorem aL:iA aN X E0:=λ_ _ _ _ _ _ _ h=>h.elim
structure iU(K:Fg)(x qual:Str)(st:Stmt)(f:Addr)(fd:FuncData):Prop where
 ex:∃(oc:Value) (od:Option Addr) (kV doc pm:Value) (an:Option Addr) (ah ct:Value) (osl:Array (Option Value)),
  fd=W.fnOf x qual (jH st) (dY st) (aS st) .none kV doc pm an ah ct/\K.lookup f=some ⟨oc,od,.func fd,osl⟩ /\W.codeIn K ah qual=true
 kp:W.keepIn K (.ref f)=true
section
theorem iU.ok{k:Nat}(F:iU K x qual st f fd)(S:bD N ps (aS st))(len:∀vs H Q E,sp vs H Q E->vs.length=ps.length)
 (hbody:∀(ah:Value) (A:Around) (ag:List Env) (s:Shared) (H:Hp) (vs:List V) (Q:VK) (E:XK),cR k (A.deeper (envOfC qual (aS st) s.heap.objs.size f ah))->sp vs H Q E->
  ∃t,dL (fV aN P w K mg af N qual (aS st) f ah A ag s H E).nox (dY st) t/\t {nx:=λ_ H'=>Q .non H',rt:=Q} (fJ N vs) H):gJ P w K mg af aN (k+ 1) f fd ps sp:=by
 obtain⟨oc,od,kV,doc,pm,an,ah,ct,osl,rfl,lk,hcd⟩:=F.ex;refine a0t lk hcd S len λA ag s H vs Q E hr hsp=> ?_
 obtain⟨t,h,q⟩:=hbody ah A ag s H vs Q E hr hsp;exact⟨t,h.nox,q⟩
theorem iU.binds(F:iU K x qual st f fd)
 (h:∀(kV doc pm:Value) (an:Option Addr) (ah ct:Value) (us:List Value),us.length=ps.length->bindArgs (W.fnOf x qual (jH st) (dY st) (aS st) .none kV doc pm an ah ct) ⟨us,[]⟩=pure (ps.zip us)):jA K fd ps []:=by
 obtain⟨oc,od,kV,doc,pm,an,ah,ct,osl,rfl,lk,hcd⟩:=F.ex;exact .all (h kV doc pm an ah ct)
theorem xU{osl:Array (Option Value)}{kV:Value}(l:K.lookup f=some ⟨oc,od,.func (W.fnOf x qual (jH st) (dY st) (aS st) .none kV doc pm an ah ct),osl⟩)
 (c:W.codeIn K ah qual=true)(k:W.keepIn K (.ref f)=true):iU K x qual st f (W.fnOf x qual (jH st) (dY st) (aS st) .none kV doc pm an ah ct):=⟨⟨oc,od,kV,doc,pm,an,ah,ct,osl,rfl,l,c⟩,k⟩
end
theorem eN{k:Nat}(hr:cR k A):A.units+ 1<cLine:=Nat.lt_of_le_of_lt (Nat.add_le_add_left (by decide:1<=64) _) hr.units
theorem fU(h:n<=1000):n<sizeLine:=Nat.lt_of_le_of_lt h (by decide)
section
theorem pv(i:Nat)(hN:X.N[i]?=some x:=by rfl)(hv:wR X.env.scope x:=by first|exact Or.inl rfl|exact Or.inr (Or.inl rfl)|exact Or.inr (Or.inr rfl))(hd:(x==("__debug__":Str))=false:=by decide)
 (hcd:(x==("__classdict__":Str))=false:=by decide):PE X (.Name x pos) (gI i):=a9f hN hv hd hcd
theorem wP:iC X (.builtin "len") (λxs H Q=>∃a kvs,xs= [V.ref a] /\H a=some (.dK kvs)/\Q (.int kvs.length) H):=by
 intro ae s σ H xs us Q I r h;obtain⟨a,kvs,rfl,ha,q⟩:=h;obtain⟨u,rfl,ru⟩:=lN r;cases ru;exact b0M I (.inl ha) λt s' I'=>⟨.int kvs.length,H,I',⟨t,rfl⟩,q⟩
end
theorem bU{A B:Prop}(h:B):if false=true then A else B:=by
 rw[if_neg Bool.false_ne_true];exact h
theorem cB{A B:Prop}(h:A):if true=true then A else B:=by
 rw[if_pos rfl];exact h
theorem dJ{c A B:Prop} [Decidable c](h1:c->A)(h2:¬c->B):if c then A else B:=by
 by_cases h:c
 ·rw[if_pos h]
  exact h1 h
 ·rw[if_neg h]
  exact h2 h
theorem a5P{c A B:Prop} [Decidable c](hc:c)(h:B):if (!decide c)=true then A else B:=by
 rw[decide_eq_true hc];exact bU h
def aB(H H':Hp):Prop:=∀b o,H b=some o->H' b=some o
theorem aB.refl(H:Hp):aB H H:=λ_ _ h=>h
theorem aB.trans(a:aB H H1)(b:aB H1 H2):aB H H2:=λc o h=>b c o (a c o h)
theorem aB.seq(e:aB H H')(h:aU K H a xs):aU K H' a xs:=by
 rcases h with(h|⟨o,h⟩)|h
 ·exact .inl (.inl (e _ _ h))
 ·exact .inl (.inr ⟨o,e _ _ h⟩)
 ·exact .inr h
section
variable{κ:Type} [DecidableEq κ]
theorem a9P{kvs:List (κ×V)}{k:κ}(h:bC kvs k=none):¬k∈kvs.map (·.1):=by
 intro m;obtain⟨p,hp,e⟩:=List.mem_map.mp m;have q:(kvs.any λkv=>decide (kv.1=k))=true:=List.any_eq_true.mpr ⟨p,hp,decide_eq_true e⟩;rw[oC,h]at q;exact absurd q (by simp)
theorem a3C:∀{l:List κ} {k:κ},l.Nodup->¬k∈l->(l++ [k]).Nodup
 | [],k,_,_=>by simp
 |a::r,k,h,hk=>by
  obtain⟨h1,h2⟩:=List.nodup_cons.mp h;show(a::(r++ [k])).Nodup;refine List.nodup_cons.mpr ⟨λm=> ?_,a3C h2 λm=>hk (List.mem_cons.mpr (Or.inr m))⟩
  rcases List.mem_append.mp m with q|q
  ·exact h1 q
  ·exact hk (List.mem_cons.mpr (Or.inl (List.mem_singleton.mp q).symm))
theorem a6Z{kvs:List (κ×V)}{k:κ}(v:V)(hn:(kvs.map (·.1)).Nodup)(h:bC kvs k=none):((bH kvs k v).map (·.1)).Nodup:=by
 rw[qU v h,List.map_append];exact a3C hn (a9P h)
end
section
variable{a b c:Expr}{ta:TE}
theorem kN{i:Int}(h:∃t,X.mg x=some (.int i t))(hg:Gl X x:=by rfl)(hd:(x==("__debug__":Str))=false:=by decide):PE X (.Name x pos) (tC (.int i)):=by
 obtain⟨t,h⟩:=h;exact zH hg h ⟨t,rfl⟩ hd
theorem b0I(h:∃t,X.mg x=some (.str z t))(hg:Gl X x:=by rfl)(hd:(x==("__debug__":Str))=false:=by decide):PE X (.Name x pos) (tC (.str z)):=by
 obtain⟨t,h⟩:=h;exact zH hg h ⟨t,rfl⟩ hd
theorem gC(h:X.mg x=some (.ref f))(hg:Gl X x:=by rfl)(hd:(x==("__debug__":Str))=false:=by decide):PE X (.Name x pos) (tC (.ref f)):=zH hg h rfl hd
theorem jR{T:String}(hm:X.mg x=none)(hv:bootBuiltins x=some (.type T))(hg:Gl X x:=by rfl)(hn:x≠ "__name__":=by decide)(hd:(x==("__debug__":Str))=false:=by decide):PE X (.Name x pos) (tC (.ty T)):=a6q hg hm hv rfl hn hd
end
mutual
inductive Dt(K:Fg)(H:Hp):V->PyData->Prop where
 |non:Dt K H .non .none
 |bl (b:Bool):Dt K H (.bl b) (.bool b)
 |int (i:Int):Dt K H (.int i) (.int i)
 |str (x:Str):Dt K H (.str x) (.str x)
 |lst {a:Addr} {xs:List V} {ds:List PyData}:aU K H a xs->cL K H xs ds->Dt K H (.ref a) (.list ds)
 |tup {a:Addr} {xs:List V} {ds:List PyData}:bS K H a xs->cL K H xs ds->Dt K H (.ref a) (.tuple ds)
 |dK {a:Addr} {kvs:List (aD×V)}:H a=some (.dK kvs)->Dt K H (.ref a) (.dict [])
 |dT {a:Addr} {kvs:List (List aD×V)}:H a=some (.dT kvs)->Dt K H (.ref a) (.dict [])
inductive cL(K:Fg)(H:Hp):List V->List PyData->Prop where
 |nil:cL K H [] []
 |cons {v:V} {d:PyData} {vs:List V} {ds:List PyData}:Dt K H v d->cL K H vs ds->cL K H (v::vs) (d::ds)
end
section
variable{s:Shared}
mutual
theorem Dt.reads(I:aE X ae σ H s){v:V}{d:PyData}{u:Value}(h:Dt X.K H v d)(r:bQ v u)(l:d.canLay0=true):∃as,Reads s.heap u d as:=by
 cases h with
 |non=>cases r;exact⟨_,.none⟩
 |bl b=>cases r;exact⟨_,.bool b⟩
 |int i=>obtain⟨t,rfl⟩:=r;exact⟨_,.int i t⟩
 |str x=>obtain⟨t,rfl⟩:=r;exact⟨_,.str x t⟩
 |lst h hd=>
  cases r;obtain⟨its,rv,⟨o,n,e,hc,_,hs⟩,_⟩:=I.list h;obtain⟨as,ra⟩:=cL.reads I hd rv (by rw[PyData.canLay0]at l;exact l);exact⟨_,.list e hc hs (by simpa using ra)⟩
 |tup h hd=>
  cases r;obtain⟨its,rv,⟨o,e,hc,n,hs⟩,_⟩:=I.tuple h;obtain⟨as,ra⟩:=cL.reads I hd rv (by rw[PyData.canLay0]at l;exact l);exact⟨_,.tuple e hc hs (by simpa using ra)⟩
 |dK _=>rw[PyData.canLay0]at l;cases l
 |dT _=>rw[PyData.canLay0]at l;cases l
theorem cL.reads(I:aE X ae σ H s){vs:List V}{ds:List PyData}{us:List Value}(h:cL X.K H vs ds)(r:bK vs us)(l:PyData.canLayAll0 ds=true):∃as,ReadsAll s.heap us ds as:=by
 cases h with
 |nil=>cases r;exact⟨_,.nil⟩
 |cons h hd=>
  rw[PyData.canLayAll0,Bool.and_eq_true]at l
  cases r with
  |cons r1 rr=>
   obtain⟨as,ra⟩:=Dt.reads I h r1 l.1;obtain⟨bs,rb⟩:=cL.reads I hd rr l.2;exact⟨_,.cons ra rb⟩
end
theorem aB.seqT(e:aB H H')(h:bS K H a xs):bS K H' a xs:=by
 rcases h with(h|⟨o,h⟩)|h
 ·exact .inl (.inl (e _ _ h))
 ·exact .inl (.inr ⟨o,e _ _ h⟩)
 ·exact .inr h
mutual
theorem Dt.same{K:Fg}(e:aB H H'){v:V}{d:PyData}(h:Dt K H v d):Dt K H' v d:=by
 cases h with
 |non=>exact .non
 |bl b=>exact .bl b
 |int i=>exact .int i
 |str x=>exact .str x
 |lst h hd=>exact .lst (e.seq h) (cL.same e hd)
 |tup h hd=>exact .tup (aB.seqT e h) (cL.same e hd)
 |dK h=>exact .dK (e _ _ h)
 |dT h=>exact .dT (e _ _ h)
theorem cL.same{K:Fg}(e:aB H H'){vs:List V}{ds:List PyData}(h:cL K H vs ds):cL K H' vs ds:=by
 cases h with
 |nil=>exact .nil
 |cons h hd=>exact .cons (Dt.same e h) (cL.same e hd)
end
theorem cL.get{K:Fg}:∀{vs:List V} {ds:List PyData} {i:Nat} {v:V},cL K H vs ds->vs[i]?=some v->∃d,ds[i]?=some d/\Dt K H v d
 |_,_,_,_,.nil,e=>by simp at e
 |_,_,0,_,.cons h _,e=>by simp at e;subst e;exact⟨_,rfl,h⟩
 |_,_,i+ 1,v,.cons _ t,e=>by
  obtain⟨d,h1,h2⟩:=cL.get (i:=i) (v:=v) t (by simpa using e);exact⟨d,by simpa using h1,h2⟩
theorem cL.length{K:Fg}:∀{vs:List V} {ds:List PyData},cL K H vs ds->vs.length=ds.length
 |_,_,.nil=>rfl
 |_,_,.cons _ t=>by rw[List.length_cons,List.length_cons,cL.length t]
theorem wU(hu:X.A.units+ 64<cLine):dR X (compareOp .Eq) (λx y H Q=>∃dx dy,Dt X.K H x dx/\Dt X.K H y dy/\dx.canLay0=true/\dy.canLay0=true/\dx.depth<=64/\Q (.bl (PyData.eqv dx dy)) H):=by
 intro ae s σ H x y v u Q I rx ry h;obtain⟨dx,dy,hx,hy,lx,ly,hd,q⟩:=h;obtain⟨as,ra⟩:=Dt.reads I hx rx lx;obtain⟨bs,rb⟩:=Dt.reads I hy ry ly;exact SeqAt.compareEq_reads ra rb lx ly (by have:=Nat.min_le_left dx.depth dy.depth;omega) ⟨.bl _,H,I,rfl,q⟩
theorem a4R(hu:X.A.units+ 64<cLine):dR X (compareOp .NotEq) (λx y H Q=>∃dx dy,Dt X.K H x dx/\Dt X.K H y dy/\dx.canLay0=true/\dy.canLay0=true/\dx.depth<=64/\Q (.bl (!PyData.eqv dx dy)) H):=by
 intro ae s σ H x y v u Q I rx ry h;obtain⟨dx,dy,hx,hy,lx,ly,hd,q⟩:=h;obtain⟨as,ra⟩:=Dt.reads I hx rx lx;obtain⟨bs,rb⟩:=Dt.reads I hy ry ly;exact SeqAt.compareNe_reads ra rb lx ly (by have:=Nat.min_le_left dx.depth dy.depth;omega) ⟨.bl _,H,I,rfl,q⟩
end
def wA(x:Str):It:=⟨λi _=>i<x.cps.size,λi H v H'=>H'=H/\∃c,x.cps[i]?=some c/\v= .str ⟨#[c]⟩,λi _=>x.cps.size<=i⟩
theorem a8y(it:Addr)(x:Str)(t:Tok):∀ty:String,(ty= "str_ascii_iterator"\/ ty= "str_iterator")->pD P w K tg (wA x) [it] it (λi h=>h.IsStrIter it ty x t i):=by
 intro ty hty;refine⟨by simp,?_,?_,?_,?_,?_⟩
 ·intro i h st b hb
  have e:b=it:=by simpa using hb
  subst e;obtain⟨o,e,c,d⟩:=st;exact⟨o,e,λv z=>by rw[d]at z;cases z⟩
 ·intro i h h' st k
  obtain⟨o,e,c,d⟩:=st;exact⟨o,k it (by simp) o e,c,d⟩
 ·intro X hP hw hK hc i ae s σ H E I hf st hg
  subst hP hw hK;obtain⟨f0,f1,f2,f3,f4,f5⟩:=hf it (by simp);have hi:i<x.cps.size:=hg
  have hx:x.cps[i]?=some x.cps[i]:=by simp[hi]
  have fin:∀h',h'.IsStrIter it ty x t (i+ 1)->Heap.SameBut it s.heap h'->∃u,some (Value.str ⟨#[x.cps[i]]⟩ s.toks)=some u/\
   wpAny (model X.prog X.w) X.A (letOwnedTupleGo tg (.ref it) u) (λ_ s2=>∃y H',aE X ae σ H' s2/\bQ y u/\(wA x).yld i H y H'/\s2.heap.IsStrIter it ty x t (i+ 1)/\∀b∈ [it],H' b=none) E {s with heap:=h',toks:=s.toks+ 1}:=by
   intro h' st' sb;have I1:aE X ae σ H {s with heap:=h',toks:=s.toks+ 1}:=I.turned (λb o hb e=>(sb.2 b hb).trans e) f0 f1 f3 f4 f5;obtain⟨o,e,c,d⟩:=id st';refine⟨_,rfl,vJ (s:={s with heap:=h',toks:=s.toks+ 1}) e c d ?_ ⟨.str ⟨#[x.cps[i]]⟩,H,I1,⟨_,rfl⟩,⟨rfl,_,hx,rfl⟩,st',λb hb=>(hf b hb).1⟩⟩
   rcases hty with rfl|rfl<;>decide
  rcases hty with rfl|rfl
  ·exact wpAny_pyNext_ascii_item st hx fin
  ·exact wpAny_pyNext_wide_item st hx fin
 ·intro X hP hw hK hc i ae s σ H E I hf st hg
  subst hP hw hK;obtain⟨f0,f1,f2,f3,f4,f5⟩:=hf it (by simp);have hi:x.cps.size<=i:=hg
  have hx:x.cps[i]?=none:=by simp[hi]
  have fin:∀h',Heap.ExtBut it s.heap h'->(none:Option Value)=none/\aE X ae σ H {s with heap:=h'}:=λh' eb=>⟨rfl,I.turned (t':=s.toks) (λb o hb e=>eb b o hb e) f0 f1 f3 f4 f5⟩
  rcases hty with rfl|rfl
  ·exact wpAny_pyNext_ascii_end (I.ok.hd hc) st hx fin
  ·exact wpAny_pyNext_wide_end (I.ok.hd hc) st hx fin
 ·intro A i s Q E st h
  rcases hty with rfl|rfl
  ·exact wpAny_pyIter_striter_ascii st h
  ·exact wpAny_pyIter_striter_wide st h
section
inductive a1h(R:It->Hp->Prop)(v:V)(H1:Hp):Prop
 |mk (x:_):(v= .str x)->(R (wA x) H1)->a1h R v H1
def iStr(tl:TE):TI:=λσ H R=>tl σ H (a1h R)
theorem b0w{l:Expr}(hl:PE X l tl):PI X tg l (iStr tl):=by
 intro ae s σ H R I h;refine aV (hl ae s σ H _ I h) ?_;rintro v s1 ⟨y,H1,I1,r1,q1⟩;obtain⟨x,e,q⟩:=q1;subst e;obtain⟨t,rfl⟩:=r1;have fin:∀ty:String,(ty= "str_ascii_iterator"\/ ty= "str_iterator")->zF X ae σ tg R (.ref s1.heap.objs.size) {s1 with heap:=s1.heap.push {cls:=.type ty,data:=.fields #[.str x t,.int 0 0]}}:=λty hty=>by
  refine⟨s1.heap.objs.size,[s1.heap.objs.size],_,_,H1,rfl,I1.kept (t':=s1.toks) λb o e=>Heap.get?_push_of_some _ e,a8y _ x t ty hty,⟨_,Heap.get?_push_size _ rfl,rfl,rfl⟩,λb hb=> ?_,q⟩
  have e:b=s1.heap.objs.size:=by simpa using hb
  subst e;exact I1.fpOk (Nat.le_refl _) (I1.hok.fresh (Nat.le_refl _))
 cases ha:x.cps.all (·<128)
 ·exact wpAny_pyIter_wide ha (fin _ (.inr rfl))
 ·exact wpAny_pyIter_ascii ha (fin _ (.inl rfl))
end
section
variable{R:Result->Shared->Prop}{s:Shared}
theorem b0c{target:Expr}{it acc:Value}(I:Nat->Shared->Prop)
 (turn:∀n s,I n s->wpAny (model prog w) A (pyNext it) (λr s₁=>match r with
  |none=>R (.ok .next) s₁
  |some v=>wpAny (model prog w) A (letOwnedTupleGo target it v) (λ_ s₁'=>wpAny (model prog w) A (assign target env v) (λ_ s₂=>
   wpAny (model prog w) A (forIn ifs true λc r=>if r=true then do let ok<- isTrue c env (eval c env);pure (ForInStep.yield ok) else pure (ForInStep.yield r)) (λok s₃=>
    if ok=true then wpAny (model prog w) A (eval elt env) (λx s₄=>
     wpAny (model prog w) A (call (.builtin "list.append") [acc,x]) (λ_ s₅=>∃m,m<n/\I m s₅) (λ_ _=>False) s₄) (λ_ _=>False) s₃
    else∃m,m<n/\I m s₃) (λ_ _=>False) s₂) (λ_ _=>False) s₁') (λ_ _=>False) s₁) (λ_ _=>False) s)
 (n:Nat)(h:I n s):
 codeAny (model prog w) A (.compLoop (.ListComp elt [⟨target,iter,ifs,0⟩] ai pos) 0 it acc env) R s:=by
 refine codeAny_loop rfl I (λn s hI=> ?_) n h;show wpAny _ A ((compTurn (.ListComp elt [⟨target,iter,ifs,0⟩] ai pos) 0 it acc env).onRaise (λx=>do noteFrame x env;theTreesLotGoes x)) _ _ s;refine wpAny_noted ?_;rw[compTurn_list];refine wpAny_bind (wpAny_standAt (wpAny_bind (wpAny_mono (turn n s hI) (λr s₁ h₁=> ?_) λ_ _ h'=>h'.elim)))
 cases r with
 |none=>exact wpAny_pure h₁
 |some v=>
  refine wpAny_bind (wpAny_mono h₁ (λ_ s₁' h₁'=> ?_) λ_ _ h'=>h'.elim);refine wpAny_bind (wpAny_mono h₁' (λ_ s₂ h₂=>wpAny_bind (wpAny_mono h₂ (λok s₃ h₃=> ?_) λ_ _ h'=>h'.elim)) λ_ _ h'=>h'.elim)
  cases ok with
  |false=>exact wpAny_pure ⟨rfl,h₃⟩
  |true=>
   exact wpAny_bind (wpAny_bind (wpAny_mono h₃ (λx s₄ h₄=>wpAny_bind (wpAny_mono h₄ (λ_ s₅ h₅=>wpAny_pure (wpAny_pure ⟨rfl,h₅⟩)) λ_ _ h'=>h'.elim)) λ_ _ h'=>h'.elim))
end
noncomputable def gP (X:Cx) (ai:Scope) (cl:List (Str×Addr)) (C:Addr) (N':List Str) (fp:List Addr) (ae:List (Addr×Obj)) (s:Shared) (H:Hp):Cx where
 prog:=X.prog
 w:=X.w
 K:=X.K
 mg:=X.mg
 base:=X.base
 A:=X.A
 N:=N'
 s₀:=s
 H₀:=H
 env:=compEnvC ai cl C X.env
 outer:=X.stack
 stack:=X.stack
 ex:=fp
 calm:=X.calm
 fn:=λ_=>false
 pn:=X.pn++ ae
 xe:=λ_ _=>False
structure nJ(X:Cx)(ai:Scope)(cl:List (Str×Addr))(cp:List (Nat×Str)):Prop where
 kind:ai.kind= .function
 nocell:∀y∈ai.names,y.2≠ .cell
 names:∀y∈ai.names,y.2= .local->ai.names.lookup y.1=some .local
 clos:closureFor ai X.env=pure cl
 sub:∀x c,cl.lookup x=some c->X.env.cells.lookup x=some c
 has:∀x,((relabel ai X.env).names.lookup x=some .cell\/ (relabel ai X.env).names.lookup x=some .free)->∃c,cl.lookup x=some c
 at':∀p∈cp,X.N[p.1]?=some p.2/\(X.env.scope.names.lookup p.2=some .cell\/ X.env.scope.names.lookup p.2=some .free)/\((relabel ai X.env).names.lookup p.2=some .cell\/ (relabel ai X.env).names.lookup p.2=some .free)
noncomputable def gM (cp:List (Nat×Str)) (σ:St):St:=cp.map λp=>(σ[p.1]?).getD none
section
variable{s:Shared}
theorem a8F(xs:List Str)(I:aE X ae σ H s)(c:nJ X ai cl cp)(hf:∀b∈fp,kX X ae H b)(hfo:∀b∈fp,b<s.heap.objs.size){ty:String}{tk:Nat}{m:Str->Option Value}(hm:h'.Ns s.heap.objs.size m)
 (sb:Heap.SameBut s.heap.objs.size (s.heap.push {cls:=.type ty,data:=.dict #[]}) h'):
 aE (gP X ai cl s.heap.objs.size (xs++ cp.map (·.2)) fp ae s H) [] (xs.map (λ_=>none)++ gM cp σ) H {s with heap:=h',toks:=tk}:=by
 have old:∀b o,s.heap.get? b=some o->h'.get? b=some o:=λb o e=>(sb.2 b (Nat.ne_of_lt (Heap.lt_size e))).trans (Heap.get?_push_of_some _ e)
 have hC:H s.heap.objs.size=none:=I.hok.fresh (Nat.le_refl _)
 refine⟨⟨I.ok.mod,c.kind,I.ok.glob,I.ok.blt,Nat.le_refl _,λy z k h1 h2=>I.ok.inj y z k (c.sub _ _ h1) (c.sub _ _ h2),c.has,λy k z=>(Bool.noConfusion z),I.ok.hd,I.ok.frames,.inl rfl,λb hb=> ?_,λb o e=>I.bs b o e,Nat.le_trans I.ok.bsz I.sz,λb o e hb=> ?_,λb hb hz=> ?_,I.stack,I.stkFree⟩,
  rfl,I.bare,Un.kept old,⟨m,hm,λi y v h1 h2 h3=> ?_⟩,λy k e=> ?_,hC,λy k e=>I.freeC y k (c.sub y k e),λp hp=> ?_,I.hok.kept old,?_⟩
 ·obtain⟨f0,f1,f2,f3,f4,f5⟩:=hf b hb
  exact⟨Nat.ne_of_lt (hfo b hb),λy k e=>f4 y k (c.sub y k e)⟩
 ·obtain⟨f0,f1,f2,f3,f4,f5⟩:=hf b hb
  rcases f3 with z|z
  ·exact I.ok.noex b o e z
  ·exact absurd (Nat.lt_of_lt_of_le (Heap.lt_size (I.ok.bs b o e).1) z) (Nat.lt_irrefl _)
 ·obtain⟨f0,f1,f2,f3,f4,f5⟩:=hf b hb
  rcases List.mem_cons.mp (I.stkSub b hz)with e|e
  ·exact f1 e
  ·exact f2 e
 ·have h1':(xs++ cp.map (·.2))[i]?=some y:=h1
  have h2':=h2;rw[List.getElem?_append,List.length_map]at h2';by_cases hi:i<xs.length
  ·rw[if_pos hi,List.getElem?_map,List.getElem?_eq_getElem hi]at h2'
   cases h2'
  ·rw[if_neg hi]at h2'
   rw[List.getElem?_append_right (Nat.le_of_not_lt hi)]at h1';unfold gM at h2';rw[List.getElem?_map]at h1' h2'
   cases e:cp[i- xs.length]? with
   |none=>rw[e]at h1';cases h1'
   |some p=>
    rw[e]at h1' h2';simp only[Option.map_some,Option.some.injEq]at h1' h2';obtain⟨k1,k2,k3⟩:=c.at' p (List.mem_of_getElem? e);subst h1'
    have h2'':σ[p.1]?=some (some v):=by
     cases q:σ[p.1]? with
     |none=>rw[q]at h2';cases h2'
     |some z=>rw[q]at h2';simpa using h2'
    obtain⟨m0,hn0,hl0⟩:=I.loc;obtain⟨u,r,l⟩:=hl0 p.1 p.2 v k1 h2'' (k2.elim (λz=> .inr (.inl z)) λz=> .inr (.inr z));refine⟨u,r,.inr ⟨k3,?_⟩⟩
    rcases l with⟨z,_⟩|⟨_,cc,e1,e2⟩
    ·have z':X.env.scope.names.lookup p.2=some .local:=z
     rcases k2 with k|k<;>(rw[z']at k;cases k)
    ·obtain⟨cc',e3⟩:=c.has p.2 k3
     have e4:=c.sub _ _ e3;rw[e1]at e4;cases e4;obtain⟨o,ho,hd⟩:=e2;exact⟨cc,e3,o,old _ _ ho,hd⟩
 ·obtain⟨v,o,ho,hd⟩:=I.cell y k (c.sub y k e)
  exact⟨v,o,old _ _ ho,hd⟩
 ·have hp':p∈X.pn++ ae:=by
   rcases List.mem_append.mp hp with z|z
   ·exact z
   ·cases z
  obtain⟨e,n,ne,nf,d⟩:=I.pin p hp';refine⟨old _ _ e,n,Nat.ne_of_lt (Heap.lt_size e),λhz=> ?_,d⟩
  rcases List.mem_cons.mp (I.stkSub p.1 hz)with q|q
  ·exact ne q
  ·exact nf q
 ·show(xs.map (λ_=>none)++ gM cp σ).length=(xs++ cp.map (·.2)).length
  simp[gM]
theorem aE.uncomp{N':List Str}{σ':St}{h'':Heap}(I:aE X ae σ H s)(hC:C=s.heap.objs.size)(hf:∀b∈fp,kX X ae H b)(J:aE (gP X ai cl C N' fp ae s H) [] σ' H' s')(sb:Heap.SameBut C s'.heap h''):
 aE X ae σ H' {s' with heap:=h''}:=by
 have ne:∀b o,s.heap.get? b=some o->b≠C:=λb o e=>by rw[hC];exact Nat.ne_of_lt (Heap.lt_size e)
 have B:Un (eT X.stack) fp H H' s.heap s'.heap:=J.base;refine I.call' (s':={s' with heap:=h''}) (ch:=fp) (show s'.os=s.os from J.os) ⟨λb o e n hb hx=> ?_,λb o e n hb hx=> ?_,B.free,λb o e hx=> ?_,B.tups,B.frzs,B.tbls⟩ (λb ob e=> ?_) J.bare λb hb=> ?_
 ·exact(sb.2 b (ne b o e)).trans (B.keep b o e n hb hx)
 ·obtain⟨sl,q⟩:=B.slot b o e n hb hx
  exact⟨sl,(sb.2 b (ne b o e)).trans q⟩
 ·obtain⟨o',q⟩:=B.there b o e hx
  exact⟨o',(sb.2 b (ne b o e)).trans q⟩
 ·have hfree:H' C=none:=J.free
  refine(J.hok b ob e).stay (λk w' hk q=>(sb.2 k ?_).trans q) (λ_ q=>q) λ_ _ q=>q
  rintro rfl
  rcases hk with rfl|hk
  ·rw[hfree]at e;cases e
  ·rw[hfree]at hk;cases hk
 ·obtain⟨f0,f1,f2,f3,f4,f5⟩:=hf b hb
  exact⟨f3,f1,f4,f5⟩
end
def oF(X:Cx)(ifs:List Expr)(t:TT):Prop:=
 ∀(ae:List (Addr×Obj)) (s:Shared) (σ:St) (H:Hp) (Q:Bool->Hp->Prop),aE X ae σ H s->t σ H Q->
  wpAny (model X.prog X.w) X.A (forIn ifs true λc r=>if r=true then do let ok<- isTrue c X.env (eval c X.env);pure (ForInStep.yield ok) else pure (ForInStep.yield r)) (TP X ae σ Q) X.xe s
def sN:TT:=λ_ H Q=>Q true H
theorem oM:oF X [] sN:=λ_ _ _ H _ I h=>wpAny_tests_nil ⟨H,I,h⟩
theorem a6d{c:Expr}{t:TT}(h:PT X c t):oF X [c] t:=λae s σ H Q I q=>wpAny_tests_one (h ae s σ H Q I q)
def pJ(cp:List (Nat×Str))(tt:TT)(te:TE)(σ:St)(J:It)(D:Addr)(Q:VK)(H1:Hp):Prop:=
 ∃W:Nat->Nat->Hp->Prop,(∃m,W 0 m (upd H1 D (.lst [])))/\∀i m H2,W i m H2->(J.stop i H2/\Q (.ref D) H2)\/
  (J.go i H2/\∃(N:VK) (N':Hp->Prop),(∀y H5,N y H5->∃ys m',H5 D=some (.lst ys)/\ys.length<sizeLine/\m'<m/\W (i+ 1) m' (upd H5 D (.lst (ys++ [y]))))/\(∀H4,N' H4->∃m',m'<m/\W (i+ 1) m' H4)/\
   ∀v H3,J.yld i H2 v H3->tt (some v::gM cp σ) H3 λb H4=>if b=true then te (some v::gM cp σ) H4 N else N' H4)
def uQ(S:St->Prop)(tg:TG)(tt:TT)(te:TE)(J:It)(D:Addr)(Q:VK)(H1:Hp):Prop:=
 ∃W:Nat->Nat->Hp->Prop,(∃m,W 0 m (upd H1 D (.lst [])))/\∀i m H2,W i m H2->(J.stop i H2/\Q (.ref D) H2)\/
  (J.go i H2/\∃(N:VK) (N':Hp->Prop),(∀y H5,N y H5->∃ys m',H5 D=some (.lst ys)/\ys.length<sizeLine/\m'<m/\W (i+ 1) m' (upd H5 D (.lst (ys++ [y]))))/\(∀H4,N' H4->∃m',m'<m/\W (i+ 1) m' H4)/\
   ∀v H3 σ,S σ->J.yld i H2 v H3->tg v σ H3 λσ' H4=>S σ'/\tt σ' H4 λk H5=>if k=true then te σ' H5 N else N' H5)
theorem pJ.s{D:Addr}(q:pJ cp tt te σ J D Q H1):uQ (λσ'=>∃o,σ'=o::gM cp σ) (fT 0) tt te J D Q H1:=by
 obtain⟨W,w0,turn⟩:=q;refine⟨W,w0,λi m H2 w=>(turn i m H2 w).imp id λh=> ?_⟩;obtain⟨go,N,N',a,b,step⟩:=h;refine⟨go,N,N',a,b,λv H3 σ' h y=> ?_⟩;obtain⟨o,rfl⟩:=h;exact⟨⟨_,rfl⟩,step v H3 y⟩
def a2R(cp:List (Nat×Str))(wi:TI)(tt:TT)(te:TE):TE:=λσ H Q=>wi σ H λJ H1=>∀D,H1 D=none->pJ cp tt te σ J D Q H1
section
variable{xs:List Str}{px:Pos}{tgt:Expr}{tg:TG}
theorem a1V{s2:Shared}{it:Addr}{tn:Nat->Heap->Prop}{R:Addr->Result->Shared->Prop}{E:Value->Shared->Prop}(c:nJ X ai cl cp)(hcalm:X.calm=true)(hg:∀C fp ae s H,PG (gP X ai cl C (xs++ cp.map (·.2)) fp ae s H) tgt tg)
 (ht:∀C fp ae s H,oF (gP X ai cl C (xs++ cp.map (·.2)) fp ae s H) ifs tt)(he:∀C fp ae s H,PE (gP X ai cl C (xs++ cp.map (·.2)) fp ae s H) elt te)
 (I2:aE X ae σ H2 s2)(T:pD X.prog X.w X.K tgt J fp it tn)(st2:tn 0 s2.heap)(f2:∀b∈fp,kX X ae H2 b){S:St->Prop}(hS:S (xs.map (λ_=>none)++ gM cp σ))(q:uQ S tg tt te J s2.heap.objs.size Q H2)
 (hR:∀(C:Addr) (H':Hp) (s':Shared),(∃m,s'.heap.Ns C m)->X.s₀.heap.objs.size<=C->H' C=none->C≠X.env.locals->(∀x c,X.env.cells.lookup x=some c->c≠C)->(∀p∈X.pn++ ae,p.1≠C)->(∀h'',Heap.SameBut C s'.heap h''->aE X ae σ H' {s' with heap:=h''})->Q (.ref s2.heap.objs.size) H'->R C (.ok .next) s'):
 wpAny (model X.prog X.w) X.A (newList []) (λacc s₃=>wpAny (model X.prog X.w) X.A (newFunctionEnv ai X.env.globals cl [] X.env.qual none .none (some X.env)) (λcenv s₄=>
  acc= .ref s2.heap.objs.size/\codeAny (model X.prog X.w) X.A (.compStart (.ListComp elt [⟨tgt,iter,ifs,0⟩] ai pos) 0 (.ref it) acc {cenv with scope:=relabel ai X.env}) (R cenv.locals) s₄) E s₃) E s2:=by
 obtain⟨W,⟨m0,w0⟩,turn⟩:=q;refine wpAny_newObj_type ?_;have I3:aE X ae σ (upd H2 s2.heap.objs.size (.lst [])) {s2 with heap:=s2.heap.push {cls:=.type "list",dict:=none,data:=.seq ([]:List Value).toArray}}:=
  I2.lnew (t':=s2.toks) (ys:=[]) (its:=[]) .nil (Nat.zero_le _)
 have fpo:∀b∈fp,b<s2.heap.objs.size:=λb hb=>by
  obtain⟨o,e,_⟩:=T.obj _ _ st2 b hb;exact Heap.lt_size e
 have f3:∀b∈fp,kX X ae (upd H2 s2.heap.objs.size (.lst [])) b:=λb hb=>⟨by rw[aF (Nat.ne_of_lt (fpo b hb))];exact(f2 b hb).1,(f2 b hb).2⟩
 generalize hs3:({s2 with heap:=s2.heap.push {cls:=.type "list",dict:=none,data:=.seq ([]:List Value).toArray}}:Shared)=s3 at I3
 have e3:s3.heap=s2.heap.push {cls:=.type "list",dict:=none,data:=.seq ([]:List Value).toArray}:=by rw[<- hs3]
 have sz3:s2.heap.objs.size<s3.heap.objs.size:=by rw[e3,Heap.size_push];exact Nat.lt_succ_self _
 refine wpAny_newFunctionEnv c.nocell (by intro y hy;cases hy) (λh₁ hns sb=> ?_) c.kind;have J3:=a8F xs (tk:=s3.toks+ ([]:List (Str×Value)).length) I3 c f3 (λb hb=>Nat.lt_trans (fpo b hb) sz3) hns sb;refine⟨rfl,?_⟩;have st3:tn 0 h₁:=T.keep _ _ _ st2 λb hb o e=>(sb.2 b (Nat.ne_of_lt (Nat.lt_trans (fpo b hb) sz3))).trans (Heap.get?_push_of_some _ (by rw[e3];exact Heap.get?_push_of_some _ e))
 generalize hX:gP X ai cl s3.heap.objs.size (xs++ cp.map (·.2)) fp ae s3 (upd H2 s2.heap.objs.size (.lst []))=X' at J3
 have eA:X'.A=X.A:=by rw[<- hX];rfl
 have eP:X'.prog=X.prog:=by rw[<- hX];rfl
 have ew:X'.w=X.w:=by rw[<- hX];rfl
 have eK:X'.K=X.K:=by rw[<- hX];rfl
 have ec:X'.calm=true:=by rw[<- hX];exact hcalm
 have ee:X'.env=compEnvC ai cl s3.heap.objs.size X.env:=by rw[<- hX];rfl
 have ex:X'.xe=λ_ _=>False:=by rw[<- hX];rfl
 have fpX:∀{H':Hp},(∀b∈fp,H' b=none)->∀b∈fp,kX X' [] H' b:=λhn b hb=>by
  obtain⟨f0,f1,f2',f3',f4,f5⟩:=f3 b hb;subst hX;refine⟨hn b hb,Nat.ne_of_lt (Nat.lt_trans (fpo b hb) sz3),λhz=> ?_,.inl hb,λy k e=>f4 y k (c.sub y k e),λp hp=> ?_⟩
  ·rcases List.mem_cons.mp (I3.stkSub b hz)with e|e
   ·exact f1 e
   ·exact f2' e
  ·rcases List.mem_append.mp hp with z|z
   ·exact f5 p z
   ·cases z
 have pT:=ht s3.heap.objs.size fp ae s3 (upd H2 s2.heap.objs.size (.lst []));have pE:=he s3.heap.objs.size fp ae s3 (upd H2 s2.heap.objs.size (.lst []));have pG:=hg s3.heap.objs.size fp ae s3 (upd H2 s2.heap.objs.size (.lst []));rw[hX]at pT pE pG
 have loop:codeAny (model X.prog X.w) X.A (.compLoop (.ListComp elt [⟨tgt,iter,ifs,0⟩] ai pos) 0 (.ref it) (.ref s2.heap.objs.size) (compEnvC ai cl s3.heap.objs.size X.env)) (R s3.heap.objs.size) {s3 with heap:=h₁,toks:=s3.toks+ ([]:List (Str×Value)).length}:=by
  refine b0c (λn s'=>∃i σ' H',S σ'/\aE X' [] σ' H' s'/\tn i s'.heap/\(∀b∈fp,H' b=none)/\W i n H') ?_ m0 ⟨0,_,_,hS,J3,st3,λb hb=>(f3 b hb).1,w0⟩;rintro n s5 ⟨i,σ5,H5,S5,J5,st5,fr5,w5⟩
  rcases turn i n H5 w5 with⟨stop,qn⟩|⟨go,N,N',hN,hN',step⟩
  ·have z:=T.done X' eP ew eK ec i [] s5 _ H5 (λ_ _=>False) J5 (fpX fr5) st5 stop
   rw[eA]at z;refine aV z ?_;rintro r s6 ⟨hr,J6⟩;subst hr;subst hX;obtain⟨m6,hn6,_⟩:=J6.loc;refine hR s3.heap.objs.size H5 s6 ⟨m6,hn6⟩ I3.sz J6.free (Nat.ne_of_gt I3.lt) (λy k e z=> ?_) (λp hp z=> ?_) (λh'' sb'=>I3.uncomp rfl f3 J6 sb') qn
   ·obtain⟨v,w'⟩:=I3.cell y k e
    exact absurd w'.lt (by rw[z];exact Nat.lt_irrefl _)
   ·exact absurd (Heap.lt_size (I3.pin p hp).1) (by rw[z];exact Nat.lt_irrefl _)
  ·have z:=T.item X' eP ew eK ec i [] s5 _ H5 (λ_ _=>False) J5 (fpX fr5) st5 go
   rw[eA]at z;refine aV z ?_;rintro r s6 ⟨u,hr,h6⟩;subst hr;refine aV h6 ?_;rintro _ s7 ⟨v,H7,J7,r7,y7,st7,fr7⟩;have J7':=J7.pinned (fpX fr7) (T.obj _ _ st7);have z8:=pG _ s7 _ H7 v u _ J7' r7 (step v H7 _ S5 y7);rw[eA,eP,ew,ee,ex]at z8;refine aV z8 ?_;rintro _ s8 ⟨σ8,H8,J8,S8,q8⟩;have z9:=pT _ s8 _ H8 _ J8 q8;rw[eA,eP,ew,ee,ex]at z9;refine aV z9 ?_;rintro ok s9 ⟨H9,J9,q9⟩;have fin:∀{H':Hp} {s':Shared},aE X' ([] ++ tP fp s7.heap) σ8 H' s'->(∃m',m'<n/\W (i+ 1) m' H')->∃m,m<n/\∃i σ' H',S σ'/\aE X' [] σ' H' s'/\tn i s'.heap/\(∀b∈fp,H' b=none)/\W i m H':=fun{H' s'} K' ⟨m',hm,w'⟩=>by
    refine⟨m',hm,i+ 1,σ8,H',S8,K'.unpinned,T.keep _ _ _ st7 λb hb ob e=>(K'.pin (b,ob) (List.mem_append_right _ (List.mem_append_right _ (vQ hb e)))).1,λb hb=> ?_,w'⟩;obtain⟨ob,e,d⟩:=T.obj _ _ st7 b hb;exact(K'.pin (b,ob) (List.mem_append_right _ (List.mem_append_right _ (vQ hb e)))).2.1
   cases ok with
   |false=>
    rw[if_neg Bool.false_ne_true]at q9|-
    exact fin J9 (hN' _ q9)
   |true=>
    rw[if_pos rfl]at q9|-
    have z10:=pE _ s9 _ H9 _ J9 q9;rw[eA,eP,ew,ee,ex]at z10;refine aV z10 ?_;rintro u10 s10 ⟨y,H10,J10,r10,n10⟩;obtain⟨ys,m',hD,hz,hm,w'⟩:=hN y H10 n10;have z11:=jJ (X:=X') _ s10 _ H10 (.ref s2.heap.objs.size) [y] (.ref s2.heap.objs.size) [u10] (λ_ H'=>H'=upd H10 s2.heap.objs.size (.lst (ys++ [y]))) J10 rfl (.cons r10 .nil) ⟨_,ys,y,rfl,rfl,hD,hz,rfl⟩;rw[eA,eP,ew,ex]at z11;refine aV z11 ?_;rintro u11 s11 ⟨y',H11,J11,r11,e11⟩;subst e11;exact fin J11 ⟨m',hm,w'⟩
 exact codeAny_compStart_list loop (T.self _ 0 _ _ _ st3 loop)
theorem a3E{S:St->St->Prop}{Lp:St->It->VK->Hp->Prop}(c:nJ X ai cl cp)(hcalm:X.calm=true)(hg:∀C fp ae s H,PG (gP X ai cl C (xs++ cp.map (·.2)) fp ae s H) tgt tg)(hi:PI X tgt iter wi)
 (ht:∀C fp ae s H,oF (gP X ai cl C (xs++ cp.map (·.2)) fp ae s H) ifs tt)(he:∀C fp ae s H,PE (gP X ai cl C (xs++ cp.map (·.2)) fp ae s H) elt te)
 (hS:∀σ,S σ (xs.map (λ_=>none)++ gM cp σ))(hL:∀σ J Q H1,Lp σ J Q H1->∀D,H1 D=none->uQ (S σ) tg tt te J D Q H1)
 (hs:∀v,foldedSetIterable iter X.env v=pure v:=by intro _;rfl):PE X (.ListComp elt [⟨tgt,iter,ifs,0⟩] ai pos) (λσ H Q=>wi σ H (λJ=>Lp σ J Q)):=by
 intro ae s σ H Q I h;rw[eval_ListComp];refine wpAny_comprehension_free (use:=none) (g:=⟨tgt,iter,ifs,0⟩) (gs:=[]) (cl:=cl) rfl hs c.clos c.kind c.names ?_;refine aV (hi ae s σ H _ I h) λv s1 h1=>aV h1 λitv s2 h2=> ?_
 obtain⟨it,fp,tn,J,H2,e,I2,T,st2,f2,q⟩:=h2;subst e;refine aV (a1V (iter:=iter) (pos:=pos) (R:=λC=>compPost (model X.prog X.w) X.A X.xe none (EP X ae σ Q) (.ref s2.heap.objs.size) C) c hcalm hg ht he I2 T st2 f2 (hS σ) (hL σ J Q H2 q _ (I2.hok.fresh (Nat.le_refl _))) ?_) λacc s3 h3=>aV h3 λcenv s4 h4=> ?_
 ·rintro C H' s' ⟨m,hn⟩ _ _ _ _ _ hI hq
  exact⟨m,hn,λh'' sb=>⟨.ref s2.heap.objs.size,H',hI h'' sb,rfl,hq⟩⟩
 ·obtain⟨e,h4⟩:=h4
  subst e;exact h4
theorem a0T(hx:ai.names.lookup x=some .local)(hnd:(x::cp.map (·.2)).Nodup):∀C fp ae s H,PG (gP X ai cl C ([x] ++ cp.map (·.2)) fp ae s H) (.Name x px) (fT 0):=λ_ _ _ _ _=>fO hnd rfl (.inl (lookup_relabel_local hx)) (.inr (lookup_relabel_local hx))
theorem rD(c:nJ X ai cl cp)(hcalm:X.calm=true)(hx:ai.names.lookup x=some .local)(hnd:(x::cp.map (·.2)).Nodup)(hi:PI X (.Name x px) iter wi)
 (ht:∀C fp ae s H,oF (gP X ai cl C (x::cp.map (·.2)) fp ae s H) ifs tt)(he:∀C fp ae s H,PE (gP X ai cl C (x::cp.map (·.2)) fp ae s H) elt te)
 (hs:∀v,foldedSetIterable iter X.env v=pure v:=by intro _;rfl):PE X (.ListComp elt [⟨.Name x px,iter,ifs,0⟩] ai pos) (a2R cp wi tt te):=
 a3E c hcalm (a0T hx hnd) hi ht he (λ_=>⟨_,rfl⟩) (λ_ _ _ _ h D e=>(h D e).s) hs
end
section
variable{px:Pos}
theorem a5R{y:Str}{py:Pos}(hN:X.N.Nodup)(hi':X.N[i]?=some y)(hy:X.env.scope.names.lookup y=some .local)(c:nJ X ai cl cp)(hcalm:X.calm=true)(hx:ai.names.lookup x=some .local)(hnd:(x::cp.map (·.2)).Nodup)(hi:PI X (.Name x px) iter wi)
 (ht:∀C fp ae s H,oF (gP X ai cl C (x::cp.map (·.2)) fp ae s H) ifs tt)(he:∀C fp ae s H,PE (gP X ai cl C (x::cp.map (·.2)) fp ae s H) elt te)
 (hsw:swapsWith (.ListComp elt [⟨.Name x px,iter,ifs,0⟩] ai pos) (some (.Name y py)) pos'.line X.env=pure true)
 (hs:∀v,foldedSetIterable iter X.env v=pure v:=by intro _;rfl):PS X (.Assign [.Name y py] (.ListComp elt [⟨.Name x px,iter,ifs,0⟩] ai pos) pos') (lI (a2R cp wi tt te) (fT i)):=by
 intro ae s σ H D I h;rw[exec_Assign_Name_used _ _ _ _ hsw];refine wpAny_bind (wpAny_standAt (wpAny_bind (wpAny_bind ?_)));refine wpAny_comprehension_free (use:=some (assign (.Name y py) X.env)) (g:=⟨.Name x px,iter,ifs,0⟩) (gs:=[]) (cl:=cl) rfl hs c.clos c.kind c.names ?_;refine aV (hi ae s σ H _ I h) λv s1 h1=>aV h1 λitv s2 h2=> ?_
 obtain⟨it,fp,tn,J,H2,e,I2,T,st2,f2,q⟩:=h2;subst e;refine aV (a1V (iter:=iter) (pos:=pos) (R:=λC=>compPost (model X.prog X.w) X.A X.xe (some (assign (.Name y py) X.env)) (λ_ s'=>wpAny (model X.prog X.w) X.A (pure ()) (λ_ s'=>wpAny (model X.prog X.w) X.A (pure Flow.next) (SP X ae D) X.xe s') X.xe s') (.ref s2.heap.objs.size) C) c hcalm (a0T hx hnd) ht he I2 T st2 f2 ⟨_,rfl⟩ (q _ (I2.hok.fresh (Nat.le_refl _))).s ?_) λacc s3 h3=>aV h3 λcenv s4 h4=> ?_
 ·rintro C H' s' ⟨m,hn⟩ hC0 hCn hCL hCc hCp hI hq
  have I':aE X ae σ H' s':=hI s'.heap (Heap.SameBut.refl ..);refine wpAny_assign_Name (a1C (v:=.ref s2.heap.objs.size) I' hN hi' (.inl hy) rfl (λs'' I'' hb=> ?_) (.inr hy));obtain⟨a,sb,ha⟩:=hb
  have hne:C≠a:=by
   rcases ha with z|z
   ·rw[z];exact hCL
   ·exact λe=>hCc y a z e.symm
  refine⟨m,hn.sameBut sb hne,λh'' sb''=>wpAny_pure (wpAny_pure ⟨_,H',?_,hq⟩)⟩;exact I''.turned (t':=s''.toks) (λb o hb e=>(sb''.2 b hb).trans e) hCn hCL (.inr hC0) hCc hCp
 ·obtain⟨e,h4⟩:=h4
  subst e;exact h4
end
theorem a1l:∀{bs:List Bool} {us:List Value},bK (bs.map V.bl) us->∀(i:Nat) (v:Value),us[i]?=some v->∃b:Bool,bs[i]?=some b/\v=Value.bool b
 | [],_,.nil,i,v,h=>by simp at h
 |b::bs,u::us,.cons r t,0,v,h=>by
  simp at h;subst h;cases r;exact⟨b,rfl,rfl⟩
 |b::bs,u::us,.cons r t,i+ 1,v,h=>by
  obtain⟨b',e1,e2⟩:=a1l t i v (by simpa using h);exact⟨b',by simpa using e1,e2⟩
section
theorem yJ(hc:X.calm=true):iC X (.builtin "all") (λxs H Q=>∃(a:Addr) (bs:List Bool),xs= [.ref a] /\aU X.K H a (bs.map V.bl)/\Q (.bl (bs.all id)) H):=by
 intro ae s σ H xs us Q I r h;obtain⟨a,bs,rfl,hq,q⟩:=h;obtain⟨u,rfl,ru⟩:=r.one;cases ru;obtain⟨its,rv,pl,hz⟩:=I.list hq;have hl:s.heap.IsList a its.toArray:=pl.isList
 have hlt:a<s.heap.objs.size:=by obtain⟨_,e,_⟩:=hl;exact Heap.lt_size e
 refine call_all_walk (wpAny_pyIter_list hl ?_)
 refine⟨s.heap.objs.size,[s.heap.objs.size,a],[s.heap.objs.size],its.toArray.size,_,_,λi=>(bs[i]?).getD true,rfl,Walks.list (A:=X.A.in1) (I.ok.hd hc) _ a (Nat.ne_of_lt hlt) its.toArray,
  ⟨⟨_,Heap.get?_push_size _ rfl,rfl,rfl⟩,hl.push _⟩,λi v s' Q' E' hP hQ=> ?_,λh' tk hk=> ?_⟩
 ·obtain⟨b,e,rfl⟩:=a1l rv i v (by simpa using hP)
  simp only[e,Option.getD_some]at hQ;exact wpAny_truthy_bool hQ
 ·have e:((List.range its.toArray.size).all λi=>(bs[i]?).getD true)=bs.all id:=by
   have:=rv.length;rw[List.length_map]at this;rw[List.size_toArray,<- this];exact PyProof.Rows.LSm.range_all bs
  rw[e];refine⟨.bl _,H,I.kept (t':=tk) λb o e'=>hk b o (λhm=> ?_) (Heap.get?_push_of_some _ e'),rfl,q⟩;rw[List.mem_singleton.mp hm]at e';exact Nat.lt_irrefl _ (Heap.lt_size e')
end
structure cT(P:Program)(w:World)(K:Fg)(mg:Str->Option Value)(af:Heap)(CX:fL)(k:Nat)(x:Str)(ps:List Str)(sp:Sp):Prop where
 ex:∃f fd,gJ P w K mg af CX k f fd ps sp/\mg x=some (.ref f)/\W.keepIn K (.ref f)=true/\jA K fd ps []
section
variable{k:Nat}{E:XK}{p:Pos}{t:TA}
theorem bI(G:cT X.prog X.w X.K X.mg X.base CX k x ps sp)(hr:cR k X.A)(hx:iA CX X E)(ha:PA X (e::es) t)(hg:Gl X x:=by rfl)(hdb:(x==("__debug__":Str))=false:=by decide)
 (he:starEach (e::es) X.env=(false,eval e X.env)::starEach es X.env:=by rfl)(hpl:(backTo pos (starEach es X.env)).any (·.1)=false:=by rfl):PE X (.Call (.Name x p) (e::es) [] pos) (tZ sp [] E t):=by
 obtain⟨f,fd,F,hm,hk,hb⟩:=G.ex;exact a5u F hr hg hm hk hb .nil hx ha hdb he hpl
end
def nI(D:Addr)(Pv:Nat->List V->Hp->Prop)(i:Nat)(ys:List V):VK:=λy H5=>H5 D=some (.lst ys)/\ys.length<sizeLine/\Pv (i+ 1) (ys++ [y]) (upd H5 D (.lst (ys++ [y])))
theorem yB{D:Addr}(Pv:Nat->List V->Hp->Prop)(h0:Pv 0 [] (upd H1 D (.lst [])))
 (hg:∀i ys H,H D=some (.lst ys)->Pv i ys H->(i<n->J.go i H)/\(i=n->J.stop i H))
 (hs:∀i ys H v H',i<n->H D=some (.lst ys)->Pv i ys H->J.yld i H v H'->te (some v::gM cp σ) H' (nI D Pv i ys))
 (hd:∀ys H,H D=some (.lst ys)->Pv n ys H->Q (.ref D) H):pJ cp sN te σ J D Q H1:=by
 refine⟨λi m H=>m=n- i/\i<=n/\∃ys,H D=some (.lst ys)/\Pv i ys H,⟨n,by simp,Nat.zero_le _,[],aG,h0⟩,?_⟩;rintro i m H ⟨rfl,hi,ys,hD,p⟩;by_cases hlt:i<n
 ·refine .inr ⟨(hg i ys H hD p).1 hlt,nI D Pv i ys,λ_=>False,λy H5 ⟨h1,h2,h3⟩=>⟨ys,n- (i+ 1),h1,h2,by omega,rfl,hlt,_,aG,h3⟩,λ_ z=>z.elim,λv H' y=> ?_⟩
  exact hs i ys H v H' hlt hD p y
 ·have e:i=n:=by omega
  subst e;exact .inl ⟨(hg i ys H hD p).2 rfl,hd ys H hD p⟩
theorem a8Y{lo:Int}{D:Addr}(Pv:Nat->List V->Hp->Prop)(h0:Pv 0 [] (upd H1 D (.lst [])))
 (hs:∀i ys H,i<n->H D=some (.lst ys)->Pv i ys H->te (some (.int (lo+ i))::gM cp σ) H (nI D Pv i ys))
 (hd:∀ys H,H D=some (.lst ys)->Pv n ys H->Q (.ref D) H):pJ cp sN te σ (mM lo n) D Q H1:=
 yB (n:=n) Pv h0 (λi ys H _ _=>⟨λh=>h,λh=>by subst h;exact Nat.le_refl _⟩) (λi ys H v H' hi hD p y=>by
  obtain⟨e,rfl⟩:=y;subst e
  exact hs i ys _ hi hD p) hd
theorem b0o{D:Addr}(Pv:Nat->List V->Hp->Prop)(h0:Pv 0 [] (upd H1 D (.lst [])))
 (hs:∀i c ys H,x.cps[i]?=some c->H D=some (.lst ys)->Pv i ys H->te (some (.str ⟨#[c]⟩)::gM cp σ) H (nI D Pv i ys))
 (hd:∀ys H,H D=some (.lst ys)->Pv x.cps.size ys H->Q (.ref D) H):pJ cp sN te σ (wA x) D Q H1:=
 yB (n:=x.cps.size) Pv h0 (λi ys H _ _=>⟨λh=>h,λh=>by subst h;exact Nat.le_refl _⟩) (λi ys H v H' hi hD p y=>by
  obtain⟨e,c,hc,rfl⟩:=y;subst e
  exact hs i c ys _ hc hD p) hd
theorem tW{D:Addr}(Pv:Nat->List V->Hp->Prop)(h0:Pv 0 [] (upd H1 D (.lst [])))
 (hl:∀i ys H,H D=some (.lst ys)->Pv i ys H->aU K H a xs)
 (hs:∀i x ys H,xs[i]?=some x->H D=some (.lst ys)->Pv i ys H->te (some x::gM cp σ) H (nI D Pv i ys))
 (hd:∀ys H,H D=some (.lst ys)->Pv xs.length ys H->Q (.ref D) H):pJ cp sN te σ (pI K a) D Q H1:=
 yB (n:=xs.length) Pv h0 (λi ys H hD p=>⟨λh=>⟨xs,xs[i],hl i ys H hD p,by simp[h]⟩,λh=>by subst h;exact⟨xs,hl _ ys H hD p,Nat.le_refl _⟩⟩) (λi ys H v H' hi hD p y=>by
  obtain⟨e,y⟩:=y;subst e
  exact hs i v ys _ (y xs (hl i ys _ hD p)) hD p) hd
inductive Kd where
 |non|bl|int|str|lst|tup|dct
 deriving DecidableEq
def Kd.nm:Kd->String
 | .non=> "NoneType"| .bl=> "bool"| .int=> "int"| .str=> "str"| .lst=> "list"| .tup=> "tuple"| .dct=> "dict"
theorem b0n(K:Fg)(a:Kd):W.kitOne K (.type a.nm) (.type "int")=some (decide (a= .int\/ a= .bl)):=by cases a<;>kernel_rfl
theorem b0T(K:Fg)(a:Kd):W.kitOne K (.type a.nm) (.type "bool")=some (decide (a= .bl)):=by cases a<;>kernel_rfl
theorem a1I(K:Fg)(a:Kd):W.kitOne K (.type a.nm) (.type "str")=some (decide (a= .str)):=by cases a<;>kernel_rfl
theorem wO(K:Fg)(a:Kd):W.kitOne K (.type a.nm) (.type "list")=some (decide (a= .lst)):=by cases a<;>kernel_rfl
theorem a6P(K:Fg)(a:Kd):W.kitOne K (.type a.nm) (.type "tuple")=some (decide (a= .tup)):=by cases a<;>kernel_rfl
theorem b0E(K:Fg)(a:Kd):W.kitOne K (.type a.nm) (.type "dict")=some (decide (a= .dct)):=by cases a<;>kernel_rfl
def fZ:PyData->Kd
 | .none=> .non| .bool _=> .bl| .int _=> .int| .str _=> .str| .list _=> .lst| .tuple _=> .tup| .dict _=> .dct
theorem mB:iC X (.builtin "isinstance") (λxs H Q=>∃x T d k,xs= [x,.ty T] /\Dt X.K H x d/\W.kitOne X.K (.type (fZ d).nm) (.type T)=some k/\Q (.bl k) H):=by
 intro ae s σ H xs us Q I r h;obtain⟨x,T,d,k,rfl,hd,e,q⟩:=h;obtain⟨u,c,rfl,r1,r2⟩:=r.two;cases r2;have fin:∀tk,EP X ae σ Q (.bool k) {s with toks:=tk}:=λtk=>⟨.bl k,H,I.tok tk,rfl,q⟩
 cases hd with
 |non=>cases r1;exact W.kia_one W.kitx_none I.kIn True.intro e (λz=>nomatch z) fin
 |bl b=>cases r1;exact W.kia_one W.kitx_bool I.kIn True.intro e (λz=>nomatch z) fin
 |int i=>obtain⟨t,rfl⟩:=r1;exact W.kia_one W.kitx_int I.kIn True.intro e (λz=>nomatch z) fin
 |str z=>obtain⟨t,rfl⟩:=r1;exact W.kia_one W.kitx_str I.kIn True.intro e (λz=>nomatch z) fin
 |lst hq _=>
  cases r1;obtain⟨its,_,⟨o,n,eo,hc,_,_⟩,_⟩:=I.list hq;exact W.kia_one W.kitx_list I.kIn ⟨o,eo,hc⟩ e (λz=>nomatch z) fin
 |tup hq _=>
  cases r1;obtain⟨its,_,⟨o,eo,hc,_⟩,_⟩:=I.tuple hq;exact W.kia_one W.kitx_tuple I.kIn ⟨o,eo,hc⟩ e (λz=>nomatch z) fin
 |dK ea=>
  cases r1;obtain⟨_,_,vs,_,o,es,ep,h1,h2,_⟩:=I.hok _ _ ea;exact W.kia_one W.kitx_dict I.kIn ⟨o,h1,h2.1⟩ e (λz=>nomatch z) fin
 |dT ea=>
  cases r1;obtain⟨_,_,zs,_,o,es,ep,h1,h2,_⟩:=I.hok _ _ ea;exact W.kia_one W.kitx_dict I.kIn ⟨o,h1,h2.1⟩ e (λz=>nomatch z) fin
theorem uY(kind:ai.kind= .function:=by rfl)(plain:∀y∈ai.names,y.2= .local\/ y.2= .globalImplicit:=by decide)(names:∀y∈ai.names,y.2= .local->ai.names.lookup y.1=some .local:=by decide+kernel):nJ X ai [] [] where
 kind:=kind
 nocell:=λy hy z=>by rcases plain y hy with h|h<;>rw[h]at z<;>cases z
 names:=names
 clos:=closureFor_none λy hy z=>by rcases plain y hy with h|h<;>rw[h]at z<;>cases z
 sub:=λx c e=>by cases e
 has:=λx h=>by
  have hm:∀(k:NameKind),(relabel ai X.env).names.lookup x=some k->k= .local\/ k= .globalImplicit:=λk e=>by
   have m:=PySem.mem_of_lookup e;unfold relabel at m;obtain⟨⟨n,k'⟩,hy,e'⟩:=List.mem_map.mp m;have q:=plain _ hy
   have nf:(k'==NameKind.free)=false:=by rcases q with h|h<;>(have h':k'=_:=h;subst h';rfl)
   simp only[nf,Bool.false_and,Bool.false_eq_true,if_false]at e';have:k'=k:=congrArg (·.2) e';rw[<- this];exact q
  rcases h with h|h
  ·rcases hm _ h with z|z<;>cases z
  ·rcases hm _ h with z|z<;>cases z
 at':=λp hp=>by cases hp
structure dO(K:Fg)(mg:Str->Option Value)(x:Str)(st:Stmt):Prop where
 ex:∃f fd,iU K x x st f fd/\mg x=some (.ref f)
section
theorem eC{osl:Array (Option Value)}{kV:Value}(X:K.In h)(G:h.Ns mainGlobals mg)(a:W.nsIn K mainGlobals x=some (some (.ref f)))
 (l:K.lookup f=some ⟨oc,od,.func (W.fnOf x x (jH st) (dY st) (aS st) .none kV doc pm an ah ct),osl⟩)(c:W.codeIn K ah x=true)(k:W.keepIn K (.ref f)=true):dO K mg x st:=
 ⟨f,_,xU l c k,W.mg_of X G a⟩
theorem dO.known{k:Nat}(D:dO K mg x st)(S:bD N ps (aS st))
 (hb:∀(kV doc pm:Value) (an:Option Addr) (ah ct:Value) (us:List Value),us.length=ps.length->bindArgs (W.fnOf x x (jH st) (dY st) (aS st) .none kV doc pm an ah ct) ⟨us,[]⟩=pure (ps.zip us))
 (hbody:∀(f:Addr) (ah:Value) (A:Around) (ag:List Env) (s:Shared) (H:Hp) (vs:List V) (Q:VK) (E:XK),cR k (A.deeper (envOfC x (aS st) s.heap.objs.size f ah))->sp vs H Q E->
  ∃t,dL (fV aN P w K mg af N x (aS st) f ah A ag s H E).nox (dY st) t/\t {nx:=λ_ H'=>Q .non H',rt:=Q} (fJ N vs) H)
 (len:∀vs H Q E,sp vs H Q E->vs.length=ps.length:=by rintro _ _ _ _ ⟨⟩;subst_vars;rfl):cT P w K mg af aN (k+ 1) x ps sp:=by
 obtain⟨f,fd,F,hm⟩:=D.ex;exact⟨f,fd,F.ok S len λah A ag s H vs Q E hr h=>hbody f ah A ag s H vs Q E hr h,hm,F.kp,F.binds hb⟩
end
theorem aB.new{D:Addr}(h:H D=none):aB H (upd H D o):=λb u e=>by rw[aF (bE e h)];exact e
theorem aB.on{D:Addr}(e:aB H H2)(h:H D=none):aB H (upd H2 D o):=λb u z=>by rw[aF (bE z h)];exact e b u z
abbrev one(c:Nat):Str:=⟨#[c]⟩
theorem xH{α:Type}(xs:List α)(i:Int)(h0:0<=i)(h:i<xs.length):∃v,fE xs i=some v/\xs[i.toNat]?=some v:=by
 have e:i=(i.toNat:Int):=by omega
 have hl:i.toNat<xs.length:=by omega
 generalize i.toNat=j at e hl;subst e;exact⟨_,a4F (List.getElem?_eq_getElem hl),List.getElem?_eq_getElem hl⟩
theorem a6t(ns:List Int)(i:Int)(h0:0<=i)(h:i<ns.length):fE (ns.map V.int) i=some (V.int (ns.getD i.toNat 0)):=by
 have e:i=(i.toNat:Int):=by omega
 have hl:i.toNat<ns.length:=by omega
 generalize i.toNat=j at e hl;subst e;refine a4F ?_;rw[List.getElem?_map,List.getElem?_eq_getElem hl];simp[List.getD,hl]
theorem xB{K:Fg}{H:Hp}:∀zs:List Str,cL K H (zs.map V.str) (zs.map PyData.str)
 | []=> .nil
 |z::r=> .cons (.str z) (xB r)
theorem b0Y{cs:List Nat}(h:∀c∈cs,c<128):PyData.canLay0 (.str ⟨cs.toArray⟩)=true:=by
 have:∀c∈cs,c<1114112:=λc hc=>by have:=h c hc;omega
 simp[PyData.canLay0,PyData.strOk];exact this
theorem sl(h:n<=1000:=by simp):n<=sizeLine:=Nat.le_of_lt (fU h)
theorem a0p:bootBuiltins "all"=some (.builtin "all"):=by kernel_rfl
theorem fR:bootBuiltins "isinstance"=some (.builtin "isinstance"):=by kernel_rfl
theorem a82:bootBuiltins "abs"=some (.builtin "abs"):=by kernel_rfl
theorem fS:bootBuiltins "len"=some (.builtin "len"):=by kernel_rfl
theorem a2S:bootBuiltins "int"=some (.type "int"):=by kernel_rfl
theorem b0e:bootBuiltins "bool"=some (.type "bool"):=by kernel_rfl
theorem a2n:bootBuiltins "str"=some (.type "str"):=by kernel_rfl
theorem jC:bootBuiltins "list"=some (.type "list"):=by kernel_rfl
theorem a4t:bootBuiltins "tuple"=some (.type "tuple"):=by kernel_rfl
theorem b0k:bootBuiltins "dict"=some (.type "dict"):=by kernel_rfl
def pL(h:Heap)(ea T:Addr)(C:Value):Prop:=
 ∃oe vs oT ts,h.get? ea=some oe/\oe.cls=C/\oe.dict=none/\oe.data= .fields vs/\vs[1]?=some (.ref T)/\T≠ea/\h.get? T=some oT/\oT.data= .fields ts/\ts[3]?=some .none
structure lX(fs own:List Addr)(h h':Heap):Prop where
 keep:∀b o,b∉own->b∉fs->h.get? b=some o->h'.get? b=some o
 slot:∀b o,b∉own->h.get? b=some o->∃sl,h'.get? b=some {o with slots:=sl}
theorem a9W(o:Obj)(g:Array Value->Array Value):(o.mapFields g).dict=o.dict:=by
 obtain⟨c,d,dt,sl⟩:=o;cases dt<;>rfl
section
variable{M:Model}{s:Shared}{L ea T:Addr}{C:Value}
theorem a4q{oe:Obj}{vs:Array Value}{head:Value}{hadNext:Bool}{Q:Unit->Shared->Prop}(hfr:A.frames=some (env::ag))(hl:s.heap.FunFrames af (env::ag))(hf:env.frame=some L)
 (he:s.heap.get? ea=some oe)(hdn:oe.dict=none)(hd:oe.data= .fields vs)(hsz:1<vs.size)
 (k:∀h' T',s.heap.objs.size<=T'->pL h' ea T' oe.cls->lX (eT (env::ag)) [ea] s.heap h'->Q () {s with heap:=h'}):
 wpAny M A (do let a<- frameOf env;let pl<- entryPlaceOf L hadNext;let b<- EntryCells.newEntry head a .none (rawInt L) .none pl;setField (.ref ea) 1 b) (λ_ s'=>wpAny M A (setFlight (.ref ea) none) Q E s') E s:=by
 have nfr:ea∉eT (env::ag):=λhm=>by
  obtain⟨_,o,ho,hnf⟩:=hl.mem hm;rw[he]at ho;cases ho;exact hnf vs hd
 refine wpAny_bind (wpAny_frameOf_fun hfr hl hf λg so=> ?_);refine wpAny_bind (wpAny_entryPlaceOf λpl hpl=> ?_);unfold EntryCells.newEntry newFields;refine wpAny_bind (wpAny_newObj_type ?_ (hpl.sizeOk5 _ _ _ _ _))
 have hts:3<([head,.ref L,.none,rawInt L,.none] ++ (if pl.isEmpty then List.replicate 6 Value.none else pl)).toArray.size:=by
  rw[List.size_toArray,List.length_append];exact Nat.lt_of_lt_of_le (by decide:3<5) (Nat.le_add_right _ _)
 generalize ([head,.ref L,.none,rawInt L,.none] ++ (if pl.isEmpty then List.replicate 6 Value.none else pl)).toArray=ts at hts;have g1:g.get? ea=some oe:=(so.2.1 ea nfr).trans he;have gT:g.objs.size=s.heap.objs.size:=so.1;have neT:g.objs.size≠ea:=Nat.ne_of_gt (Heap.lt_size g1);have g2:=Heap.get?_push_of_some (h:=g) ({cls:=.type "traceback",dict:=none,data:=.fields ts}:Obj) g1;refine wpAny_setField g2 hd hsz ?_;have d3:=Obj.data_mapFields hd (·.setIfInBounds 1 (Value.ref g.objs.size));have g3:=Heap.get?_update_self (Obj.mapFields (·.setIfInBounds 1 (Value.ref g.objs.size))) g2 (Obj.isFreed_of_fields d3);have t3:((g.push ({cls:=.type "traceback",dict:=none,data:=.fields ts}:Obj)).update ea (Obj.mapFields (·.setIfInBounds 1 (Value.ref g.objs.size)))).get? g.objs.size=some {cls:=.type "traceback",dict:=none,data:=.fields ts}:=
  (Heap.get?_update_other _ _ (Ne.symm neT)).trans (Heap.get?_push_size g rfl)
 unfold setFlight;refine wpAny_bind (wpAny_field g3 d3 (x:=.ref g.objs.size) (by simp[hsz]) ?_);rw[if_pos (show(Value.ref g.objs.size !=Value.none)=true from by simp)];refine wpAny_setField t3 rfl hts ?_;have d4:=Obj.data_mapFields (o:=({cls:=.type "traceback",dict:=none,data:=.fields ts}:Obj)) (vs:=ts) rfl (·.setIfInBounds 3 ((none:Option Addr).elim Value.none λf=>rawInt f));refine k _ g.objs.size (by rw[gT];exact Nat.le_refl _) ⟨_,_,_,_,(Heap.get?_update_other _ _ neT).trans g3,Obj.cls_mapFields _ _,(a9W _ _).trans hdn,d3,by simp[hsz],neT,Heap.get?_update_self _ t3 (Obj.isFreed_of_fields d4),d4,by simp[hts]⟩ ?_;have up:∀b o,b≠ea->g.get? b=some o->(((g.push ({cls:=.type "traceback",dict:=none,data:=.fields ts}:Obj)).update ea (Obj.mapFields (·.setIfInBounds 1 (Value.ref g.objs.size)))).update g.objs.size (Obj.mapFields (·.setIfInBounds 3 ((none:Option Addr).elim Value.none λf=>rawInt f)))).get? b=some o:=λb o nb hb=>
  (Heap.get?_update_other _ _ (Nat.ne_of_gt (Heap.lt_size hb))).trans ((Heap.get?_update_other _ _ (Ne.symm nb)).trans (Heap.get?_push_of_some _ hb))
 refine⟨λb o nb nf hb=>up b o (λz=>nb (by simp[z])) ((so.2.1 b nf).trans hb),λb o nb hb=> ?_⟩;obtain⟨sl,hs⟩:=so.2.2 b o hb;exact⟨sl,up b _ (λz=>nb (by simp[z])) hs⟩
theorem a8h{oe:Obj}{vs:Array Value}{Q:Unit->Shared->Prop}(hfr:A.frames=some (env::ag))(hl:s.heap.FunFrames af (env::ag))(hf:env.frame=some L)
 (he:s.heap.get? ea=some oe)(hdn:oe.dict=none)(hd:oe.data= .fields vs)(h1:vs[1]?=some .none)
 (k:∀h' T',s.heap.objs.size<=T'->pL h' ea T' oe.cls->lX (eT (env::ag)) [ea] s.heap h'->Q () {s with heap:=h'}):wpAny M A (leaving env (.ref ea)) Q E s:=by
 unfold leaving noteFrame;simp only[hf];refine wpAny_bind (wpAny_bind (wpAny_field he hd h1 ?_));rw[if_neg (by decide)];exact a4q hfr hl hf he hdn hd (Array.getElem?_eq_some_iff.mp h1).1 k
theorem a0L{Q:Unit->Shared->Prop}(hfr:A.frames=some (env::ag))(hl:s.heap.FunFrames af (env::ag))(hf:env.frame=some L)(hx:pL s.heap ea T C)
 (k:∀h' T',s.heap.objs.size<=T'->pL h' ea T' C->lX (eT (env::ag)) [ea,T] s.heap h'->Q () {s with heap:=h'}):
 wpAny M A (noteFrame (.ref ea) env) (λ_ s'=>wpAny M A (setFlight (.ref ea) none) Q E s') E s:=by
 obtain⟨oe,vs,oT,ts,he,hc,hdn,hd,h1,hTe,hT,hdT,h3⟩:=hx;subst hc;unfold noteFrame;simp only[hf];refine wpAny_bind (wpAny_field he hd h1 ?_);rw[if_pos (show(Value.ref T !=Value.none)=true from by simp)];refine wpAny_bind (wpAny_field hT hdT h3 ?_);rw[if_neg (show¬((Value.none==rawInt L)=true) from by simp[rawInt])];refine wpAny_bind (wpAny_setField hT hdT (Array.getElem?_eq_some_iff.mp h3).1 ?_);have far:∀b,b≠T->(s.heap.update T (Obj.mapFields (·.setIfInBounds 3 Value.none))).get? b=s.heap.get? b:=λb nb=>Heap.get?_update_other _ _ (Ne.symm nb)
 have nT:T∉eT (env::ag):=λhm=>by
  obtain⟨_,o,ho,hnf⟩:=hl.mem hm;rw[hT]at ho;cases ho;exact hnf ts hdT
 have hl2:(s.heap.update T (Obj.mapFields (·.setIfInBounds 3 Value.none))).FunFrames af (env::ag):=hl.of_keeps λb o hb hnf=>⟨o,(far b λz=>by
  rw[z,hT]at hb;cases hb
  exact hnf ts hdT).trans hb,rfl⟩
 refine a4q (s:={s with heap:=s.heap.update T (Obj.mapFields (·.setIfInBounds 3 Value.none))}) hfr hl2 hf ((far ea (Ne.symm hTe)).trans he) hdn hd (Array.getElem?_eq_some_iff.mp h1).1 λh' T' hT' hfly hflew=> ?_
 refine k h' T' (by simpa using hT') hfly ⟨λb o nb nf hb=>hflew.keep b o (λz=>nb (by simp at z;simp[z])) nf ((far b λz=>nb (by simp[z])).trans hb),λb o nb hb=>hflew.slot b o (λz=>nb (by simp at z;simp[z])) ((far b λz=>nb (by simp[z])).trans hb)⟩
end
theorem cX.there(x:cX P w H h a o):∃ob,h.get? a=some ob:=by
 cases o with
 |lst xs=>obtain⟨_,_,_,_,e⟩:=x;exact⟨_,e⟩
 |tup xs=>obtain⟨_,_,_,o,e,_⟩:=x;exact⟨_,e⟩
 |dK kvs=>obtain⟨_,_,_,_,o,_,_,e,_⟩:=x;exact⟨_,e⟩
 |dT kvs=>obtain⟨_,_,_,_,o,_,_,e,_⟩:=x;exact⟨_,e⟩
 |set S n=>obtain⟨o,_,_,_,e,_⟩:=x;exact⟨_,e⟩
 |ins C dx fs=>obtain⟨_,_,_,e,_⟩:=x;exact⟨_,e⟩
 |own y=>exact x
 |xd fs=>obtain⟨_,⟨_,_,_,e,_⟩,_⟩:=x;exact⟨_,e⟩
 |rng lo hi=>obtain⟨_,_,_,e⟩:=x;exact⟨_,e⟩
 |frz ob u=>obtain⟨e,_⟩:=x;exact⟨_,e⟩
 |tbl ps=>exact⟨_,x⟩
 |met f y=>exact⟨_,x⟩
 |ext φ=>obtain⟨_,e,_⟩:=x;exact e
def bV(P:Program)(w:World):fL:=λag H s E e s'=>∃(ea T:Addr) (C:Value) (H':Hp),e= .ref ea/\s'.os=s.os/\AllBare s'.gens/\Un (eT ag) [] H H' s.heap s'.heap/\dN P w H' s'.heap/\
 pL s'.heap ea T C/\s.heap.get? ea=none/\s.heap.get? T=none/\H' ea=none/\H' T=none/\E C none H'
section
variable{s:Shared}{E:XK}
abbrev dW(P:Program)(w:World)(K:Fg)(mg:Str->Option Value)(af:Heap)(N:List Str)(qual:Str)(ai:Scope)(f:Addr)(cd:Value)(A:Around)(ag:List Env)(s:Shared)(H:Hp)(E:XK):Cx:=fV (bV P w) P w K mg af N qual ai f cd A ag s H E
theorem lX.un{fs:List Addr}{h0 h2:Heap}{L:Addr}{os:List Addr}(u:Un os [] H0 H2 h0 h2)(fl:lX fs own h2 h3)(hfs:∀b∈fs,b=L\/ b∈os)(hL:h0.objs.size<=L)(hown:∀b∈own,h0.get? b=none):Un os [] H0 H2 h0 h3:=by
 have no:∀b o,h0.get? b=some o->b∉own:=λb o e z=>by rw[hown b z]at e;cases e
 have nL:∀b o,h0.get? b=some o->b≠L:=λb o e=>Nat.ne_of_lt (Nat.lt_of_lt_of_le (Heap.lt_size e) hL)
 refine⟨λb o e n hb hx=>fl.keep b o (no b o e) (λz=>(hfs b z).elim (nL b o e) hb) (u.keep b o e n hb hx),λb o e n hb hx=> ?_,u.free,λb o e hx=> ?_,u.tups,u.frzs,u.tbls⟩
 ·obtain⟨sl,e1⟩:=u.slot b o e n hb hx
  obtain⟨sl',e2⟩:=fl.slot b _ (no b o e) e1;exact⟨sl',e2⟩
 ·obtain⟨o',e1⟩:=u.there b o e hx
  obtain⟨sl',e2⟩:=fl.slot b _ (no b o e) e1;exact⟨_,e2⟩
theorem lX.hok{fs:List Addr}{h2:Heap}(x:dN P w H2 h2)(fl:lX fs own h2 h3)(hfs:∀b∈fs,H2 b=none)(hown:∀b∈own,H2 b=none):dN P w H2 h3:=λb o e=>
 (x b o e).stay (λc u hc q=>fl.keep c u (λz=>by
  rcases hc with rfl|hc
  ·rw[hown _ z]at e;cases e
  ·rw[hown _ z]at hc;cases hc) (λz=>by
  rcases hc with rfl|hc
  ·rw[hfs _ z]at e;cases e
  ·rw[hfs _ z]at hc;cases hc) q) (λ_ q=>q) λ_ _ q=>q
theorem a1z{s2:Shared}{ea T3:Addr}{C:Value}(I2:aE (dW P w K mg af N qual ai f cd A ag s H E) ae σ H2 s2)(fly:pL h3 ea T3 C)
 (fl:lX (eT ((dW P w K mg af N qual ai f cd A ag s H E).env::ag)) own s2.heap h3)(hown:∀b∈own,s.heap.get? b=none/\H2 b=none)(hea:s.heap.get? ea=none/\H2 ea=none)(hT:s2.heap.objs.size<=T3)(q:E C none H2):
 bV P w ag H s E (.ref ea) {s2 with heap:=h3}:=by
 have B:Un (eT ag) [] H H2 s.heap s2.heap:=I2.base;have hfs:∀b∈eT ((dW P w K mg af N qual ai f cd A ag s H E).env::ag),b=(dW P w K mg af N qual ai f cd A ag s H E).env.locals\/ b∈(eT ag):=λb hb=>List.mem_cons.mp (I2.stkSub b hb)
 refine⟨ea,T3,C,H2,rfl,I2.os,I2.bare,fl.un B hfs (Nat.le_refl _) (λb hb=>(hown b hb).1),fl.hok I2.hok (λb hb=>I2.stkFree b hb) (λb hb=>(hown b hb).2),fly,hea.1,?_,hea.2,I2.hok.fresh hT,q⟩;exact Heap.get?_none_of_le (Nat.le_trans I2.sz hT)
theorem cG:iA (bV P w) (dW P w K mg af N qual ai f cd A ag s H E) E:=by
 intro ae σ H1 s1 e s2 I hq;obtain⟨ea,T,C,H2,rfl,os,bare,un,hok,fly,n1,n2,f1,f2,q⟩:=hq;have I2:aE (dW P w K mg af N qual ai f cd A ag s H E) ae σ H2 s2:=I.call' os un hok bare (λb z=>absurd z (by simp));have old:∀b,s1.heap.get? b=none->s.heap.get? b=none:=λb e=>by
  cases z:s.heap.get? b with
  |none=>rfl
  |some o=>
   obtain⟨o',e'⟩:=I.base.there b o z (by intro hz;cases hz);rw[e]at e';cases e'
 show wpAny (model P w) (dW P w K mg af N qual ai f cd A ag s H E).A (leaving (dW P w K mg af N qual ai f cd A ag s H E).env (.ref ea)) _ _ s2;unfold leaving;refine wpAny_bind (a0L (af:=af) I.ok.frames I2.stack rfl fly λh3 T3 hT3 fly3 flew=> ?_);refine a1z I2 fly3 flew (λb hb=> ?_) ⟨old ea n1,f1⟩ hT3 q;simp only[List.mem_cons,List.not_mem_nil,or_false]at hb
 rcases hb with rfl|rfl
 ·exact⟨old _ n1,f1⟩
 ·exact⟨old _ n2,f2⟩
end
abbrev lS:List Value:=[.type "ValueError",.type "Exception",.type "BaseException",.type "object"]
theorem a90{bmB:List Value}{newId:String}(X:K.In h)(hm:mg x=some (.ref C))(q:W.excIn K C bmB newId=true):OwnCls x C bmB newId mg h:=by
 refine⟨hm,?_⟩;unfold W.excIn at q;split at q
 ·rename_i dd cdt sl ho
  split at q
  ·rename_i C' bm k0 k1 k2 k3 n k5 hmr hs
   simp only[Bool.and_eq_true,beq_iff_eq,Bool.not_eq_true']at q;obtain⟨⟨⟨⟨⟨q1,q2⟩,q3⟩,q4⟩,q5⟩,q6⟩:=q;subst q1 q2;obtain⟨nm,bs,mro,ns,qn,hd,sn,sub,ab,col,del⟩:=cdt;obtain⟨l⟩:=sl;dsimp only at hmr hs q3 q5 q6;subst hmr hs q3;exact⟨bm,ns,nm,qn,bs,hd,sn,sub,ab,col,dd,k0,k1,k2,k3,k5,_,X _ _ ho,.of_isNs (W.isNs_of_in X q5),W.nsMap_none_of_in X q5 q6,W.tail_of_in X q4⟩
  ·cases q
 ·cases q
section
variable{s:Shared}{E:XK}
inductive a2f(E:XK)(C:Addr)(vs:List V)(H1:Hp):Prop
 |mk:(vs.length<=sizeLine)->(E (.ref C) none H1)->a2f E C vs H1
def a8t(E:XK)(C:Addr)(ta:TA):TS:=λ_ σ H=>ta σ H (a2f E C)
theorem gX{np cpos:Pos}(hm:mg x=some (.ref C))(hq:W.excIn K C lS "ValueError.__new__"=true)(ha:PA (dW P w K mg af N qual ai f cd A ag s H E) (e::es) ta)
 (hg:Gl (dW P w K mg af N qual ai f cd A ag s H E) x:=by rfl)(hdb:(x==("__debug__":Str))=false:=by decide)
 (he:starEach (e::es) (dW P w K mg af N qual ai f cd A ag s H E).env=(false,eval e (dW P w K mg af N qual ai f cd A ag s H E).env)::starEach es (dW P w K mg af N qual ai f cd A ag s H E).env:=by rfl)
 (hpl:(backTo cpos (starEach es (dW P w K mg af N qual ai f cd A ag s H E).env)).any (·.1)=false:=by rfl):
 PS (dW P w K mg af N qual ai f cd A ag s H E) (.Raise (some (.Call (.Name x np) (e::es) [] cpos)) none pos) (a8t E C ta):=by
 intro ae s1 σ H1 D I h;have O:=a90 I.ok.mod.kin hm hq;obtain⟨tl,Nn,nm,q,bs,hdct,sn,sub,ab,col,dd,k0,k1,k2,k3,k5,mN,hC,hN,hni,TT'⟩:=O.obj;refine wpAny_Raise_call_subT (C:=C) (nm:=nm) (q:=q) (N:=Nn) (bs:=bs) (bm:=tl) (hdct:=hdct) (sn:=sn) (sub:=sub) (ab:=ab) (col:=col) (dd:=dd) (k0:=k0) (k1:=k1) (k2:=k2) (k3:=k3) (k5:=k5)
  F.excBase_ValueError (mN:=mN) (TT'.hasType F.excBase_ValueError.hasBase) (I.ok.hd rfl) ?_ hni ?_
 ·rw[he]
  show(false||(backTo cpos (starEach es _)).any (·.1))=false;rw[hpl];rfl
 refine oN I hg hm ⟨rfl,?_⟩ hdb;have hA:=ha cpos ae s1 σ H1 _ I h
 rw[he]at hA|-
 refine Calls.evalArgs_plain (aV hA λus s2 ⟨vs,H2,I2,r2,hl2,q2⟩=>⟨rfl,by rw[<- r2.length];exact hl2,I2.bk _ _ hC,hN.keeps I2.bk,TT'.keeps I2.bk,λh' ea hmade=> ?_⟩);have I3:aE (dW P w K mg af N qual ai f cd A ag s H E) ae σ H2 {s2 with heap:=h'}:=I2.kept (t':=s2.toks) hmade.keeps;obtain⟨t,ht,_,_⟩:=hmade.there
 have old:s.heap.get? ea=none:=by
  cases z:s.heap.get? ea with
  |none=>rfl
  |some o=>
   obtain⟨o',e'⟩:=I2.base.there ea o z (by intro hz;cases hz);rw[hmade.new]at e';cases e'
 have fr:H2 ea=none:=by
  cases z:H2 ea with
  |none=>rfl
  |some o=>
   obtain⟨oo,e'⟩:=(I2.hok ea o z).there;rw[hmade.new]at e';cases e'
 show wpAny (model P w) (dW P w K mg af N qual ai f cd A ag s H E).A (leaving (dW P w K mg af N qual ai f cd A ag s H E).env (.ref ea)) _ _ {s2 with heap:=h'};refine a8h (s:={s2 with heap:=h'}) (af:=af) I.ok.frames I3.stack rfl ht rfl rfl rfl λh3 T3 hT3 fly flew=> ?_
 refine a1z I3 fly flew (λb hb=> ?_) ⟨old,fr⟩ hT3 q2;simp only[List.mem_cons,List.not_mem_nil,or_false]at hb;subst hb;exact⟨old,fr⟩
theorem iU.okE{k:Nat}(F:iU K x qual st f fd)(S:bD N ps (aS st))(len:∀vs H Q E,sp vs H Q E->vs.length=ps.length)
 (hbody:∀(ah:Value) (A:Around) (ag:List Env) (s:Shared) (H:Hp) (vs:List V) (Q:VK) (E:XK),cR k (A.deeper (envOfC qual (aS st) s.heap.objs.size f ah))->sp vs H Q E->
  ∃t,dL (dW P w K mg af N qual (aS st) f ah A ag s H E) (dY st) t/\t {nx:=λ_ H'=>Q .non H',rt:=Q} (fJ N vs) H):gJ P w K mg af (bV P w) (k+ 1) f fd ps sp:=by
 obtain⟨oc,od,kV,doc,pm,an,ah,ct,osl,rfl,lk,hcd⟩:=F.ex;exact a0t lk hcd S len λA ag s H vs Q E hr hsp=>hbody ah A ag s H vs Q E hr hsp
theorem dO.knownE{k:Nat}(D:dO K mg x st)(S:bD N ps (aS st))
 (hb:∀(kV doc pm:Value) (an:Option Addr) (ah ct:Value) (us:List Value),us.length=ps.length->bindArgs (W.fnOf x x (jH st) (dY st) (aS st) .none kV doc pm an ah ct) ⟨us,[]⟩=pure (ps.zip us))
 (len:∀vs H Q E,sp vs H Q E->vs.length=ps.length)
 (hbody:∀(f:Addr) (ah:Value) (A:Around) (ag:List Env) (s:Shared) (H:Hp) (vs:List V) (Q:VK) (E:XK),cR k (A.deeper (envOfC x (aS st) s.heap.objs.size f ah))->sp vs H Q E->
  ∃t,dL (dW P w K mg af N x (aS st) f ah A ag s H E) (dY st) t/\t {nx:=λ_ H'=>Q .non H',rt:=Q} (fJ N vs) H):cT P w K mg af (bV P w) (k+ 1) x ps sp:=by
 obtain⟨f,fd,F,hm⟩:=D.ex;exact⟨f,fd,F.okE S len λah A ag s H vs Q E hr h=>hbody f ah A ag s H vs Q E hr h,hm,F.kp,F.binds hb⟩
end
noncomputable def mG (ea:Addr) (C:Value):HO:=.ext λh=>∃o,h.get? ea=some o/\o.cls=C/\o.dict=none/\W.notCls o=true
section
variable{s:Shared}
theorem aE.flew{t':Nat}(I:aE X ae σ H s)(fl:lX (eT X.stack) own s.heap h3)
 (hown:∀b∈own,X.s₀.heap.get? b=none/\H b=none/\b≠X.env.locals/\(∀x c,X.env.cells.lookup x=some c->c≠b)/\∀p∈X.pn++ ae,p.1≠b):aE X ae σ H {s with heap:=h3,toks:=t'}:=by
 have no:∀b o,X.s₀.heap.get? b=some o->b∉own:=λb o e z=>by rw[(hown b z).1]at e;cases e
 have nL:∀b o,X.s₀.heap.get? b=some o->b≠X.env.locals:=λb o e=>Nat.ne_of_lt (Nat.lt_of_lt_of_le (Heap.lt_size e) I.ok.above)
 have dH:∀x c,X.env.cells.lookup x=some c->∀v,s.heap.IsCell c v->h3.IsCell c v:=λx c e v ⟨o,ho,hd⟩=>by
  obtain⟨sl,q⟩:=fl.slot c o (λz=>(hown c z).2.2.2.1 x c e rfl) ho;exact⟨_,q,hd⟩
 refine⟨I.ok,I.os,I.bare,⟨λb o e n hb hx=> ?_,λb o e n hb hx=> ?_,I.base.free,λb o e hx=> ?_,I.base.tups,I.base.frzs,I.base.tbls⟩,?_,λx c e=> ?_,I.free,I.freeC,λp hp=> ?_,fl.hok I.hok (λb hb=>I.stkFree b hb) (λb hb=>(hown b hb).2.1),I.len⟩
 ·exact fl.keep b o (no b o e) (λz=>(List.mem_cons.mp (I.stkSub b z)).elim (nL b o e) hb) (I.base.keep b o e n hb hx)
 ·obtain⟨sl,e1⟩:=I.base.slot b o e n hb hx
  obtain⟨sl',e2⟩:=fl.slot b _ (no b o e) e1;exact⟨sl',e2⟩
 ·obtain⟨o',e1⟩:=I.base.there b o e hx
  obtain⟨sl',e2⟩:=fl.slot b _ (no b o e) e1;exact⟨_,e2⟩
 ·obtain⟨m,⟨o,es,ep,ho,r⟩,hl⟩:=I.loc
  obtain⟨sl,hL⟩:=fl.slot _ o (λz=>(hown _ z).2.2.1 rfl) ho;refine⟨m,⟨_,es,ep,hL,r⟩,λi x v e1 e2 e3=> ?_⟩;obtain⟨u,rv,l⟩:=hl i x v e1 e2 e3;refine⟨u,rv,?_⟩
  rcases l with l|⟨k,c,e,z⟩
  ·exact .inl l
  ·exact .inr ⟨k,c,e,dH x c e _ z⟩
 ·obtain⟨v,z⟩:=I.cell x c e
  exact⟨v,dH x c e v z⟩
 ·obtain⟨e,n,ne,nf,d⟩:=I.pin p hp
  exact⟨fl.keep _ _ (λz=>(hown _ z).2.2.2.2 p hp rfl) (λz=>(List.mem_cons.mp (I.stkSub _ z)).elim ne nf) e,n,ne,nf,d⟩
theorem aE.adopt(I:aE X ae σ H s)(hn:H a=none)(h0:X.s₀.heap.get? a=none)(hL:a≠X.env.locals)(hc:∀x c,X.env.cells.lookup x=some c->c≠a)(hp:∀p∈X.pn++ ae,p.1≠a)
 (new:cX X.prog X.w (upd H a o) s.heap a o):aE X ae σ (upd H a o) s:=by
 have ne:∀b u,H b=some u->b≠a:=λb u e=>bE e hn
 refine⟨I.ok,I.os,I.bare,⟨I.base.keep,I.base.slot,λb u e n hx=> ?_,I.base.there,λb xs e=> ?_,λb u xs e=> ?_,λb ps e=> ?_⟩,I.loc,I.cell,?_,λx c e=> ?_,λp hq=> ?_,λb u e=> ?_,I.len⟩
 ·rw[aF (λz=>by rw[z,h0]at e;cases e)]
  exact I.base.free b u e n hx
 ·have q:=I.base.tups b xs e
  rw[aF (ne _ _ q)];exact q
 ·have q:=I.base.frzs b u xs e
  rw[aF (ne _ _ q)];exact q
 ·obtain⟨more,q⟩:=I.base.tbls b ps e
  exact⟨more,by rw[aF (ne _ _ q)];exact q⟩
 ·rw[aF (Ne.symm hL)]
  exact I.free
 ·rw[aF (hc x c e)]
  exact I.freeC x c e
 ·obtain⟨e,n,r⟩:=I.pin p hq
  exact⟨e,by rw[aF (hp p hq)];exact n,r⟩
 ·by_cases hb:b=a
  ·subst hb
   rw[aG]at e;cases e;exact new
  ·rw[aF hb]at e
   exact(I.hok b u e).stay (λ_ _ _ q=>q) (λc q=>by rw[aF (ne _ _ q)];exact q) λc xs q=>by rw[aF (ne _ _ q)];exact q
theorem aE.unname{n:Str}{m:Str->Option Value}{v:Option Value}{t':Nat}(I:aE X ae σ H s)(hN:X.N.Nodup)(hj:X.N[j]?=some n)(hm:s.heap.Ns X.env.locals m)
 (hl:∀(i:Nat) (x:Str) (v:V),X.N[i]?=some x->σ[i]?=some (some v)->wR X.env.scope x->∃u,bQ v u/\Look X.env s.heap m x u)(hn:h'.Ns X.env.locals (λx=>if x=n then v else m x))(sb:Heap.SameBut X.env.locals s.heap h'):
 aE X ae (σ.set j none) H {s with heap:=h',toks:=t'}:=by
 have hjσ:j<σ.length:=by rw[I.len];exact(List.getElem?_eq_some_iff.mp hj).1
 have nL:∀b o,X.s₀.heap.get? b=some o->b≠X.env.locals:=λb o e=>Nat.ne_of_lt (Nat.lt_of_lt_of_le (Heap.lt_size e) I.ok.above)
 refine⟨I.ok,I.os,I.bare,⟨λb o e n hb hx=>(sb.2 b (nL b o e)).trans (I.base.keep b o e n hb hx),λb o e n hb hx=> ?_,I.base.free,λb o e hx=> ?_,I.base.tups,I.base.frzs,I.base.tbls⟩,⟨_,hn,λi y w' e1 e2 e3=> ?_⟩,λy c e=> ?_,I.free,I.freeC,λp hp=> ?_,λb ob e=> ?_,by simpa using I.len⟩
 ·obtain⟨sl,e1⟩:=I.base.slot b o e n hb hx
  exact⟨sl,(sb.2 b (nL b o e)).trans e1⟩
 ·obtain⟨o',e1⟩:=I.base.there b o e hx
  exact⟨o',(sb.2 b (nL b o e)).trans e1⟩
 ·by_cases hi:i=j
  ·subst hi
   rw[List.getElem?_set_self hjσ]at e2;cases e2
  ·rw[List.getElem?_set_ne (Ne.symm hi)]at e2
   obtain⟨u,r,q⟩:=hl i y w' e1 e2 e3;refine⟨u,r,?_⟩
   rcases q with⟨k,e⟩|⟨k,c,e,z⟩
   ·refine .inl ⟨k,?_⟩
    have:y≠n:=λe=>hi (yC hN e1 (e▸hj))
    simp[this,e]
   ·exact .inr ⟨k,c,e,z.sameBut sb (I.cne y c e)⟩
 ·obtain⟨v',z⟩:=I.cell y c e
  exact⟨v',z.sameBut sb (I.cne y c e)⟩
 ·obtain⟨e,n,ne,nf,d⟩:=I.pin p hp
  exact⟨(sb.2 p.1 ne).trans e,n,ne,nf,d⟩
 ·obtain⟨oL,_,_,hoL,_⟩:=id hm
  refine(I.hok b ob e).stay (λc w' hc q=>(sb.2 c ?_).trans q) (λ_ q=>q) λ_ _ q=>q
  rintro rfl
  rcases hc with rfl|hc
  ·rw[I.free]at e;cases e
  ·rw[I.free]at hc;cases hc
end
abbrev Cx.inEx(X:Cx)(ea:Addr):Cx:={X with A:=X.A.mark (some (.ref ea)),calm:=false,xe:=λ_ _=>False}
abbrev Cx.pinned(X:Cx)(pn:List (Addr×Obj))(E1:Value->Shared->Prop):Cx:={X with pn:=pn,xe:=E1}
section
variable{s:Shared}
theorem aE.inEx(I:aE X ae σ H s)(ea:Addr):aE (X.inEx ea) ae σ H s:=
 ⟨⟨I.ok.mod,I.ok.kind,I.ok.glob,I.ok.blt,I.ok.above,I.ok.inj,I.ok.has,I.ok.cab,λz=>Bool.noConfusion z,I.ok.frames,I.ok.stk,I.ok.exf,I.ok.bs,I.ok.bsz,I.ok.noex,I.ok.exfs,I.ok.funs,I.ok.frf⟩,I.os,I.bare,I.base,I.loc,I.cell,I.free,I.freeC,I.pin,I.hok,I.len⟩
theorem aE.outEx{ea:Addr}(ok:X.Ok)(I:aE (X.inEx ea) ae σ H s):aE X ae σ H s:=⟨ok,I.os,I.bare,I.base,I.loc,I.cell,I.free,I.freeC,I.pin,I.hok,I.len⟩
theorem aE.pinnedIn(I:aE X ae σ H s)(E1:Value->Shared->Prop):aE (X.pinned (X.pn++ ae) E1) [] σ H s:=
 ⟨⟨I.ok.mod,I.ok.kind,I.ok.glob,I.ok.blt,I.ok.above,I.ok.inj,I.ok.has,I.ok.cab,I.ok.hd,I.ok.frames,I.ok.stk,I.ok.exf,I.ok.bs,I.ok.bsz,I.ok.noex,I.ok.exfs,I.ok.funs,I.ok.frf⟩,I.os,I.bare,I.base,I.loc,I.cell,I.free,I.freeC,
   λp hp=>I.pin p (by simpa using hp),I.hok,I.len⟩
theorem aE.pinnedOut{pins':List (Addr×Obj)}{E1:Value->Shared->Prop}(ok:X.Ok)(I:aE (X.pinned (X.pn++ ae) E1) pins' σ H s):aE X ae σ H s:=
 ⟨ok,I.os,I.bare,I.base,I.loc,I.cell,I.free,I.freeC,λp hp=>I.pin p (List.mem_append_left _ hp),I.hok,I.len⟩
end
noncomputable def eG.less (D:eG) (j:Nat):eG where
 nx:=λσ H=>D.nx (σ.set j none) H
 rt:=D.rt
 bk:=λσ H=>D.bk (σ.set j none) H
 ct:=λσ H=>D.ct (σ.set j none) H
structure iS(K:Fg)(C:Addr):Prop where
 hga:W.findIn K (.ref C) "__getattribute__"=some (some (.builtin "BaseException.__getattribute__"))
 hk:W.findIn K (.ref C) "__getattr__"=some none
 hc:∃cd,W.clsIn K C=some cd
 ha:W.findIn K (.ref C) "__class__"=some (some (.builtin "object.__class__"))
 hn:W.specialIn K (.builtin "object.__class__") "__get__"=some (some (.builtin "getset_descriptor.__get__"))
 ht:W.takesIn K (.builtin "object.__class__")=some true
 hm:W.mroIn K C (.type "object")=some true
 hb:W.mroIn K C (.type "BaseException")=some true
theorem a9u{s:Shared}{x:Addr}{ox:Obj}{Q:Option Value->Shared->Prop}(k:iS K C)(X:K.In s.heap)(I:W.InstAt s.heap x ox C none)
 (h:Q (some (.ref C)) {s with toks:=s.toks+ 1}):wpAny (model prog w) A (getAttr? (.ref x) "__class__") Q E s:=by
 obtain⟨hh,g,d,t,os⟩:=s;obtain⟨cd,hc⟩:=k.hc
 have hf:W.findObj K C none "__class__"=some (.bind (.builtin "getset_descriptor.__get__") (.builtin "object.__class__")):=by
  show(W.clsIn K C).bind _=_;rw[hc,Option.bind_some,k.ha,Option.bind_some];simp[k.hn,k.ht]
 have L0:=I.type (M:=model prog w);have L1:=W.looks_findIn (M:=model prog w) X k.hga;have L2:=W.looks_findIn (M:=model prog w) X k.hk;have L3:=W.looks_mroIn (M:=model prog w) X k.hb;have L4:=W.looks_find (M:=model prog w) X I hf;unfold getAttr? getAttrBy? getAttrBy;refine wpAny_bind (wpAny_mkText (wpAny_bind (wpAny_attempt (wpAny_holding (wpAny_bind (L0.at (wpAny_bind (L1.at ?_))))))));show wpAny _ _ (getAttrByItsOwn _ _ _ _ _ _) _ _ _;unfold getAttrByItsOwn;refine wpAny_bind ?_;show wpAny _ _ (typeLookup (.ref C) "__getattr__") _ _ _;refine L2.at (wpAny_bind (wpAny_attempt (wpAny_holding ?_)));show wpAny _ _ (boundAndCalled _ _ _) _ _ _;unfold boundAndCalled;rw[F.excAttr_ValueError.ga.bind (.ref x)];refine wpAny_bind (wpAny_pure (wpAny_call ?_));refine codeAny_call_builtin F.excAttr_ValueError.ga.plain F.entry_bexc_ga ?_
 have hk:builtinKind "BaseException.__getattribute__"=some .slot:=by decide+kernel
 have hsp:splitId "BaseException.__getattribute__"=some ("BaseException","__getattribute__"):=by decide+kernel
 have L5:W.Looks (model prog w) hh (isInstance (.ref x) (.type "BaseException")) true:=L0.andThen L3;have ha:=F.args_bexc_ga (.ref x) (.str "__class__" t)
 have key:∀(Q2:Unit->Shared->Prop) (E2:Value->Shared->Prop) (A2:Around),Q2 () ⟨hh,g,d,t+ 1,os⟩ ->wpAny (model prog w) A2 (checkBuiltinCall "BaseException.__getattribute__" ⟨[.ref x,.str "__class__" t],[]⟩) Q2 E2 ⟨hh,g,d,t+ 1,os⟩:=by
  intro Q2 E2 A2 q;have z:= @W.check_slot (model prog w) A2 E2 ⟨hh,g,d,t+ 1,os⟩ _ _ _ (.ref x) [.str "__class__" t] [] Q2 hk hsp L5 ha q;exact z
 refine key _ _ _ ?_;unfold Builtin.«object.__getattribute__»;refine wpAny_bind (wpAny_pure (wpAny_bind (wpAny_pure (wpAny_bind (L0.at (wpAny_bind (L4.at ?_)))))));refine wpAny_bind (wpAny_holding (wpAny_call ?_));exact W.class_get (s:=⟨hh,g,d,t+ 1,os⟩) (ox:=ox) (od:=none) X I k.hm (wpAny_pure (W.handed_on rfl (wpAny_pure h)))
theorem a4l{x:Addr}(k:iS K C):W.KitX K (.ref x) (.ref C) (λh=>∃ox,W.InstAt h x ox C none) where
 ty:=λ_ _ _ ⟨_,I⟩=>I.type
 it:=λ_ _ X _=>by
  obtain⟨cd,hc⟩:=k.hc;unfold W.clsIn at hc;split at hc
  ·rename_i ho
   intro A' Q' E' s' kk q;unfold isType loadHead;exact wpAny_bind (wpAny_loadPart (kk _ _ (X _ _ ho)) (wpAny_pure q))
  ·cases hc
 ne:=λh tp dd its n sl X htp=>by
  obtain⟨cd,hc⟩:=k.hc;refine Bool.eq_false_iff.mpr λq=> ?_
  have e:C=tp:=Value.ref.inj (beq_iff_eq.mp q);subst e;unfold W.clsIn at hc;split at hc
  ·rename_i ho
   have z:=(X _ _ ho).symm.trans htp;cases z
  ·cases hc
 ca:=fun{prog w A E Q s} X ⟨ox,I⟩ h=>a9u k X I h
theorem mH:iC X (.builtin "isinstance") (λxs H Q=>∃ea C D cv k,xs= [.ref ea,D] /\H ea=some (mG ea (.ref C))/\iS X.K C/\((∃D',D= .ref D'/\cv=Value.ref D')\/ ∃T,D= .ty T/\cv=Value.type T)/\W.kitOne X.K (.ref C) cv=some k/\Q (.bl k) H):=by
 intro ae s σ H xs us Q I r h;obtain⟨ea,C,D,cv,k,rfl,hea,hk,hD,e,q⟩:=h;obtain⟨u,c,rfl,r1,r2⟩:=r.two;cases r1;obtain⟨⟨o,h1,h2,h3,h4⟩,_⟩:=I.hok _ _ hea
 have ec:c=cv:=by
  rcases hD with⟨D',rfl,rfl⟩|⟨T,rfl,rfl⟩<;>exact r2
 subst ec;refine W.kia_one (a4l hk) I.kIn ⟨o,h1,h2,h4,?_⟩ e (λz=>nomatch z) λtk=>⟨.bl k,H,I.tok tk,rfl,q⟩
 rw[h3];trivial
theorem zJ:∀{xs:List V} {us:List Value},us.length=xs.length->(∀(j:Nat) (x:V) (u:Value),xs[j]?=some x->us[j]?=some u->bQ x u)->bK xs us
 | [],[],_,_=> .nil
 |x::xs,u::us,hl,h=> .cons (h 0 x u rfl rfl) (zJ (by simpa using hl) λj y v e1 e2=>h (j+ 1) y v (by simpa using e1) (by simpa using e2))
 | [],_::_,hl,_=>by simp at hl
 |_::_,[],hl,_=>by simp at hl
noncomputable def eM (lo:Int) (n:Nat):List V:=(List.range n).map fun(i:Nat)=>V.int (lo+ (i:Int))
theorem xE(lo:Int)(n:Nat):(eM lo n).length=n:=by unfold eM;rw[List.length_map,List.length_range]
section
theorem a0R:iC X (.type "range") (λxs H Q=>∃j:Int,xs= [.int j] /\∀p,H p=none->Q (.ref p) (upd H p (.rng 0 j))):=by
 intro ae s σ H xs us Q I r h;obtain⟨j,rfl,q⟩:=h;obtain⟨u,rfl,t,rfl⟩:=lN r;refine call_range_1 ⟨.ref s.heap.objs.size,_,I.laid (a:=s.heap.objs.size) (o:=.rng 0 j) (λ_ _ q=>Heap.get?_push_of_some _ q) (Nat.le_refl _) ?_,rfl,q _ (I.hok.fresh (Nat.le_refl _))⟩;exact⟨_,_,_,Heap.get?_push_size _ rfl⟩
theorem a1o(hc:X.calm=true):iC X (.type "list") (λxs H Q=>∃p lo hi,xs= [.ref p] /\H p=some (.rng lo hi)/\ -(2^ 62)<=lo/\lo<2^ 62/\ -(2^ 62)<=hi/\hi<2^ 62/\(hi- lo).toNat<=2^ 24/\∀l,H l=none->Q (.ref l) (upd H l (.lst (eM lo (hi- lo).toNat)))):=by
 intro ae s σ H xs us Q I r h;obtain⟨p,lo,hi,rfl,hp,h1,h2,h3,h4,h5,q⟩:=h;obtain⟨u,rfl,rx⟩:=lN r;cases rx;obtain⟨t,u,v,e⟩:=I.hok p _ hp
 have hn:Builtin.Range.rangeSize lo hi 1=((hi- lo).toNat:Int):=by rw[rangeSize_one];split<;>omega
 refine call_list_range (I.ok.hd hc) (show IsRange s.heap p lo hi 1 t u v from e) (small_one h1 h2 h3 h4) hn h5 λh' tk acc c kp hD hI=> ?_
 refine⟨.ref s.heap.objs.size,_,I.laid (t':=tk) (o:=.lst (eM lo (hi- lo).toNat)) kp (Nat.le_refl _) ?_,rfl,q _ (I.hok.fresh (Nat.le_refl _))⟩;refine⟨by rw[xE,sizeLine_eq];exact h5,acc.toList,c,zJ (by rw[xE,Array.length_toList];exact hI.1) λj x u e1 e2=> ?_,by rw[Array.toArray_toList];exact hD⟩;rw[Array.getElem?_toList]at e2;obtain⟨t',rfl⟩:=hI.2 j u e2;unfold eM at e1;rw[List.getElem?_map]at e1
 cases z:(List.range (hi- lo).toNat)[j]? with
 |none=>rw[z]at e1;cases e1
 |some i=>
  rw[z]at e1
  have:i=j:=by
   have hl:j<(List.range (hi- lo).toNat).length:=(List.getElem?_eq_some_iff.mp z).1;rw[List.getElem?_eq_getElem hl,List.getElem_range]at z;exact(Option.some.inj z).symm
  subst this;cases e1;exact⟨t',by rw[Int.mul_one]⟩
theorem zL{k:aD}(h:(fC P w).is k u=true):bQ (kV k) u:=by
 rcases lO h with⟨i,t,rfl,rfl⟩|⟨x,t,rfl,rfl⟩
 ·exact⟨t,rfl⟩
 ·exact⟨t,rfl⟩
theorem KV.fst{κ:Type}:∀{kvs:List (κ×V)} {vs:List (κ×Value)},KV kvs vs->kvs.map (·.1)=vs.map (·.1)
 |_,_,.nil=>rfl
 |_,_,.cons r t=>by rw[List.map_cons,List.map_cons,r.1,KV.fst t]
theorem a2D(hc:X.calm=true):iC X (.type "list") (λxs H Q=>∃a kvs,xs= [.ref a] /\H a=some (.dK kvs)/\∀l,H l=none->Q (.ref l) (upd H l (.lst (kvs.map λp=>kV p.1)))):=by
 intro ae s σ H xs us Q I r h;obtain⟨a,kvs,rfl,ha,q⟩:=h;obtain⟨u,rfl,rx⟩:=lN r;cases rx;obtain⟨z,hs,vs,rel,dd⟩:=a0A I.hok ha;obtain⟨ep,hat⟩:=dd.dictAt;have hl:kvs.length=vs.length:=Paired.length rel;refine W.kdl_call (W.kdl_dict (knd:=fC X.prog X.w) (kvs:=vs) (ep:=ep) hs) (I.ok.hd hc) hat (by rw[<- hl];exact z) λh' tk acc c kp hD hI=> ?_
 refine⟨.ref s.heap.objs.size,_,I.laid (t':=tk) (o:=.lst (kvs.map λp=>kV p.1)) kp (Nat.le_refl _) ?_,rfl,q _ (I.hok.fresh (Nat.le_refl _))⟩;refine⟨by rw[List.length_map];exact z,acc.toList,c,zJ (by rw[List.length_map,Array.length_toList,hl];exact hI.1) λj x u e1 e2=> ?_,by rw[Array.toArray_toList];exact hD⟩;rw[Array.getElem?_toList]at e2;obtain⟨k,y,e3,e4⟩:=hI.2 j u e2
 have e5:(kvs.map (·.1))[j]?=some k:=by rw[KV.fst rel,List.getElem?_map,e3];rfl
 have e6:(kvs.map λp=>kV p.1)[j]?=some (kV k):=by
  have:(kvs.map λp=>kV p.1)=(kvs.map (·.1)).map kV:=by rw[List.map_map];rfl
  rw[this,List.getElem?_map,e5];rfl
 rw[e6]at e1;cases e1;exact zL e4
end
def bM(s:Stmt)(j:Nat):Stmt:=match s with
 | .ClassDef _ _ _ body _ _ _ _ _ _ _=>body.getD j (.Pass ⟨0,0,0,0⟩)
 |_=> .Pass ⟨0,0,0,0⟩
theorem a25:bootBuiltins "range"=some (.type "range"):=by kernel_rfl
structure aQ(P:Program)(w:World)(K:Fg)(mg:Str->Option Value)(af:Heap)(CX:fL)(k:Nat)(C:Addr)(m:Str)(ps:List Str)(sp:Sp):Prop where
 ex:∃f fd,gJ P w K mg af CX k f fd ps sp/\tQ K C m f/\jA K fd ps []
structure fX(P:Program)(w:World)(K:Fg)(mg:Str->Option Value)(af:Heap)(CX:fL)(k:Nat)(C:Addr)(ps:List Str)(sp:Sp):Prop where
 ex:∃f fd,gJ P w K mg af CX k f fd ps sp/\Mk K C f/\jA K fd ps []
structure bG(K:Fg)(C:Addr)(m qual:Str)(st:Stmt):Prop where
 ex:∃f fd,iU K m qual st f fd/\W.findIn K (.ref C) m=some (some (.ref f))/\W.isFn K (.ref f)=true
section
theorem bJ{m:Str}{osl:Array (Option Value)}{kV:Value}(a:W.findIn K (.ref C) m=some (some (.ref f)))(i:W.isFn K (.ref f)=true)
 (l:K.lookup f=some ⟨oc,od,.func (W.fnOf m qual (jH st) (dY st) (aS st) .none kV doc pm an ah ct),osl⟩)(c:W.codeIn K ah qual=true)(k:W.keepIn K (.ref f)=true):bG K C m qual st:=
 ⟨f,_,xU l c k,a,i⟩
theorem bG.known{m:Str}{k:Nat}(D:bG K C m qual st)(S:bD N ps (aS st))
 (hb:∀(kV doc pm:Value) (an:Option Addr) (ah ct:Value) (us:List Value),us.length=ps.length->bindArgs (W.fnOf m qual (jH st) (dY st) (aS st) .none kV doc pm an ah ct) ⟨us,[]⟩=pure (ps.zip us))
 (hbody:∀(f:Addr) (ah:Value) (A:Around) (ag:List Env) (s:Shared) (H:Hp) (vs:List V) (Q:VK) (E:XK),cR k (A.deeper (envOfC qual (aS st) s.heap.objs.size f ah))->sp vs H Q E->
  ∃t,dL (fV aN P w K mg af N qual (aS st) f ah A ag s H E).nox (dY st) t/\t {nx:=λ_ H'=>Q .non H',rt:=Q} (fJ N vs) H)
 (len:∀vs H Q E,sp vs H Q E->vs.length=ps.length:=by rintro _ _ _ _ ⟨⟩;subst_vars;rfl):aQ P w K mg af aN (k+ 1) C m ps sp:=by
 obtain⟨f,fd,F,ha,hi⟩:=D.ex;exact⟨f,fd,F.ok S len λah A ag s H vs Q E hr h=>hbody f ah A ag s H vs Q E hr h,⟨ha,hi,F.kp⟩,F.binds hb⟩
theorem bG.knownE{m:Str}{k:Nat}(D:bG K C m qual st)(S:bD N ps (aS st))
 (hb:∀(kV doc pm:Value) (an:Option Addr) (ah ct:Value) (us:List Value),us.length=ps.length->bindArgs (W.fnOf m qual (jH st) (dY st) (aS st) .none kV doc pm an ah ct) ⟨us,[]⟩=pure (ps.zip us))
 (len:∀vs H Q E,sp vs H Q E->vs.length=ps.length)
 (hbody:∀(f:Addr) (ah:Value) (A:Around) (ag:List Env) (s:Shared) (H:Hp) (vs:List V) (Q:VK) (E:XK),cR k (A.deeper (envOfC qual (aS st) s.heap.objs.size f ah))->sp vs H Q E->
  ∃t,dL (dW P w K mg af N qual (aS st) f ah A ag s H E) (dY st) t/\t {nx:=λ_ H'=>Q .non H',rt:=Q} (fJ N vs) H):aQ P w K mg af (bV P w) (k+ 1) C m ps sp:=by
 obtain⟨f,fd,F,ha,hi⟩:=D.ex;exact⟨f,fd,F.okE S len λah A ag s H vs Q E hr h=>hbody f ah A ag s H vs Q E hr h,⟨ha,hi,F.kp⟩,F.binds hb⟩
theorem aQ.init{k:Nat}(G:aQ P w K mg af CX k C "__init__" ps sp)(mk:W.makesIn K C=true)(kc:W.keepIn K (.ref C)=true):fX P w K mg af CX k C ps sp:=by
 obtain⟨f,fd,F,hm,hb⟩:=G.ex;exact⟨f,fd,F,⟨mk,hm.at_,hm.fn,kc⟩,hb⟩
end
section
variable{k:Nat}{E:XK}{m:Str}{p:Pos}{o:Expr}{t:TA}{ta:TE}
theorem bF{pl:Sem Bool}(he:PE X o ta)(c:dC X.K C)(G:aQ X.prog X.w X.K X.mg X.base CX k C m ps sp)(hr:cR k X.A)(hx:iA CX X E)(ha:PA X (e::es) t)
 (hst:starEach (e::es) X.env=(false,eval e X.env)::starEach es X.env:=by rfl)(hpl:(backTo pos (starEach es X.env)).any (·.1)=false:=by rfl)
 (ht:eval (.Call (.Attribute o m apos) (e::es) [] pos) X.env=(do
  let ov<- eval o X.env
  standAt apos.atName
  let (f,first)<- holding [ov] (getMethod ov m pl)
  callWith pos f first (backTo pos (starEach (e::es) X.env)) (backToKw pos (keywordEach [] X.env))):=by rfl):
 PE X (.Call (.Attribute o m apos) (e::es) [] pos) (uN C m sp [] E ta t):=by
 obtain⟨f,fd,F,hm,hb⟩:=G.ex;exact a6i (pl:=pl) he c hm F hr hb .nil hx ha hst hpl ht
theorem fQ{pl:Sem Bool}(he:PE X o ta)(c:dC X.K C)(G:aQ X.prog X.w X.K X.mg X.base CX k C m ps sp)(hr:cR k X.A)(hx:iA CX X E)
 (ht:eval (.Call (.Attribute o m apos) [] [] pos) X.env=(do
  let ov<- eval o X.env
  standAt apos.atName
  let (f,first)<- holding [ov] (getMethod ov m pl)
  callWith pos f first (backTo pos (starEach [] X.env)) (backToKw pos (keywordEach [] X.env))):=by rfl):
 PE X (.Call (.Attribute o m apos) [] [] pos) (uN C m sp [] E ta eL):=by
 obtain⟨f,fd,F,hm,hb⟩:=G.ex;exact a7h (pl:=pl) he c hm F hr hb .nil hx ht
theorem eX(G:fX X.prog X.w X.K X.mg X.base CX k C ps sp)(hr:cR (k+ 1) X.A)(hm:X.mg x=some (.ref C))(hx:iA CX X E)
 (ha:PA X (e::es) t)(hg:Gl X x:=by rfl)(hdb:(x==("__debug__":Str))=false:=by decide)(he:starEach (e::es) X.env=(false,eval e X.env)::starEach es X.env:=by rfl)(hpl:(backTo pos (starEach es X.env)).any (·.1)=false:=by rfl):
 PE X (.Call (.Name x p) (e::es) [] pos) (mC C sp [] E t):=by
 obtain⟨f,fd,F,M,hb⟩:=G.ex;exact a8O M F hr hg hm hb .nil hx ha hdb he hpl
end
noncomputable def mQ (cells:List (Str×Addr)):List (Str×NameKind)->List (Str×Addr)->List (Str×Addr)
 | [],acc=>acc
 |(n,k)::r,acc=>mQ cells r (if k== .free then(n,(cells.lookup n).getD 0)::acc else acc)
theorem zG{env:Env}:∀{names:List (Str×NameKind)} {acc:List (Str×Addr)},(∀y∈names,y.2= .free->∃c,env.cells.lookup y.1=some c)->
 (forIn names acc fun(x:Str×NameKind) (cs:List (Str×Addr))=>(do
  let (name,kind):=x
  if kind==NameKind.free then(do let a<- cellOf env name;pure (ForInStep.yield ((name,a)::cs))) else pure (ForInStep.yield cs):Sem (ForInStep (List (Str×Addr)))))=pure (mQ env.cells names acc)
 | [],acc,_=>rfl
 |(n,k)::r,acc,h=>by
  rw[List.forIn_cons];by_cases hk:(k==NameKind.free)=true
  ·obtain⟨c,hc⟩:=h (n,k) List.mem_cons_self (by simpa using hk)
   have e:cellOf env n=pure c:=by unfold cellOf;rw[show env.cells.lookup n=some c from hc]
   have ih:=zG (env:=env) (names:=r) (acc:=(n,c)::acc) λy hy=>h y (List.mem_cons_of_mem _ hy)
   show(do let r<- (if k==NameKind.free then(do let a<- cellOf env n;pure (ForInStep.yield ((n,a)::acc))) else pure (ForInStep.yield acc):Sem (ForInStep (List (Str×Addr))));_)=_;rw[if_pos hk,e,pure_bind,pure_bind];refine Eq.trans ih ?_;show _=pure (mQ env.cells r (if(k==NameKind.free)=true then(n,(env.cells.lookup n).getD 0)::acc else acc));rw[if_pos hk,show env.cells.lookup n=some c from hc];rfl
  ·have ih:=zG (env:=env) (names:=r) (acc:=acc) λy hy=>h y (List.mem_cons_of_mem _ hy)
   show(do let r<- (if k==NameKind.free then(do let a<- cellOf env n;pure (ForInStep.yield ((n,a)::acc))) else pure (ForInStep.yield acc):Sem (ForInStep (List (Str×Addr))));_)=_;rw[if_neg hk,pure_bind];refine Eq.trans ih ?_;show _=pure (mQ env.cells r (if(k==NameKind.free)=true then(n,(env.cells.lookup n).getD 0)::acc else acc));rw[if_neg hk]
theorem a4C{cells:List (Str×Addr)}:∀{names:List (Str×NameKind)} {acc:List (Str×Addr)},(∀y∈names,y.2= .free->∃c,cells.lookup y.1=some c)->(∀x c,acc.lookup x=some c->cells.lookup x=some c)->
 ∀x c,(mQ cells names acc).lookup x=some c->cells.lookup x=some c
 | [],_,_,h=>h
 |(n,k)::r,acc,hf,h=>by
  refine a4C (names:=r) (λy hy=>hf y (List.mem_cons_of_mem _ hy)) ?_;intro x c e;by_cases hk:(k==NameKind.free)=true
  ·obtain⟨c',hc⟩:=hf (n,k) List.mem_cons_self (by simpa using hk)
   have hc':cells.lookup n=some c':=hc;rw[if_pos hk,hc',List.lookup_cons]at e;by_cases hx:(x==n)=true
   ·rw[hx]at e
    cases e
    have:x=n:=by simpa using hx
    rw[this];exact hc'
   ·rw[show (x==n)=false by simpa using hx]at e
    exact h x c e
  ·rw[if_neg hk]at e
   exact h x c e
theorem a4E{cells:List (Str×Addr)}:∀{names:List (Str×NameKind)} {acc:List (Str×Addr)} {x:Str},(∃c,acc.lookup x=some c)->∃c,(mQ cells names acc).lookup x=some c
 | [],_,_,h=>h
 |(n,k)::r,acc,x,⟨c,h⟩=>by
  refine a4E (names:=r) ?_;by_cases hk:(k==NameKind.free)=true
  ·rw[if_pos hk,List.lookup_cons]
   cases hx:x==n with
   |true=>exact⟨_,rfl⟩
   |false=>exact⟨c,h⟩
  ·rw[if_neg hk]
   exact⟨c,h⟩
theorem zU{cells:List (Str×Addr)}:∀{names:List (Str×NameKind)} {acc:List (Str×Addr)} {x:Str},(x,NameKind.free)∈names->∃c,(mQ cells names acc).lookup x=some c
 |(n,k)::r,acc,x,h=>by
  rcases List.mem_cons.mp h with e|h
  ·cases e
   refine a4E (names:=r) ⟨(cells.lookup n).getD 0,?_⟩;rw[if_pos (by rfl),List.lookup_cons,beq_self_eq_true]
  ·exact zU (names:=r) h
theorem a1B{env:Env}:∀{names:List (Str×NameKind)} {x:Str},names.lookup x=some .free->
 (names.map fun(n,k)=>if(k==NameKind.free&&env.scope.kind== .function&&env.kindOf n==some .cell) then(n,NameKind.cell) else(n,k)).lookup x=some .cell\/
 (names.map fun(n,k)=>if(k==NameKind.free&&env.scope.kind== .function&&env.kindOf n==some .cell) then(n,NameKind.cell) else(n,k)).lookup x=some .free
 | [],_,h=>by simp at h
 |(n,k)::r,x,h=>by
  have ih:= @a1B env r x;rw[List.lookup_cons]at h;rw[List.map_cons]
  cases hx:x==n with
  |true=>
   rw[hx]at h;cases h;by_cases hc:(NameKind.free==NameKind.free&&env.scope.kind== .function&&env.kindOf n==some .cell)=true
   ·simp only[hc,if_true,List.lookup_cons,hx]
    exact .inl trivial
   ·simp only[hc,if_false,List.lookup_cons,hx,Bool.false_eq_true]
    exact .inr trivial
  |false=>
   rw[hx]at h;by_cases hc:(k==NameKind.free&&env.scope.kind== .function&&env.kindOf n==some .cell)=true
   ·simp only[hc,if_true,List.lookup_cons,hx]
    exact ih h
   ·simp only[hc,if_false,List.lookup_cons,hx,Bool.false_eq_true]
    exact ih h
theorem rY{sc:Scope}(hcell:∀x,X.env.scope.names.lookup x=some .cell->∃c,X.env.cells.lookup x=some c)(hs:X.env.scope=sc:=by rfl)(hN:X.N=N:=by rfl)
 (kind:ai.kind= .function:=by rfl)(plain:∀y∈ai.names,y.2≠ .cell:=by decide)(names:∀y∈ai.names,y.2= .local->ai.names.lookup y.1=some .local:=by decide+kernel)
 (free:∀y∈ai.names,y.2= .free->sc.names.lookup y.1=some .cell:=by decide+kernel)(at':∀p∈cp,N[p.1]?=some p.2/\sc.names.lookup p.2=some .cell/\ai.names.lookup p.2=some .free:=by decide+kernel):
 nJ X ai (mQ X.env.cells ai.names []) cp:=by
 subst hs hN;have hf:∀y∈ai.names,y.2= .free->∃c,X.env.cells.lookup y.1=some c:=λy hy e=>hcell _ (free y hy e)
 refine⟨kind,plain,names,?_,a4C hf (λx c e=>by cases e),λx h=> ?_,λp hp=> ?_⟩
 ·show closureFor ai X.env=_
  simp only[closureFor];have:=zG (env:=X.env) (acc:=[]) hf;exact(congrArg (λz=>z>>=λr=>pure r) this).trans (pure_bind _ _)
 ·have hm:∀k,(relabel ai X.env).names.lookup x=some k->(k= .cell\/ k= .free)->(x,NameKind.free)∈ai.names:=λk e hk=>by
   have m:=PySem.mem_of_lookup e;unfold relabel at m;obtain⟨⟨n,k'⟩,hy,e'⟩:=List.mem_map.mp m;have nc:=plain _ hy;by_cases hc:(k'==NameKind.free&&X.env.scope.kind== .function&&X.env.kindOf n==some .cell)=true
   ·simp only[hc,if_true]at e'
    have e1:n=x:=congrArg (·.1) e'
    have:k'= .free:=by simp only[Bool.and_eq_true,beq_iff_eq]at hc;exact hc.1.1
    subst e1 this;exact hy
   ·simp only[hc,if_false,Bool.false_eq_true]at e'
    have e1:n=x:=congrArg (·.1) e';have e2:k'=k:=congrArg (·.2) e';subst e1 e2
    rcases hk with z|z
    ·exact absurd z nc
    ·subst z;exact hy
  rcases h with h|h
  ·exact zU (hm _ h (.inl rfl))
  ·exact zU (hm _ h (.inr rfl))
 ·obtain⟨h1,h2,h3⟩:=at' p hp
  exact⟨h1,.inl h2,a1B h3⟩
def lQ(X:Cx)(d:Addr):Prop:=(∀xs,X.H₀ d≠some (.tup xs))/\(∀o u,X.H₀ d≠some (.frz o u))/\∀ps,X.H₀ d≠some (.tbl ps)
section
variable{s:Shared}{d:Addr}
theorem aE.retag{u u':HO}(I:aE X ae σ H s)(e:H d=some u)(nf:lQ X d)(no:∀x,u≠ .own x)(nt:∀xs,u≠ .tup xs)(new:cX X.prog X.w (upd H d u') s.heap d u'):aE X ae σ (upd H d u') s:=by
 have hn:∀b,H b=none->upd H d u' b=none:=λb n=>by rw[aF (bE e n).symm];exact n
 refine⟨I.ok,I.os,I.bare,⟨I.base.keep,I.base.slot,λb o q n hx=>hn b (I.base.free b o q n hx),I.base.there,λb xs q=> ?_,λb o v q=> ?_,λb ps q=> ?_⟩,I.loc,I.cell,hn _ I.free,λx c q=>hn _ (I.freeC x c q),λp hp=> ?_,λb v q=> ?_,I.len⟩
 ·have:b≠d:=λz=>nf.1 xs (z▸q)
  rw[aF this];exact I.base.tups b xs q
 ·have:b≠d:=λz=>nf.2.1 o v (z▸q)
  rw[aF this];exact I.base.frzs b o v q
 ·have:b≠d:=λz=>nf.2.2 ps (z▸q)
  rw[aF this];exact I.base.tbls b ps q
 ·obtain⟨a1,a2,a3,a4,a5⟩:=I.pin p hp
  exact⟨a1,hn _ a2,a3,a4,a5⟩
 ·by_cases hb:b=d
  ·subst hb
   rw[aG]at q;cases q;exact new
  ·rw[aF hb]at q
   refine(I.hok b v q).stay (λ_ _ _ r=>r) (λc r=> ?_) λc xs r=> ?_
   ·rw[aF (jG r e (λz=>no _ z.symm))]
    exact r
   ·rw[aF (jG r e (λz=>nt _ z.symm))]
    exact r
theorem aE.nof{u:HO}(I:aE X ae σ H s)(e:H d=some u)(h1:∀xs,u≠ .tup xs)(h2:∀o v,u≠ .frz o v)(h3:∀ps,u≠ .tbl ps):lQ X d:=by
 refine⟨λxs q=> ?_,λo v q=> ?_,λps q=> ?_⟩
 ·have:=(I.base.tups d xs q).symm.trans e
  exact h1 xs (Option.some.inj this).symm
 ·have:=(I.base.frzs d o v q).symm.trans e
  exact h2 o v (Option.some.inj this).symm
 ·obtain⟨m,q'⟩:=I.base.tbls d ps q
  have:=q'.symm.trans e;exact h3 _ (Option.some.inj this).symm
theorem aE.freeze(I:aE X ae σ H s)(e:H d=some (.dK kvs)):lQ X d/\∃o,s.heap.get? d=some o/\aE X ae σ (upd H d (.frz o (.dK kvs))) s:=by
 have nf:lQ X d:=I.nof e (by intro _ z;cases z) (by intro _ _ z;cases z) (by intro _ z;cases z);have ok:cX X.prog X.w H s.heap d (.dK kvs):=I.hok d _ e;obtain⟨z,hs,vs,rel,o,es,ep,ho,r⟩:=id ok;exact⟨nf,o,ho,I.retag e nf (by intro _ z;cases z) (by intro _ z;cases z) ⟨ho,z,hs,vs,rel,o,es,ep,ho,r⟩⟩
theorem aE.thaw{o:Obj}(I:aE X ae σ H s)(nf:lQ X d)(e:H d=some (.frz o (.dK kvs))):aE X ae σ (upd H d (.dK kvs)) s:=by
 obtain⟨_,q⟩:=(show cX X.prog X.w H s.heap d (.frz o (.dK kvs)) from I.hok d _ e);exact I.retag e nf (by intro _ z;cases z) (by intro _ z;cases z) q
end
def rX(a:Addr)(o:Obj)(kvs:List (aD×V)):It:=
 ⟨λi H=>H a=some (.frz o (.dK kvs))/\i<kvs.length,λi H x H'=>H'=H/\∃p,kvs[i]?=some p/\x=kV p.1,λi H=>H a=some (.frz o (.dK kvs))/\kvs.length<=i⟩
theorem vU{o:Obj}{es:Array DictEntry}{ep:Nat}(ok:dN P w H h)(e:H a=some (.frz o (.dK kvs)))(ho:o.data= .dict es ep):
 (a==sysModules)=false/\∃vs,KV kvs vs/\h.DictAt (fC P w) a vs ep:=by
 obtain⟨e1,z,hs,vs,rel,o',es',ep',ho',r1,r2,r3⟩:=(show cX P w H h a (.frz o (.dK kvs)) from ok a _ e);rw[e1]at ho';cases ho';have:=r2.symm.trans ho;cases this;exact⟨hs,vs,rel,o,_,e1,r1,r2,r3⟩
theorem a5K(a it:Addr)(o:Obj)(kvs:List (aD×V)){es:Array DictEntry}{ep:Nat}(hod:o.data= .dict es ep):pD P w K tg (rX a o kvs) [it] it (λi h=>h.IsKeyIter it a i kvs.length ep) where
 mem:=by simp
 obj:=λi h st b hb=>by
  have e:b=it:=by simpa using hb
  subst e;obtain⟨o,e,c,d⟩:=st;exact⟨o,e,λv z=>by rw[d]at z;cases z⟩
 keep:=λi h h' st k=>st.at λo e=>k it (by simp) o e
 item:=by
  intro X hP hw hK hc i ae s σ H E I hf st hg;subst hP hw hK;obtain⟨ha,hi⟩:=hg;obtain⟨_,vs,rel,dat⟩:=vU I.hok ha hod;have hl:kvs.length=vs.length:=Paired.length rel;obtain⟨⟨k,x⟩,hx⟩:∃p,vs[i]?=some p:=⟨vs[i]'(by omega),by simp⟩;obtain⟨f0,f1,f2,f3,f4,f5⟩:=hf it (by simp);rw[hl]at st;refine wpAny_pyNext_dict_item st dat hx λu h' hu st' sb=> ?_
  have I1:aE X ae σ H {s with heap:=h'}:=I.turned (t':=s.toks) (λb o hb e=>sb.extBut b o hb e) f0 f1 f3 f4 f5;obtain⟨o1,e1,c1,d1⟩:=id st';refine⟨u,rfl,vJ (s:={s with heap:=h'}) e1 c1 d1 (by decide) ⟨kV k,H,I1,zL hu,⟨rfl,?_⟩,by rw[hl];exact st',λb hb=>(hf b hb).1⟩⟩;refine⟨kvs[i],by simp[hi],?_⟩
  have e5:(kvs.map (·.1))[i]?=some k:=by rw[KV.fst rel,List.getElem?_map,hx];rfl
  rw[List.getElem?_map,List.getElem?_eq_getElem hi]at e5;rw[<- Option.some.inj e5]
 done:=by
  intro X hP hw hK hc i ae s σ H E I hf st hg;subst hP hw hK;obtain⟨ha,hi⟩:=hg;obtain⟨_,vs,rel,dat⟩:=vU I.hok ha hod;have hl:kvs.length=vs.length:=Paired.length rel;obtain⟨f0,f1,f2,f3,f4,f5⟩:=hf it (by simp);rw[hl]at st;exact wpAny_pyNext_dict_end (I.ok.hd hc) st dat (by simp;omega) λh' eb=>⟨rfl,I.turned (t':=s.toks) (λb o hb e=>eb b o hb e) f0 f1 f3 f4 f5⟩
 self:=λ_ _ _ _ _ st h=>wpAny_pyIter_keyiter st h
section
inductive a32(X:Cx)(R:It->Hp->Prop)(x:V)(H1:Hp):Prop
 |mk (a:_) (kvs:_):(x= .ref a)->(H1 a=some (.dK kvs))->((lQ X a->∀o,R (rX a o kvs) (upd H1 a (.frz o (.dK kvs)))))->a32 X R x H1
def a1E(X:Cx)(tl:TE):TI:=λσ H R=>tl σ H (a32 X R)
theorem a6Y{l:Expr}(hl:PE X l tl):PI X tg l (a1E X tl):=by
 intro ae s σ H R I h;refine aV (hl ae s σ H _ I h) ?_;rintro v s1 ⟨x,H1,I1,r1,q1⟩;obtain⟨a,kvs,e,ha,q⟩:=q1;subst e;cases r1;obtain⟨nf,o,ho,I2⟩:=I1.freeze ha;obtain⟨z,hs,vs,rel,o',es,ep,ho',r1,r2,r3⟩:=(show cX X.prog X.w H1 s1.heap a (.dK kvs) from I1.hok a _ ha);rw[ho]at ho';cases ho';have hl:kvs.length=vs.length:=Paired.length rel;have dat:s1.heap.DictAt (fC X.prog X.w) a vs ep:=⟨o,es,ho,r1,r2,r3⟩;refine wpAny_pyIter_dict hs dat ?_;refine⟨s1.heap.objs.size,[s1.heap.objs.size],_,_,_,rfl,I2.kept (t':=s1.toks) λb o e=>Heap.get?_push_of_some _ e,a5K a _ o kvs r2,⟨_,Heap.get?_push_size _ rfl,rfl,by rw[hl];rfl⟩,λb hb=> ?_,q nf o⟩
 have e:b=s1.heap.objs.size:=by simpa using hb
 subst e;exact I2.fpOk (Nat.le_refl _) (I2.hok.fresh (Nat.le_refl _))
noncomputable def wG (X:Cx) (D:eG):eG where
 nx:=λσ H=>∃a o kvs,lQ X a/\H a=some (.frz o (.dK kvs))/\D.nx σ (upd H a (.dK kvs))
 rt:=λv H=>∃a o kvs,lQ X a/\H a=some (.frz o (.dK kvs))/\D.rt v (upd H a (.dK kvs))
 bk:=D.bk
 ct:=D.ct
def a7X(X:Cx)(tl:TE)(g:TG)(tb:TS):TS:=λD σ H=>yA (a1E X tl) g tb (wG X D) σ H
theorem a1K{tb:TS}(hp:PassesOwn (model X.prog X.w) X.A X.env X.xe)(hc:X.calm=true)(hl:PE X iter tl)(hg:PG X tg g)(hb:dL X body tb)
 (hs:∀x,foldedSetIterable iter X.env x=pure x:=by intro _;rfl):PS X (.For tg iter body [] pos) (a7X X tl g tb):=by
 intro ae s σ H D I h;refine aV (jQ hp hc (a6Y hl) hg hb hs ae s σ H (wG X D) I h) λf s' q=> ?_
 cases f with
 |next=>obtain⟨σ',H',I',a,o,kvs,nf,e,q⟩:=q;exact⟨σ',_,I'.thaw nf e,q⟩
 |cont=>exact q
 |brk=>exact q
 |ret v=>obtain⟨x,σ',H',I',r,a,o,kvs,nf,e,q⟩:=q;exact⟨x,σ',_,I'.thaw nf e,r,q⟩
end
theorem a10{ob:Obj}{tb:TS}(Pv:Nat->St->Hp->Prop)(h0:Pv 0 σ H)(hl:∀i σ H,i<=kvs.length->Pv i σ H->H a=some (.frz ob (.dK kvs)))
 (hs:∀i p σ H,kvs[i]?=some p->Pv i σ H->g (kV p.1) σ H λσ2 H2=>tb {D with nx:=Pv (i+ 1),ct:=Pv (i+ 1),bk:=D.nx} σ2 H2)(hd:∀σ H,Pv kvs.length σ H->D.nx σ H):
 ∃W:Nat->Nat->St->Hp->Prop,(∃m,W 0 m σ H)/\∀i m σ H,W i m σ H->
  ((rX a ob kvs).stop i H/\D.nx σ H)\/ ((rX a ob kvs).go i H/\∃N:St->Hp->Prop,(∀σ' H',N σ' H'->∃m',m'<m/\W (i+ 1) m' σ' H')/\∀x H',(rX a ob kvs).yld i H x H'->g x σ H' λσ2 H2=>tb {D with nx:=N,ct:=N,bk:=D.nx} σ2 H2):=by
 refine⟨λi m σ H=>m=kvs.length- i/\i<=kvs.length/\Pv i σ H,⟨kvs.length,by simp,Nat.zero_le _,h0⟩,?_⟩;rintro i m σ H ⟨rfl,hi,p⟩;have q:=hl i σ H hi p;by_cases hlt:i<kvs.length
 ·refine .inr ⟨⟨q,hlt⟩,Pv (i+ 1),λσ' H' p'=>⟨kvs.length- (i+ 1),by omega,rfl,hlt,p'⟩,λx H' y=> ?_⟩
  obtain⟨e,pr,hp,ex⟩:=y;subst e ex;exact hs i pr σ _ hp p
 ·have e:i=kvs.length:=by omega
  subst e;exact .inl ⟨⟨q,Nat.le_refl _⟩,hd σ H p⟩
theorem aB.thaw{d:Addr}{o:Obj}{u:HO}(e:H d=some u)(s:aB (upd H d (.frz o u)) H2):aB H (upd H2 d u):=λb v q=>by
 by_cases hb:b=d
 ·subst hb
  rw[aG];exact e.symm.trans q
 ·rw[aF hb]
  exact s b v (by rw[aF hb];exact q)
def sI(a:Addr)(o:Obj)(kvs:List (aD×V)):It:=
 ⟨λi H=>H a=some (.frz o (.dK kvs))/\i<kvs.length,λi H x H'=>∃p q,kvs[i]?=some q/\H p=none/\x= .ref p/\H'=upd H p (.tup [kV q.1,q.2]),λi H=>H a=some (.frz o (.dK kvs))/\kvs.length<=i⟩
theorem KV.at{vs:List (aD×Value)}:KV kvs vs->∀(i:Nat) (k:aD) (v:Value),vs[i]?=some (k,v)->∃x,kvs[i]?=some (k,x)/\bQ x v:=by
 intro r
 induction r with
 |nil=>intro i k v h;simp at h
 | @cons p q ps qs hq t ih=>
  intro i k v h
  cases i with
  |zero=>
   simp at h;subst h;exact⟨p.2,by simp;exact Prod.ext hq.1 rfl,hq.2⟩
  |succ i=>simpa using ih i k v (by simpa using h)
theorem a7c{x1:Nat}(a it:Addr)(o:Obj)(kvs:List (aD×V)){es:Array DictEntry}{ep:Nat}(hod:o.data= .dict es ep):pD P w K (.Tuple elts x1 tpos) (sI a o kvs) [it] it (λi h=>∃ok ov,IsItemIter h it a i kvs.length ep ok ov) where
 mem:=by simp
 obj:=λi h st b hb=>by
  have e:b=it:=by simpa using hb
  subst e;obtain⟨ok,ov,e⟩:=st
  exact⟨_,e,λv z=>by
   have z':Data.fields _=Data.cell v:=z
   cases z'⟩
 keep:=λi h h' st k=>by
  obtain⟨ok,ov,e⟩:=st;exact⟨ok,ov,k it (by simp) _ e⟩
 item:=by
  intro X hP hw hK hc i ae s σ H E I hf st hg;subst hP hw hK;obtain⟨ha,hi⟩:=hg;obtain⟨ok,ov,st⟩:=st;obtain⟨_,vs,rel,dat⟩:=vU I.hok ha hod;have hl:kvs.length=vs.length:=Paired.length rel;obtain⟨⟨k,x⟩,hx⟩:∃p,vs[i]?=some p:=⟨vs[i]'(by omega),by simp⟩;obtain⟨f0,f1,f2,f3,f4,f5⟩:=hf it (by simp);rw[hl]at st;obtain⟨y,hy,ry⟩:=KV.at rel i k x hx;have hpn:H s.heap.objs.size=none:=I.hok.fresh (Nat.le_refl _);have hit:it≠s.heap.objs.size:=Nat.ne_of_lt (Heap.lt_size st);refine wpAny_pyNext_items_item st dat hx λu h' hu st' htup hsz kk=> ?_
  have I1:aE X ae σ (upd H s.heap.objs.size (.tup [kV k,y])) {s with heap:=s.heap.push {cls:=.type "tuple",data:=.seq #[u,x]}}:=by
   refine I.laid (t':=s.toks) (o:=.tup [kV k,y]) (λb ob q=>Heap.get?_push_of_some _ q) (Nat.le_refl _) ?_;refine⟨by show 2<=sizeLine;exact sl,[u,x],.cons (zL hu) (.cons ry .nil),_,Heap.get?_push_size _ rfl,rfl,0,rfl⟩
  have g0:upd H s.heap.objs.size (.tup [kV k,y]) it=none:=by rw[aF hit];exact f0
  have I2:aE X ae σ (upd H s.heap.objs.size (.tup [kV k,y])) {s with heap:=h'}:=by
   have kp:∀b ob,b≠it->(s.heap.push {cls:=.type "tuple",data:=.seq #[u,x]}).get? b=some ob->h'.get? b=some ob:=λb ob hb e=>by
    rcases Heap.get?_push_cases e with⟨rfl,rfl⟩|e
    ·exact htup
    ·exact kk b ob hb e
   have I2:=aE.turned (s:={s with heap:=s.heap.push {cls:=.type "tuple",data:=.seq #[u,x]}}) (h':=h') (t':=s.toks) (it:=it) I1 kp g0 f1 f3 f4 f5;exact I2
  refine⟨_,rfl,wpAny_letOwnedTupleGo_items (s:={s with heap:=h'}) st' λh'' st'' sb=> ?_⟩
  have I3:aE X ae σ (upd H s.heap.objs.size (.tup [kV k,y])) {s with heap:=h''}:=by
   have I3:=aE.turned (s:={s with heap:=h'}) (h':=h'') (t':=s.toks) (it:=it) I2 (λb ob hb e=>sb.extBut b ob hb e) g0 f1 f3 f4 f5;exact I3
  refine⟨.ref s.heap.objs.size,_,I3,rfl,⟨s.heap.objs.size,(k,y),hy,hpn,rfl,rfl⟩,⟨_,_,by rw[hl];exact st''⟩,λb hb=> ?_⟩
  have e:b=it:=by simpa using hb
  subst e;exact g0
 done:=by
  intro X hP hw hK hc i ae s σ H E I hf st hg;subst hP hw hK;obtain⟨ha,hi⟩:=hg;obtain⟨ok,ov,st⟩:=st;obtain⟨_,vs,rel,dat⟩:=vU I.hok ha hod;have hl:kvs.length=vs.length:=Paired.length rel;obtain⟨f0,f1,f2,f3,f4,f5⟩:=hf it (by simp);rw[hl]at st;exact wpAny_pyNext_items_end (I.ok.hd hc) st dat (by simp;omega) λh' eb=>⟨rfl,I.turned (t':=s.toks) (λb o hb e=>eb b o hb e) f0 f1 f3 f4 f5⟩
 self:=λA i s Q E st h=>by
  obtain⟨ok,ov,st⟩:=st;exact W.kcp_self st h
section
variable{x1:Nat}
inductive a36(X:Cx)(R:It->Hp->Prop)(x:V)(H1:Hp):Prop
 |mk (a:_) (kvs:_):(x= .ref a)->(H1 a=some (.dK kvs))->((lQ X a->∀o,R (sI a o kvs) (upd H1 a (.frz o (.dK kvs)))))->a36 X R x H1
def a3N(X:Cx)(tl:TE):TI:=λσ H R=>tl σ H (a36 X R)
theorem a7Z{l:Expr}(hl:PE X l tl)(hbase:attributeBase l "items" X.env (eval l X.env)=eval l X.env:=by rfl)(hline:(apos.endLine==pos.line)=true:=by rfl):
 PI X (.Tuple elts x1 tpos) (.Call (.Attribute l "items" apos) [] [] pos) (a3N X tl):=by
 intro ae s σ H R I h;refine wpAny_Call_method0_late hbase hline (aV (hl ae s σ H _ I h) ?_);rintro v s1 ⟨x,H1,I1,r1,q1⟩;obtain⟨a,kvs,e,ha,q⟩:=q1;subst e;cases r1;obtain⟨t1,t2,_⟩:=a1e I1 (.inl ⟨kvs,.inl ha⟩);obtain⟨nf,o,ho,I2⟩:=I1.freeze ha;obtain⟨z,hs,vs,rel,o',es,ep,ho',r1,r2,r3⟩:=(show cX X.prog X.w H1 s1.heap a (.dK kvs) from I1.hok a _ ha);rw[ho]at ho';cases ho';have hl:kvs.length=vs.length:=Paired.length rel;have dat:s1.heap.DictAt (fC X.prog X.w) a vs ep:=⟨o,es,ho,r1,r2,r3⟩;refine⟨"dict",_,F.plainAttrs_dict,F.slot_dict_items,F.type_dict_items,t1,t2,Calls.callWith_builtin rfl (PySem.evalArgs_none ?_)⟩;refine call_meetsIn F.slot_dict_items dat.dictOf.typeIs F.entry_dict_items (F.args_dict_items_1 _) (meets_dict_items (fC X.prog X.w) a hs) ⟨⟨vs,dat.dictOf⟩,?_⟩;refine wpAny_pyIter_items ⟨_,Heap.get?_push_size _ rfl,rfl,rfl⟩ (dat.push _) ?_;have I3:aE X ae σ (upd H1 a (.frz o (.dK kvs))) {s1 with heap:=s1.heap.push {cls:=.type "dict_items",data:=.fields #[.ref a]}}:=I2.kept (t':=s1.toks) λb o e=>Heap.get?_push_of_some _ e
 refine⟨_,[_],_,_,_,rfl,I3.kept (t':=s1.toks) λb o e=>Heap.get?_push_of_some _ e,a7c a _ o kvs r2,⟨.none,.none,?_⟩,λb hb=> ?_,q nf o⟩
 ·rw[hl]
  exact Heap.get?_push_size _ rfl
 ·have e:b=(s1.heap.push {cls:=.type "dict_items",data:=.fields #[.ref a]}).objs.size:=by simpa using hb
  subst e;exact I3.fpOk (Nat.le_refl _) (I3.hok.fresh (Nat.le_refl _))
def a9G(X:Cx)(tl:TE)(g:TG)(tb:TS):TS:=λD σ H=>yA (a3N X tl) g tb (wG X D) σ H
theorem b0l{l:Expr}{tb:TS}{fpos:Pos}(hp:PassesOwn (model X.prog X.w) X.A X.env X.xe)(hc:X.calm=true)(hl:PE X l tl)(hg:PG X (.Tuple elts x1 tpos) g)(hb:dL X body tb)
 (hbase:attributeBase l "items" X.env (eval l X.env)=eval l X.env:=by rfl)(hline:(apos.endLine==pos.line)=true:=by rfl)
 (hs:∀x,foldedSetIterable (.Call (.Attribute l "items" apos) [] [] pos) X.env x=pure x:=by intro _;rfl):PS X (.For (.Tuple elts x1 tpos) (.Call (.Attribute l "items" apos) [] [] pos) body [] fpos) (a9G X tl g tb):=by
 intro ae s σ H D I h;refine aV (jQ hp hc (a7Z hl hbase hline) hg hb hs ae s σ H (wG X D) I h) λf s' q=> ?_
 cases f with
 |next=>obtain⟨σ',H',I',a,o,kvs,nf,e,q⟩:=q;exact⟨σ',_,I'.thaw nf e,q⟩
 |cont=>exact q
 |brk=>exact q
 |ret v=>obtain⟨x,σ',H',I',r,a,o,kvs,nf,e,q⟩:=q;exact⟨x,σ',_,I'.thaw nf e,r,q⟩
end
theorem a8m{ob:Obj}{tb:TS}(Pv:Nat->St->Hp->Prop)(h0:Pv 0 σ H)(hl:∀i σ H,i<=kvs.length->Pv i σ H->H a=some (.frz ob (.dK kvs)))
 (hs:∀i q σ H p,kvs[i]?=some q->Pv i σ H->H p=none->g (.ref p) σ (upd H p (.tup [kV q.1,q.2])) λσ2 H2=>tb {D with nx:=Pv (i+ 1),ct:=Pv (i+ 1),bk:=D.nx} σ2 H2)(hd:∀σ H,Pv kvs.length σ H->D.nx σ H):
 ∃W:Nat->Nat->St->Hp->Prop,(∃m,W 0 m σ H)/\∀i m σ H,W i m σ H->
  ((sI a ob kvs).stop i H/\D.nx σ H)\/ ((sI a ob kvs).go i H/\∃N:St->Hp->Prop,(∀σ' H',N σ' H'->∃m',m'<m/\W (i+ 1) m' σ' H')/\∀x H',(sI a ob kvs).yld i H x H'->g x σ H' λσ2 H2=>tb {D with nx:=N,ct:=N,bk:=D.nx} σ2 H2):=by
 refine⟨λi m σ H=>m=kvs.length- i/\i<=kvs.length/\Pv i σ H,⟨kvs.length,by simp,Nat.zero_le _,h0⟩,?_⟩;rintro i m σ H ⟨rfl,hi,p⟩;have q:=hl i σ H hi p;by_cases hlt:i<kvs.length
 ·refine .inr ⟨⟨q,hlt⟩,Pv (i+ 1),λσ' H' p'=>⟨kvs.length- (i+ 1),by omega,rfl,hlt,p'⟩,λx H' y=> ?_⟩
  obtain⟨pa,pr,hp,hn,ex,eh⟩:=y;subst eh ex;exact hs i pr σ _ pa hp p hn
 ·have e:i=kvs.length:=by omega
  subst e;exact .inl ⟨⟨q,Nat.le_refl _⟩,hd σ H p⟩
section
variable{st:Expr}{ts:TO}{p2:Pos}
theorem bP{st:Stmt}:PS X st (λ_ _ _=>False):=λ_ _ _ _ _ _ h=>h.elim
end
structure qF(mg:Str->Option Value)(af:Heap)(c P:Addr):Prop where
 hd:W.CodeHd af c P
 bt:af.BuiltinsAt mg P
theorem a7j(h:H a=some o):upd H a o=H:=by
 funext b;unfold upd;split
 ·rename_i e;subst e;exact h.symm
 ·rfl
section
theorem a14:∀{xs:List Value} {l c:Nat} {a:Addr},TriplesOk xs->TriplesOk (xs++ [rawInt l,rawInt c,.ref a])
 | [],_,_,_,_=>trivial
 | .int _ _:: .int _ _::_::fI,_,_,_,t=>a14 (xs:=fI) t
theorem a6g{ps:Array Value}{l c:Nat}(t:TriplesOk ps.toList):TriplesOk (ps++ #[rawInt l,rawInt c,.ref a]).toList:=by
 rw[Array.toList_append];exact a14 t
end
structure b0t(q:Program)(K:Fg)(z:Addr×Addr):Prop where
 ex:∃x:Str,((recsOf q).find? (λe=>e.name==x)).isSome=true/\W.tabIn K x=some z
theorem a21{ps:Array Value}(hK:W.noTabs K=true)(X:K.In h)(e:h.get? a=some (W.tabObj ps)):K.lookup a=none:=by
 cases q:K.lookup a with
 |none=>rfl
 |some o=>
  have e2:=X a o q;rw[e]at e2;cases e2;have h2:=List.all_eq_true.mp hK (a,_) (W.mem_of_lookupK q);exact absurd (show false=true from h2) Bool.false_ne_true
structure ClsM(K:Fg)(C:Addr)(m:Str):Prop where
 ga:W.specialIn K (.ref C) "__getattribute__"=some (some (.builtin "type.__getattribute__"))
 ex:∃(mc:Value) (f:Addr),W.readsIn K C mc=true/\W.findCls K (.ref C) mc m=some (.val (.ref f))/\W.findIn K (.ref C) m=some (some (.ref f))
section
variable{k:Nat}{E:XK}{m:Str}{p:Pos}{o:Expr}{t:TA}{ta:TE}
theorem rW{pl:Sem Bool}(he:PE X o (tC (.ref C)))(c:ClsM X.K C m)(G:aQ X.prog X.w X.K X.mg X.base CX k C m ps sp)(hr:cR k X.A)(hx:iA CX X E)(ha:PA X (e::es) t)
 (hst:starEach (e::es) X.env=(false,eval e X.env)::starEach es X.env:=by rfl)(hpl:(backTo pos (starEach es X.env)).any (·.1)=false:=by rfl)
 (ht:eval (.Call (.Attribute o m apos) (e::es) [] pos) X.env=(do
  let ov<- eval o X.env
  standAt apos.atName
  let (f,first)<- holding [ov] (getMethod ov m pl)
  callWith pos f first (backTo pos (starEach (e::es) X.env)) (backToKw pos (keywordEach [] X.env))):=by rfl):
 PE X (.Call (.Attribute o m apos) (e::es) [] pos) (tZ sp [] E t):=by
 obtain⟨f,fd,F,hm,hb⟩:=G.ex;intro ae s σ H Q I h;refine W.methodCall_KW (pl:=pl) (aV (he ae s σ H (λv H1=>v= .ref C/\H1=H) I ⟨rfl,rfl⟩) ?_) ht;rintro u s1 ⟨x,H1,I1,rx,q⟩;obtain⟨rfl,rfl⟩:=q;obtain rfl:u=Value.ref C:=rx;obtain⟨mc,f',h1,h2,h3⟩:=c.ex;have e1:=hm.at_;rw[h3]at e1;cases e1;refine W.method_cls I1.kIn c.ga (W.cls_value I1.kIn h1 h2 rfl ?_);refine W.callWith_K (first:=[]) (h₀:=X.base) I.ok.mod.kin hm.kp (aV (ha pos ae _ σ _ _ (I1.tok _) h) λus s2 ⟨vs,H2,I2,r,q2⟩=>⟨I2.kIn,?_⟩) hst hpl;exact rN (us:=us) (vs:=vs) F hr hb .nil hx I2 r q2
end
structure yM(K:Fg)(mg:Str->Option Value)(x:Str)(st:Stmt)(z:Addr×Addr):Prop where
 ex:∃f fd,iU K x x st f fd/\mg x=some (.ref f)/\fd.code= .ref z.1
 tab:W.tabIn K x=some z
section
theorem a8o{c:Addr}{wo:Value}{wd:Option Addr}{osl ws:Array (Option Value)}{vs:Array Value}(a:W.nsIn K mainGlobals x=some (some (.ref f)))
 (l:K.lookup f=some ⟨oc,od,.func fd,osl⟩)(hc:fd.code= .ref c)(w:K.lookup c=some ⟨wo,wd,.fields vs,ws⟩)(h:vs[11]?=some (.ref p)):W.tabIn K x=some (c,p):=by
 unfold W.tabIn;rw[a];dsimp only;rw[l];dsimp only;rw[hc];dsimp only;rw[w];dsimp only;rw[h]
theorem a9E{c:Addr}{wo:Value}{wd:Option Addr}{osl ws:Array (Option Value)}{kV:Value}{vs:Array Value}(X:K.In h)(G:h.Ns mainGlobals mg)(a:W.nsIn K mainGlobals x=some (some (.ref f)))
 (l:K.lookup f=some ⟨oc,od,.func (W.fnOf x x (jH st) (dY st) (aS st) .none kV doc pm an (.ref c) ct),osl⟩)(hc:W.codeIn K (.ref c) x=true)(k:W.keepIn K (.ref f)=true)
 (w:K.lookup c=some ⟨wo,wd,.fields vs,ws⟩)(t:vs[11]?=some (.ref p)):yM K mg x st (c,p):=
 ⟨⟨f,_,xU l hc k,W.mg_of X G a,rfl⟩,a8o a l rfl w t⟩
end
section
theorem op_inD(hu:X.A.units+ 64<cLine):dR X (compareOp .In) (λx y H Q=>∃d ds,Dt X.K H x d/\Dt X.K H y (.list ds)/\d.canLay0=true/\(PyData.list ds).canLay0=true/\d.depth<=62/\Q (.bl (ds.any λz=>PyData.eqv z d)) H):=by
 intro ae s σ H x y v u Q I rx ry h;obtain⟨d,ds,hx,hy,lx,ly,hd,q⟩:=h;obtain⟨as,ra⟩:=Dt.reads I hx rx lx;obtain⟨bs,rb⟩:=Dt.reads I hy ry ly;exact SeqAt.in_list_reads rb ra ly lx (by have:=Nat.min_le_right (PyData.depthAll ds) d.depth;omega) ⟨.bl _,H,I,rfl,q⟩
theorem b1e(hu:X.A.units+ 64<cLine):dR X (compareOp .NotIn) (λx y H Q=>∃d ds,Dt X.K H x d/\Dt X.K H y (.list ds)/\d.canLay0=true/\(PyData.list ds).canLay0=true/\d.depth<=62/\Q (.bl (!ds.any λz=>PyData.eqv z d)) H):=by
 intro ae s σ H x y v u Q I rx ry h;obtain⟨d,ds,hx,hy,lx,ly,hd,q⟩:=h;obtain⟨as,ra⟩:=Dt.reads I hx rx lx;obtain⟨bs,rb⟩:=Dt.reads I hy ry ly;exact SeqAt.notIn_list_reads rb ra ly lx (by have:=Nat.min_le_right (PyData.depthAll ds) d.depth;omega) ⟨.bl _,H,I,rfl,q⟩
end
abbrev iW(p:Str×Str):PyData:=.tuple [.str p.1,.str p.2]
theorem a3P(p q:Str×Str):PyData.eqv (iW p) (iW q)=decide (p=q):=by
 obtain⟨a,b⟩:=p;obtain⟨c,d⟩:=q;show(a==c&&(b==d&&true))=decide ((a,b)=(c,d));rw[Bool.and_true];by_cases h1:a=c
 ·by_cases h2:b=d
  ·subst h1;subst h2
   simp
  ·rw[decide_eq_false (λe=>h2 (Prod.mk.inj e).2),beq_eq_false_iff_ne.mpr h2,Bool.and_false]
 ·rw[decide_eq_false (λe=>h1 (Prod.mk.inj e).1),beq_eq_false_iff_ne.mpr h1,Bool.false_and]
theorem a3S(p:Str×Str):∀ps:List (Str×Str),((ps.map iW).any λz=>PyData.eqv z (iW p))=decide (p∈ps)
 | []=>rfl
 |q::ps=>by
  rw[List.map_cons,List.any_cons,a3S p ps,a3P];by_cases h:p=q
  ·subst h;simp
  ·rw[decide_eq_false (λe=>h e.symm),Bool.false_or]
   simp[h]
noncomputable def eF (ps:List (Str×Str)):List (Str×Str):=ps.foldl (λacc p=>if p∈acc then acc else acc++ [p]) []
theorem a7n(ps:List (Str×Str))(p:Str×Str):eF (ps++ [p])=if p∈eF ps then eF ps else eF ps++ [p]:=by
 unfold eF;rw[List.foldl_append];rfl
theorem a5N:∀ps:List (Str×Str),(eF ps).length<=ps.length:=by
 suffices h:∀(ps acc:List (Str×Str)),(ps.foldl (λacc p=>if p∈acc then acc else acc++ [p]) acc).length<=acc.length+ ps.length by
  intro ps;have:=h ps [];simpa [eF] using this
 intro ps
 induction ps with
 |nil=>intro acc;simp
 |cons p ps ih=>
  intro acc;rw[List.foldl_cons];refine Nat.le_trans (ih _) ?_;split
  ·simp
  ·simp;omega
theorem a8J:∀{ps:List (Str×Str)} {p:Str×Str},p∈eF ps->p∈ps:=by
 suffices h:∀(ps acc:List (Str×Str)) (p:Str×Str),p∈ps.foldl (λacc p=>if p∈acc then acc else acc++ [p]) acc->p∈acc\/ p∈ps by
  intro ps p hp
  rcases h ps [] p hp with h|h
  ·cases h
  ·exact h
 intro ps
 induction ps with
 |nil=>intro acc p h;exact .inl h
 |cons q ps ih=>
  intro acc p h;rw[List.foldl_cons]at h
  rcases ih _ p h with h|h
  ·split at h
   ·exact .inl h
   ·rcases List.mem_append.mp h with h|h
    ·exact .inl h
    ·exact .inr (by rw[List.mem_singleton.mp h];exact List.mem_cons_self)
  ·exact .inr (List.mem_cons_of_mem _ h)
def Fz(o:Obj):HO:=.frz o (.ext λ_=>True)
theorem a5o{o:Obj}(e:h.get? a=some o):cX P w H h a (Fz o):=⟨e,trivial,⟨o,e⟩,λ_ _ _ _=>trivial⟩
def a2e(q:Str)(o:Obj):Prop:=∃vs t,o.data= .fields vs/\vs[1]?=some (.str q t)
def iZ(P:Addr)(S:List Addr):HO:=.ext λh=>∃ps:Array Value,h.get? P=some (W.tabObj ps)/\TriplesOk ps.toList/\∀pos cv,codeAmong pos ps.toList=some cv->∃c∈S,cv= .ref c
def a3B(q:Str)(H:Hp)(P:Addr):Prop:=∃S,H P=some (iZ P S)/\∀c∈S,∃o,H c=some (Fz o)/\a2e q o
def b1h(q:Str)(params:Arguments)(body:Expr)(ai:Scope)(clos:List (Str×Addr))(H:Hp)(fa:Addr):Prop:=
 ∃pm c ctv o,H fa=some (Fz (W.kla_obj "<lambda>" q params body ai clos pm c ctv))/\H c=some (Fz o)/\a2e q o
theorem a1N{ps:Array Value}{S:List Addr}(e:h.get? a=some (W.tabObj ps))(t:TriplesOk ps.toList)(c:∀pos cv,codeAmong pos ps.toList=some cv->∃c∈S,cv= .ref c):cX P w H h a (iZ a S):=
 ⟨⟨ps,e,t,c⟩,⟨_,e⟩,λh1 h2 ⟨qs,e1,t1⟩ k=>⟨qs,k _ e1,t1⟩⟩
theorem a1U{pos:Pos}{l c:Nat}{a:Addr}{cv:Value}:∀{xs:List Value},TriplesOk xs->codeAmong pos (xs++ [rawInt l,rawInt c,.ref a])=some cv->codeAmong pos xs=some cv\/ cv= .ref a
 | [],_,h=>by
  right;simp only[List.nil_append,rawInt,codeAmong]at h;split at h
  ·exact(Option.some.inj h).symm
  ·cases h
 | .int x _:: .int y _::z::fI,t,h=>by
  simp only[List.cons_append,codeAmong]at h|-
  split at h
  ·rename_i e
   rw[if_pos e];exact .inl h
  ·rename_i e
   rw[if_neg e];exact a1U (xs:=fI) t h
theorem a4m{c:Addr}{o:Obj}(x:dN P w H h)(hn:H c=none)(e:h.get? c=some o):dN P w (upd H c (Fz o)) h:=λb u q=>by
 by_cases hb:b=c
 ·subst hb;rw[aG]at q;cases q;exact a5o e
 ·rw[aF hb]at q
  exact(x b u q).stay (λ_ _ _ z=>z) (λd z=>by rw[aF (bE z hn)];exact z) λd xs z=>by rw[aF (bE z hn)];exact z
def a88(P:Addr)(H H':Hp):Prop:=∀b o,b≠P->H b=some o->H' b=some o
inductive a4V(P:Addr)(q:Str)(params:Arguments)(body:Expr)(ai:Scope)(clos:List (Str×Addr))(H:Hp)(Q:VK):Prop
 |mk:(a3B q H P)->(∀a H',H a=none->a88 P H H'->a3B q H' P->b1h q params body ai clos H' a->Q (.ref a) H')->a4V P q params body ai clos H Q
def a9c(P:Addr)(q:Str)(params:Arguments)(body:Expr)(ai:Scope)(clos:List (Str×Addr)):TE:=λ_ H Q=>a4V P q params body ai clos H Q
section
theorem a8N{params:Arguments}{body:Expr}{c P:Addr}{clos:List (Str×Addr)}(M:qF X.mg X.base c P)(hc:X.env.code= .ref c)(hcl:closureFor ai X.env=pure clos)(hdef:defaultsOf params X.env=([],[])):
 PE X (.Lambda params body ai pos) (a9c P (X.env.qual++ "<lambda>") params body ai clos):=by
 intro ae s σ H Q I h;obtain⟨⟨S,hP,hS⟩,q⟩:=h;obtain⟨⟨ps,e,t,tc⟩,_,_⟩:=I.hok P _ hP;have hg:s.heap.Ns mainGlobals X.mg:=I.mod.glob.keeps I.bk;have C:=M.hd.keeps I.bk;have hb:s.heap.BuiltinsAt X.mg P:=let ⟨bm,o,b1,b2,b3,b4,b5,r⟩:=M.bt;⟨bm,o,b1,b2,b3,b4,I.bk _ _ b5,r⟩;have hgP:mainGlobals≠P:=λz=>by
  obtain⟨o,es,ep,e1,hd,_⟩:=hg;rw[z,e]at e1;cases e1;cases hd
 refine W.kla_eval hdef ?_
 cases hf:codeAmong pos ps.toList with
 |none=>
  refine W.kla_makeFunction (mg:=X.mg) hcl I.ok.glob hg hc C e t hf hgP hb λc' ctv h' tk hx hge hlt hrec htb=> ?_
  obtain⟨c1,oc,vs,tq,ec,goc,doc,dq⟩:=hrec
  obtain rfl:c'=c1:=by cases ec;rfl
  have nP:∀b,H b=none->b≠P:=λb n z=>by rw[z,hP]at n;cases n
  have hPlt:P<s.heap.objs.size:=Heap.lt_size e;have goc':(h'.push (W.kla_obj "<lambda>" (X.env.qual++ "<lambda>") params body ai clos ((X.mg "__name__").getD .none) c' ctv)).get? c'=some oc:=Heap.get?_push_of_some _ goc;have cP:c'≠P:=Nat.ne_of_gt (Nat.lt_of_lt_of_le hPlt hge);have aP:h'.objs.size≠P:=Nat.ne_of_gt (Nat.lt_of_lt_of_le hPlt (Nat.le_of_lt (Nat.lt_of_le_of_lt hge hlt)));have ac:h'.objs.size≠c':=Nat.ne_of_gt hlt;have fr:∀b,s.heap.objs.size<=b->H b=none:=λb z=>I.hok.fresh z
  have hk:∀b u,b≠P->s.heap.get? b=some u->(h'.push (W.kla_obj "<lambda>" (X.env.qual++ "<lambda>") params body ai clos ((X.mg "__name__").getD .none) c' ctv)).get? b=some u:=λb u nb eb=>Heap.get?_push_of_some _ (hx b u nb eb)
  have hok1:dN X.prog X.w (upd H P (iZ P (c'::S))) (h'.push (W.kla_obj "<lambda>" (X.env.qual++ "<lambda>") params body ai clos ((X.mg "__name__").getD .none) c' ctv)):=
   I.hok.write (x:=P) (e:=P) (by rw[hP];trivial) (.inl rfl) hk ⟨_,Heap.get?_push_of_some _ htb⟩ (a1N (Heap.get?_push_of_some _ htb) (a6g t) λpos cv z=>by
    rw[Array.toList_append]at z
    rcases a1U t z with z|z
    ·obtain⟨d,hd,r⟩:=tc pos cv z
     exact⟨d,List.mem_cons_of_mem _ hd,r⟩
    ·exact⟨c',List.mem_cons_self,z⟩)
  have n1:upd H P (iZ P (c'::S)) c'=none:=by rw[aF cP];exact fr _ hge
  have hok2:=a4m hok1 n1 goc'
  have n2:upd (upd H P (iZ P (c'::S))) c' (Fz oc) h'.objs.size=none:=by rw[aF ac,aF aP];exact fr _ (Nat.le_of_lt (Nat.lt_of_le_of_lt hge hlt))
  have hok3:=a4m hok2 n2 (Heap.get?_push_size _ rfl);have sm:∀b,b≠P->H b≠none->upd (upd (upd H P (iZ P (c'::S))) c' (Fz oc)) h'.objs.size (Fz (W.kla_obj "<lambda>" (X.env.qual++ "<lambda>") params body ai clos ((X.mg "__name__").getD .none) c' ctv)) b=H b:=λb z1 z2=>by
   have y1:b≠h'.objs.size:=λz=>z2 (by rw[z];exact fr _ (Nat.le_of_lt (Nat.lt_of_le_of_lt hge hlt)))
   have y2:b≠c':=λz=>z2 (by rw[z];exact fr _ hge)
   rw[aF y1,aF y2,aF z1]
  have sv:∀b o,b≠P->H b=some o->upd (upd (upd H P (iZ P (c'::S))) c' (Fz oc)) h'.objs.size (Fz (W.kla_obj "<lambda>" (X.env.qual++ "<lambda>") params body ai clos ((X.mg "__name__").getD .none) c' ctv)) b=some o:=λb o z1 z2=>by
   rw[sm b z1 (by rw[z2];intro z;cases z)];exact z2
  have J:=I.step (h':=h'.push (W.kla_obj "<lambda>" (X.env.qual++ "<lambda>") params body ai clos ((X.mg "__name__").getD .none) c' ctv)) (g':=s.gens) (t':=tk) (d':=s.drawn) (ch:=[]) (λ_ z=>nomatch z)
   (λb o _ _ _ eb n=>hk b o (nP b n) eb) (λb o _ _ _ eb n=>⟨o.slots,hk b o (nP b n) eb⟩)
   (λb o _ eb n=>by rw[aF (Nat.ne_of_lt (Nat.lt_of_lt_of_le (Heap.lt_size eb) (Nat.le_of_lt (Nat.lt_of_le_of_lt hge hlt)))),aF (Nat.ne_of_lt (Nat.lt_of_lt_of_le (Heap.lt_size eb) hge)),aF (nP b n)];exact n)
   (λb o _ eb=>by
    by_cases z:b=P
    ·subst z;exact⟨_,Heap.get?_push_of_some _ htb⟩
    ·exact⟨o,hk b o z eb⟩)
   (λb xs z=>sv b _ (λy=>by rw[y,hP]at z;cases z) z) (λb o u z=>sv b _ (λy=>by rw[y,hP]at z;cases z) z) (λb ps z=>⟨#[],by rw[sv b _ (λy=>by rw[y,hP]at z;cases z) z];simp⟩)
   (λm ⟨o,es,ep,ho,r⟩=>⟨o,es,ep,hk _ o (nP _ I.free) ho,r⟩) hok3 I.bare
  refine⟨.ref h'.objs.size,_,J,rfl,q _ _ (fr _ (Nat.le_of_lt (Nat.lt_of_le_of_lt hge hlt))) (λb o z1 z2=>sv b o z1 z2) ⟨c'::S,?_,λd hd=> ?_⟩ ⟨_,c',ctv,oc,aG,?_,vs,tq,doc,dq⟩⟩
  ·rw[aF (Ne.symm aP),aF (Ne.symm cP),aG]
  ·rcases List.mem_cons.mp hd with rfl|hd
   ·exact⟨oc,by rw[aF (Ne.symm ac),aG],vs,tq,doc,dq⟩
   ·obtain⟨o,e1,e2⟩:=hS d hd
    exact⟨o,sv d _ (λy=>by rw[y,hP]at e1;cases e1) e1,e2⟩
  ·rw[aF (Ne.symm ac),aG]
 |some cv=>
  obtain⟨d,hd,rfl⟩:=tc _ _ hf;obtain⟨od,e1,e2⟩:=hS d hd;refine W.kla_makeFunctionHit (mg:=X.mg) hcl I.ok.glob hg hc C e t hf hb λctv h' tk hk hsz=> ?_
  have fr:H h'.objs.size=none:=I.hok.fresh hsz;have sv:∀b o,H b=some o->upd H h'.objs.size (Fz (W.kla_obj "<lambda>" (X.env.qual++ "<lambda>") params body ai clos ((X.mg "__name__").getD .none) d ctv)) b=some o:=λb o z=>by
   rw[aF (bE z fr)];exact z
  refine⟨.ref h'.objs.size,_,I.laid (a:=h'.objs.size) (o:=Fz (W.kla_obj "<lambda>" (X.env.qual++ "<lambda>") params body ai clos ((X.mg "__name__").getD .none) d ctv)) (λb o eb=>Heap.get?_push_of_some _ (hk b o eb)) hsz (a5o (Heap.get?_push_size _ rfl)),rfl,
   q _ _ fr (λb o _ z=>sv b o z) ⟨S,sv _ _ hP,λd' hd'=> ?_⟩ ⟨_,d,ctv,od,aG,sv _ _ e1,e2⟩⟩
  obtain⟨o,e3,e4⟩:=hS d' hd';exact⟨o,sv _ _ e3,e4⟩
end
abbrev Lend:=Addr->Option Obj
abbrev rK(tabs:List (Addr×Addr))(H:Hp):Prop:=∀z∈tabs,H z.2=some (iZ z.2 [])
abbrev nA(tabs:List (Addr×Addr))(H:Hp):Prop:=∀z∈tabs,∃S,H z.2=some (iZ z.2 S)
theorem a81{mb:Str->Option Value}{k:Nat}{s₁:Shared}{vs:List Value}{ns:List Int}{tabs:List (Addr×Addr)}
 (KX:K.In s₁.heap)(hns:s₁.heap.Ns mainGlobals mg)(hb:s₁.heap.Ns builtinsNs mb)(hbb:∀x:Str,x≠ "__name__" ->mb x=bootBuiltins x)(hlim:s₁.heap.NoLimit)(hg:s₁.gens= #[])
 (ha:s₁.heap.get? a=some {cls:=.type "list",data:=.seq vs.toArray})(hi:IntsAre vs ns)(hl:ns.length<=sizeLine)(hr:cR k callerA)
 (hT:∀z∈tabs,W.CodeHd s₁.heap z.1 z.2/\s₁.heap.get? z.2=some (W.tabObj #[])/\K.lookup z.2=none)
 (hbm:∃bm ob,mg "__builtins__"=some (.ref bm)/\bm≠builtinsNs/\s₁.heap.get? bm=some ob/\ob.cls= .type "module" /\ob.dict=some builtinsNs/\ob.data= .plain)
 (F:∀af:Heap,K.In af->af.Ns mainGlobals mg->(∀z∈tabs,qF mg af z.1 z.2)->gJ P w K mg af CX k fa fd [x] sp)(hbind:∀(s:Shared) (u:Value),BindsTo s fd ⟨[u],[]⟩ [(x,u)])
 (hsp:∀H:Hp,rK tabs H->aU K H a (ns.map V.int)->sp [.ref a] H (λv H'=>v= .bl true/\nA tabs H') λ_ _ _=>False)
 (hCX:∀H e s',CX [] H s₁ (λ_ _ _=>False) e s'->False):
 codeAny (model P w) callerA (.call (.ref fa) ⟨[.ref a],[]⟩) (λr s'=>r= .ok (.ret (.bool true))/\OldK s₁.heap s'.heap/\s'.os=s₁.os/\AllBare s'.gens) s₁:=by
 have rv:=a4j hi;have lenV:=hi.length;have neT:∀z∈tabs,z.2≠a:=λz hz e=>by
  have e1:=(hT z hz).2.1;rw[e,ha]at e1;cases e1
 have core:∀H:Hp,rK tabs H->(∀b,H b=none\/ (b=a/\K.lookup a=none/\∃o xs,H b=some (.frz o (.lst xs)))\/ ∃z∈tabs,b=z.2)->aU K H a (ns.map V.int)->dN P w H s₁.heap->
  codeAny (model P w) callerA (.call (.ref fa) ⟨[.ref a],[]⟩) (λr s'=>r= .ok (.ret (.bool true))/\OldK s₁.heap s'.heap/\s'.os=s₁.os/\AllBare s'.gens) s₁:=by
  intro H hTb hO hS hok;have base_of:∀{b:Addr} {o:Obj},s₁.heap.get? b=some o->H b=none->(lG s₁.heap H).get? b=some o:=λe n=>a5B e n
  have free:∀{b:Addr} {o:Obj},s₁.heap.get? b=some o->o≠{cls:=.type "list",data:=.seq vs.toArray} ->o≠W.tabObj #[] ->H b=none:=fun{b o} e n1 n2=>by
   rcases hO b with z|⟨rfl,_,_⟩|⟨z,hz,rfl⟩
   ·exact z
   ·rw[ha]at e;exact absurd (Option.some.inj e).symm n1
   ·rw[(hT z hz).2.1]at e;exact absurd (Option.some.inj e).symm n2
  have noA:∀{b:Addr} {o:Obj} {es:Array DictEntry} {ep:Nat},s₁.heap.get? b=some o->o.data= .dict es ep->H b=none:=fun{b o es ep} e d=>
   free e (λz=>by rw[z]at d;cases d) (λz=>by rw[z]at d;cases d)
  have nsK:∀{b:Addr} {m:Str->Option Value},s₁.heap.Ns b m->(lG s₁.heap H).Ns b m:=fun{b m} ⟨o,es,ep,e,d,r⟩=>⟨o,es,ep,base_of e (noA e d),d,r⟩
  have hKb:K.In (lG s₁.heap H):=λb o e=>base_of (KX b o e) (by
   rcases hO b with z|⟨rfl,z,_⟩|⟨z,hz,rfl⟩
   ·exact z
   ·rw[z]at e;cases e
   ·rw[(hT z hz).2.2]at e;cases e)
  have hM:Mod K mg (lG s₁.heap H):=⟨hKb,nsK hns,⟨mb,nsK hb,hbb⟩,let ⟨mc,h1,h2⟩:=hlim;⟨mc,nsK h1,h2⟩⟩;have e0:nO P w K mg (lG s₁.heap H) callerA [] s₁ H:=⟨rfl,hM,λb o e=>b1b e,Nat.le_of_eq (a7M _ _),trivial,λb hb=>absurd (show b∈([]:List Addr) from hb) (by simp),hok,.of_eq hg⟩;have hMk:∀z∈tabs,qF mg (lG s₁.heap H) z.1 z.2:=λz hz=>by
   obtain⟨⟨o,ws,file,tf,flags,tg,inF,text,tt,e1,e2,r⟩,e3,_⟩:=hT z hz;obtain⟨bm,ob,b1,b2,b3,b4,b5,b6⟩:=hbm;refine⟨⟨o,ws,file,tf,flags,tg,inF,text,tt,base_of e1 (free e1 (λq=>by rw[q]at e2;exact absurd (Value.type.inj e2) (by decide)) (λq=>by rw[q]at e2;cases e2)),e2,r⟩,bm,ob,b1,b2,λq=> ?_,λq=> ?_,base_of b3 (free b3 (λq=>by rw[q]at b4;exact absurd (Value.type.inj b4) (by decide)) (λq=>by rw[q]at b4;cases b4)),b4,b5,b6⟩
   ·obtain⟨o',es,ep,e',d',_⟩:=hns
    rw[q,e']at b3;cases b3;rw[d']at b6;cases b6
   ·rw[q,e3]at b3;cases b3;cases b4
  refine codeAny_mono ((F _ hKb (nsK hns) hMk).run callerA [] s₁ H ⟨[.ref a],[]⟩ [.ref a] [.ref a] _ _ hr e0 (hbind s₁ (.ref a)) (.cons rfl .nil) (hsp H hTb hS)) λr s' h=> ?_
  cases r with
  |error e=>exact(hCX H e s' h).elim
  |ok fl=>
   cases fl with
   |next=>exact False.elim h
   |brk=>exact False.elim h
   |cont=>exact False.elim h
   |ret u=>
    obtain⟨v,H',os,bare,un,hok',r',q⟩:=h;obtain⟨q',hT'⟩:v= .bl true/\nA tabs H':=q;subst q';obtain rfl:u=Value.bool true:=r';refine⟨rfl,⟨λb o e=> ?_,λb o e=>un.there b o e (by simp)⟩,os,bare⟩
    rcases hO b with z|⟨rfl,_,ob,xs,z⟩|⟨z,hz,rfl⟩
    ·exact .inl (un.keep b o e z (by intro z;exact absurd (show b∈([]:List Addr) from z) (by simp)) (by simp))
    ·have z2:=un.frzs b ob _ z
     obtain⟨e1,_⟩:=hok b _ z;obtain⟨e2,_⟩:=hok' b _ z2;rw[e]at e1;cases e1;exact .inl e2
    ·obtain⟨S4,z4⟩:=hT' z hz
     obtain⟨⟨ps,e4,_⟩,_⟩:=hok' z.2 _ z4;have e3:=(hT z hz).2.1;rw[e3]at e;cases e;exact .inr (.inl ⟨((hT z hz).1.tab e3).isCodeTable,rfl,#[],ps,rfl,by rw[e4,Array.empty_append]⟩)
 have hTok:∀(H:Hp) (z:Addr×Addr),z∈tabs->cX P w H s₁.heap z.2 (iZ z.2 []):=λH z hz=>a1N (hT z hz).2.1 trivial λpos cv e=>by cases e
 classical
 let Ht:Hp:=λb=>if b∈tabs.map (·.2) then some (iZ b []) else none
 have hHt:rK tabs Ht:=λz hz=>if_pos (List.mem_map_of_mem hz)
 have ofHt:∀b u,Ht b=some u->∃z∈tabs,b=z.2/\u=iZ z.2 []:=λb u e=>by
  by_cases hb:b∈tabs.map (·.2)
  ·have e':=(if_pos hb).symm.trans e
   obtain⟨z,hz,rfl⟩:=List.mem_map.mp hb;exact⟨z,hz,rfl,(Option.some.inj e').symm⟩
  ·have e':=(if_neg hb).symm.trans e
   cases e'
 cases hk:K.lookup a with
 |some o=>
  have e:=KX a o hk;rw[ha]at e;cases e;refine core Ht hHt (λb=> ?_) (.inr ⟨_,vs.toArray,_,hk,rfl,rfl,rfl,by rw[List.size_toArray,lenV];exact hl,by simpa using rv⟩) (λb u z=> ?_)
  ·cases q:Ht b with
   |none=>exact .inl rfl
   |some u=>obtain⟨z,hz,e,_⟩:=ofHt b u q;exact .inr (.inr ⟨z,hz,e⟩)
  ·obtain⟨y,hy,rfl,rfl⟩:=ofHt b u z
   exact hTok _ y hy
 |none=>
  refine core (λb=>if b=a then some (.frz {cls:=.type "list",data:=.seq vs.toArray} (.lst (ns.map V.int))) else Ht b) (λz hz=> ?_) (λb=> ?_) (.inl (.inr ⟨{cls:=.type "list",data:=.seq vs.toArray},if_pos rfl⟩)) (λb u z=> ?_)
  ·exact(if_neg (neT z hz)).trans (hHt z hz)
  ·by_cases hb:b=a
   ·exact .inr (.inl ⟨hb,hk,_,_,if_pos hb⟩)
   ·cases q:Ht b with
    |none=>exact .inl (if_neg hb)
    |some u=>obtain⟨z,hz,e,_⟩:=ofHt b u q;exact .inr (.inr ⟨z,hz,e⟩)
  ·by_cases hb:b=a
   ·have z':=(if_pos hb).symm.trans z
    cases z';subst hb;exact⟨ha,by rw[List.length_map];exact hl,vs,_,rv,ha⟩
   ·have z':=(if_neg hb).symm.trans z
    obtain⟨y,hy,rfl,rfl⟩:=ofHt b u z';exact hTok _ y hy
structure a8Q where
 nx:St->Hp->Prop
 rt:V->St->Hp->Prop
abbrev TSR:=a8Q->St->Hp->Prop
section
variable{s:Shared}{E:XK}
theorem yK:PassesOwn (model P w) (dW P w K mg af N qual ai f cd A ag s H E).A (dW P w K mg af N qual ai f cd A ag s H E).env (dW P w K mg af N qual ai f cd A ag s H E).xe:=PassesOwn.leaving
end
theorem a5p:∀{Cs:List Addr} {its:List Value},bK (Cs.map V.ref) its->its=Cs.map Value.ref
 | [],_,h=>by cases h;rfl
 |C::Cs,_,h=>by
  cases h with
  |cons r t=>
   cases r;rw[a5p t];rfl
theorem a3i{K:Fg}{t:Value}:∀{Cs:List Addr},(∀C∈Cs,W.kitOne K t (.ref C)=some false)->W.kitAny K t (Cs.map Value.ref)=some false
 | [],_=>rfl
 |C::Cs,h=>by
  show(match W.kitOne K t (.ref C)with|some true=>some true|some false=>W.kitAny K t (Cs.map Value.ref)|none=>none)=_;rw[h C (by simp)];exact a3i λD hD=>h D (by simp[hD])
theorem a6V:iC X (.builtin "isinstance") (λxs H Q=>∃(ea C tp:Addr) (Cs:List Addr),xs= [.ref ea,.ref tp] /\H ea=some (mG ea (.ref C))/\iS X.K C/\H tp=some (.tup (Cs.map V.ref))/\(∀D∈Cs,W.kitOne X.K (.ref C) (.ref D)=some false)/\Q (.bl false) H):=by
 intro ae s σ H xs us Q I r h;obtain⟨ea,C,tp,Cs,rfl,hea,hk,htp,hno,q⟩:=h;obtain⟨u,c,rfl,r1,r2⟩:=r.two;cases r1;cases r2;obtain⟨⟨o,h1,h2,h3,h4⟩,_⟩:=I.hok _ _ hea;obtain⟨_,its,rv,⟨ot,g1,g2,n,g3⟩⟩:=(show cX X.prog X.w H s.heap tp (.tup (Cs.map V.ref)) from I.hok _ _ htp);obtain⟨cl,dd,dat,sl⟩:=ot;dsimp only at g2 g3;subst g2 g3;have e:=a5p rv;subst e;refine W.kia_tup (a4l hk) I.kIn ⟨o,h1,h2,h4,?_⟩ g1 (a3i hno) (λz=>nomatch z) λtk=>⟨.bl false,H,I.tok tk,rfl,q⟩
 rw[h3];trivial
structure aR(X:Cx)(e:Expr)(t:TE):Prop where
 run:PE X e t
structure fN(X:Cx)(es:List Expr)(t:TA):Prop where
 run:PA X es t
structure iB(X:Cx)(st:Stmt)(t:TS):Prop where
 run:PS X st t
structure vG(X:Cx)(st:List Stmt)(t:TS):Prop where
 run:dL X st t
section
variable{t u:TA}
theorem aO:fN X [] eL:=⟨aC⟩
theorem aZ{k:Nat}(ha:aR X (.Tuple elts k pos) te)(hr:fN X es t):fN X (.Tuple elts k pos::es) (dM te t):=⟨aA ha.run hr.run rfl⟩
theorem qC(ha:aR X (.List elts pos) te)(hr:fN X es t):fN X (.List elts pos::es) (dM te t):=⟨aA ha.run hr.run rfl⟩
theorem aH{c:Const}{k:Nat}(ha:aR X (.Constant c k pos) te)(hr:fN X es t):fN X (.Constant c k pos::es) (dM te t):=⟨aA ha.run hr.run rfl⟩
theorem rG{ks:List (Option Expr)}{vs:List Expr}(ha:aR X (.Dict ks vs pos) te)(hr:fN X es t):fN X (.Dict ks vs pos::es) (dM te t):=⟨aA ha.run hr.run rfl⟩
theorem kY{a b:Expr}{op:Operator}(ha:aR X (.BinOp a op b pos) te)(hr:fN X es t):fN X (.BinOp a op b pos::es) (dM te t):=⟨aA ha.run hr.run rfl⟩
theorem uS{a:Expr}{op:UnaryOp}(ha:aR X (.UnaryOp op a pos) te)(hr:fN X es t):fN X (.UnaryOp op a pos::es) (dM te t):=⟨aA ha.run hr.run rfl⟩
theorem gE{f:Expr}{as:List Expr}{kw:List Keyword}(ha:aR X (.Call f as kw pos) te)(hr:fN X es t):fN X (.Call f as kw pos::es) (dM te t):=⟨aA ha.run hr.run rfl⟩
theorem cW(ha:aR X (.Name x pos) te)(hr:fN X es t):fN X (.Name x pos::es) (dM te t):=⟨aA ha.run hr.run rfl⟩
theorem a2J{v i:Expr}(ha:aR X (.Subscript v i pos) te)(hr:fN X es t):fN X (.Subscript v i pos::es) (dM te t):=⟨aA ha.run hr.run rfl⟩
theorem bA{k:Nat}(h:fN X es t):aR X (.Tuple es k pos) (jP t):=⟨dU h.run⟩
theorem cQ(h:fN X es t):aR X (.List es pos) (kO t):=⟨dQ h.run⟩
theorem aK{x j}:aR X (.Constant (.str x) j pos) (tC (.str x)):=⟨aW⟩
theorem dP{i j}:aR X (.Constant (.int i) j pos) (tC (.int i)):=⟨aT⟩
theorem uA{b j}:aR X (.Constant (.bool b) j pos) (tC (.bl b)):=⟨xQ⟩
theorem gW{j}:aR X (.Constant .none j pos) (tC .non):=⟨iD⟩
theorem eY{op:Operator}{a b:Expr}{ta:TE}(ho:dR X (binaryOp op) r)(ha:aR X a ta)(hb:aR X b tb):aR X (.BinOp a op b pos) (hJ r ta tb):=⟨bX ho ha.run hb.run⟩
end
section
variable{fI:List Stmt}{t u:TS}
theorem dF(hN:X.N.Nodup)(hi:X.N[i]?=some x)(hx:rJ X.env.scope x)(he:aR X e te)(hs:swapsWith e (some (.Name x pos')) pos.line X.env=pure false:=by rfl)(hf:X.fn x=true\/ X.env.scope.names.lookup x=some .local:=by first|exact .inl rfl|exact .inr rfl|assumption):
 iB X (.Assign [.Name x pos'] e pos) (lI te (fT i)):=⟨cD hN hi hx he.run hs hf⟩
theorem cH(h1:iB X st t)(h2:vG X fI u):vG X (st::fI) (jD t u):=⟨aJ h1.run h2.run⟩
theorem mX(h1:iB X st t):vG X [st] t:=⟨aI h1.run⟩
theorem oY(he:aR X e te):iB X (.Return (some e) pos) (vB te):=⟨cC he.run⟩
end
inductive a2G(R:Addr->Sp->Prop)(m:Str)(E:XK)(t:TA)(σ:St)(Q:VK)(x:V)(H1:Hp):Prop
 |mk (C:_) (sp:_) (a:_) (dx:_) (fs:_):(R C sp)->(x= .ref a)->(H1 a=some (.ins C dx fs))->(fs.lookup m=none)->(t σ H1 λvs H2=>sp (x::vs) H2 Q E)->a2G R m E t σ Q x H1
def a6h(R:Addr->Sp->Prop)(m:Str)(E:XK)(ta:TE)(t:TA):TE:=λσ H Q=>ta σ H (a2G R m E t σ Q)
section
variable{k:Nat}{R:Addr->Sp->Prop}{E:XK}{m:Str}{o:Expr}{t:TA}{ta:TE}
theorem yW{pl:Sem Bool}(he:PE X o ta)(hR:∀C sp,R C sp->dC X.K C/\aQ X.prog X.w X.K X.mg X.base CX k C m ps sp)(hr:cR k X.A)(hx:iA CX X E)(ha:PA X (e::es) t)
 (hst:starEach (e::es) X.env=(false,eval e X.env)::starEach es X.env:=by rfl)(hpl:(backTo pos (starEach es X.env)).any (·.1)=false:=by rfl)
 (ht:eval (.Call (.Attribute o m apos) (e::es) [] pos) X.env=(do
  let ov<- eval o X.env
  standAt apos.atName
  let (f,first)<- holding [ov] (getMethod ov m pl)
  callWith pos f first (backTo pos (starEach (e::es) X.env)) (backToKw pos (keywordEach [] X.env))):=by rfl):
 PE X (.Call (.Attribute o m apos) (e::es) [] pos) (a6h R m E ta t):=by
 intro ae s σ H Q I h;refine W.methodCall_KW (pl:=pl) (aV (he ae s σ H _ I h) ?_) ht;rintro u s1 ⟨x,H1,I1,rx,C,sp,a,dx,fs,hC,ex,ea,l,q⟩;obtain⟨c,G⟩:=hR C sp hC;obtain⟨f,fd,F,hm,hb⟩:=G.ex;subst ex;obtain rfl:u=Value.ref a:=rx;refine wJ I1 ea c hm l ?_;refine W.callWith_K (first:=[.ref a]) (h₀:=X.base) I.ok.mod.kin hm.kp (aV (ha pos ae s1 σ H1 _ I1 q) λus s2 ⟨vs,H2,I2,r,q2⟩=>⟨I2.kIn,?_⟩) hst hpl;exact rN (us:=.ref a::us) (vs:=.ref a::vs) F hr hb .nil hx I2 (.cons rfl r) (by rw[List.append_nil];exact q2)
end
structure wE(X:Cx)(pos:Pos)(keys:List (Option Expr))(values:List Expr)(trs:List (TE×TE)):Prop where
 run:uH X pos keys values trs
section
variable{keys:List (Option Expr)}{values:List Expr}{k v:Expr}{tk tv:TE}
theorem wL:wE X pos [] [] []:=⟨a2F⟩
theorem qB(hk:aR X k tk)(hv:aR X v tv)(hr:wE X pos keys values trs):wE X pos (some k::keys) (v::values) ((tk,tv)::trs):=⟨vR hk.run hv.run hr.run⟩
theorem wW(h:wE X pos keys values trs)(hall:keys.all (·.isSome)=true:=by rfl)(hl:keys.length=values.length:=by rfl)(h0:keys≠ []:=by simp)(h15:keys.length<=15:=by decide):aR X (.Dict keys values pos) (zX trs):=⟨a3t h.run hall hl h0 h15⟩
end
theorem nB{st:List Stmt}(h:∃t,vG X st t/\t D σ H):∃t,dL X st t/\t D σ H:=let ⟨t,h1,h2⟩:=h;⟨t,h1.run,h2⟩
section
variable{t u:TS}
def a9K(X:Cx)(t:TS):TS:=λ_ σ H=>∃a o kvs,lQ X a/\H a=some (.frz o (.dK kvs))/\t ⟨λ_ _=>False,λ_ _=>False,λ_ _=>False,λ_ _=>False⟩ σ (upd H a (.dK kvs))
theorem a0N(h:PS X st t):PS X st (a9K X t):=by
 intro ae s σ H D I ⟨a,o,kvs,nf,e,q⟩;refine aV (h ae s σ _ _ (I.thaw nf e) q) λf s' q=> ?_
 cases f with
 |next=>obtain⟨_,_,_,q⟩:=q;exact q.elim
 |cont=>obtain⟨_,_,_,q⟩:=q;exact q.elim
 |brk=>obtain⟨_,_,_,q⟩:=q;exact q.elim
 |ret v=>obtain⟨_,_,_,_,_,q⟩:=q;exact q.elim
def b0S(t u:TS):TS:=λD σ H=>t D σ H\/ u D σ H
theorem a6U(h:PS X st t)(g:PS X st u):PS X st (b0S t u):=by
 intro ae s σ H D I q
 rcases q with q|q
 ·exact h ae s σ H D I q
 ·exact g ae s σ H D I q
end
theorem mE(z:Str):∀zs:List Str,eJ (.str z) (zs.map V.str)=decide (z∈zs)
 | []=>rfl
 |y::r=>by
  have ih:=mE z r
  unfold eJ at ih|-
  rw[List.map_cons,List.any_cons,ih]
  have e:jT (.str y) (.str z)=decide (y=z):=by
   by_cases h:y=z<;>simp[jT,h]
  rw[e,<- Bool.decide_or];congr 1;rw[List.mem_cons];exact propext ⟨λh=>h.imp Eq.symm id,λh=>h.imp Eq.symm id⟩
theorem jW:∀zs:List Str,(zs.map V.str).all mD=true
 | []=>rfl
 |y::r=>by
  rw[List.map_cons,List.all_cons,jW r];rfl
structure uW(K:Fg)(mg:Str->Option Value)(cls m qual:Str)(st:Stmt)(z:Addr×Addr):Prop where
 ex:∃C f fd,mg cls=some (.ref C)/\iU K m qual st f fd/\W.findIn K (.ref C) m=some (some (.ref f))/\W.isFn K (.ref f)=true/\fd.code= .ref z.1
 hd:W.codeHdIn K z.1 z.2=true
section
theorem a7u{cls m:Str}{c:Addr}{osl:Array (Option Value)}{kV:Value}(X:K.In h)(G:h.Ns mainGlobals mg)(n:W.nsIn K mainGlobals cls=some (some (.ref C)))(a:W.findIn K (.ref C) m=some (some (.ref f)))(i:W.isFn K (.ref f)=true)
 (l:K.lookup f=some ⟨oc,od,.func (W.fnOf m qual (jH st) (dY st) (aS st) .none kV doc pm an (.ref c) ct),osl⟩)(hc:W.codeIn K (.ref c) qual=true)(k:W.keepIn K (.ref f)=true)(hd:W.codeHdIn K c p=true):uW K mg cls m qual st (c,p):=
 ⟨⟨C,f,_,W.mg_of X G n,xU l hc k,a,i,rfl⟩,hd⟩
end
theorem a9b{l:W.OpenLaw}{k:Nat}{q:Program}{loose:List Str}{XP:(Str->Option Value)->Heap->Prop}{YP:World->Heap->Prop}{d:DefRec}{K:Params->Fg}{CX:World->fL}{sp:World->List (Addr×Addr)->Sp}
 (hn:l.most=some n)(hn2:n<=sizeLine)(hdf:d.params.defaults= [])(hr:cR k callerA)
 (hY:∀(w:World) (h:Heap),YP w h->(K w.params).In h)
 (F:∀(w:World) (mg:Str->Option Value) (fa:Addr) (h:Heap),YP w h->(K w.params).In h->h.Ns mainGlobals mg->mg d.name=some (.ref fa)->
  W.noTabs (K w.params)=true/\∃tabs:List (Addr×Addr),(∀z∈tabs,b0t q (K w.params) z\/ (W.codeHdIn (K w.params) z.1 z.2=true/\h.get? z.2=some (W.tabObj #[])))/\∃fd:FuncData,(∀(s:Shared) (u:Value),BindsTo s fd ⟨[u],[]⟩ [(x,u)])/\
   ∀af:Heap,(K w.params).In af->af.Ns mainGlobals mg->(∀z∈tabs,qF mg af z.1 z.2)->gJ l.prog w (K w.params) mg af (CX w) k fa fd [x] (sp w tabs))
 (hsp:∀(w:World) (tabs:List (Addr×Addr)) (H:Hp) (a:Addr) (ns:List Int),ns.length<=n->rK tabs H->aU (K w.params) H a (ns.map V.int)->sp w tabs [.ref a] H (λv H'=>v= .bl true/\nA tabs H') λ_ _ _=>False)
 (hCX:∀(w:World) (H:Hp) (s:Shared) (e:Value) (s':Shared),CX w [] H s (λ_ _ _=>False) e s'->False):
 W.WalkO q loose XP YP l.row.toRowW d [] (λf vs=>PySem.call f vs):=by
 refine Att.attach_call hn hdf λw s₀ s₁ mg mb fa o pm cd doc a vs ns G Y ho hd hcd hmg hobj hints hlen hg=> ?_
 have KX:=hY w _ Y;obtain⟨hnT,tabs,hTb,fd,hb,hF⟩:=F w mg fa _ Y KX G.T.g hmg;refine a81 KX G.T.g G.T.b G.T.builtins G.T.nolimit hg hobj hints (Nat.le_trans hlen hn2) hr (λz hz=> ?_) G.T.bmain hF hb (λH hO hS=>hsp w tabs H a ns hlen hO hS) λH e s'=>hCX w H s₁ e s'
 rcases hTb z hz with t|⟨t1,t2⟩
 ·obtain⟨y,h1,h2⟩:=t.ex
  obtain⟨d',h1⟩:=Option.isSome_iff_exists.mp h1;obtain⟨t1,t2⟩:=W.tab_of G.T KX h1 h2;exact⟨t1,t2,a21 hnT KX t2⟩
 ·exact⟨W.codeHd_of_K KX t1,t2,a21 hnT KX t2⟩
theorem a29:iC X (.builtin "isinstance") (λxs H Q=>∃x T t k,xs= [x,.ty T] /\hZ X.K H x t/\W.kitOne X.K t (.type T)=some k/\Q (.bl k) H):=by
 intro ae s σ H xs us Q I r h;obtain⟨x,T,t,k,rfl,ty,e,q⟩:=h
 cases r with
 |cons r1 rr=>
  cases rr with
  |cons r2 rr=>
   cases rr;cases r2;exact b1d I r1 ty e λtk=>⟨.bl k,H,I.tok tk,rfl,q⟩
section
variable{k:Nat}{m:Str}{p:Pos}{o:Expr}{t:TA}{ta:TE}{E:XK}
theorem a9d(G:fX X.prog X.w X.K X.mg X.base CX k C ps sp)(hr:cR (k+ 1) X.A)(hm:X.mg x=some (.ref C))(hx:iA CX X E)(hg:Gl X x:=by rfl)(hdb:(x==("__debug__":Str))=false:=by decide):
 PE X (.Call (.Name x p) [] [] pos) (mC C sp [] E eL):=by
 obtain⟨f,fd,F,M,hb⟩:=G.ex;exact a9p M F hr hg hm hb .nil hx hdb
end
inductive a15(r':R2)(r'':R2)(tc:TE)(td:TE)(σ:St)(Q:VK)(y:V)(z:V)(H3:Hp):Prop
 |mk (k:_):(z= .bl k)->((if k=true then tc σ H3 λw' H4=>r' y w' H4 λz H5=>∃k,z= .bl k/\(if k=true then td σ H5 λv' H6=>r'' w' v' H6 Q else Q (.bl false) H5) else Q (.bl false) H3))->a15 r' r'' tc td σ Q y z H3
def b0K(r r' r'':R2)(ta tb tc td:TE):TE:=λσ H Q=>ta σ H λx H1=>tb σ H1 λy H2=>r x y H2 (a15 r' r'' tc td σ Q y)
section
variable{a b c d:Expr}{ta td:TE}
theorem a3D{op op' op'':CmpOp}{r' r'':R2}(ho:dR X (compareOp op) r)(ho':dR X (compareOp op') r')(ho'':dR X (compareOp op'') r'')(ha:PE X a ta)(hb:PE X b tb)(hc:PE X c tc)(hd:PE X d td)
 (hm:lastMarks [op,op',op''] [b,c,d]=false:=by with_unfolding_all rfl):PT X (.Compare a [op,op',op''] [b,c,d] pos) (tG (b0K r r' r'' ta tb tc td)):=by
 intro ae s σ H Q I h;refine isTrue_chain (aV (ha ae s σ H _ I h) λv s1 h1=> ?_) hm;obtain⟨x,H1,I1,r1,q1⟩:=h1;refine test_link (aV (hb ae s1 σ H1 _ I1 q1) λu s2 h2=> ?_);obtain⟨y,H2,I2,r2,q2⟩:=h2;refine aV (ho ae s2 σ H2 x y v u _ I2 r1 r2 q2) λe s3 h3=> ?_
 obtain⟨z,H3,I3,r3,k,ek,q3⟩:=h3;subst ek;cases r3;refine wpAny_truthy_bool ?_
 cases k with
 |false=>
  obtain⟨k',e',q'⟩:=q3;cases e';exact ite_ff ⟨H3,I3,q'⟩
 |true=>
  refine ite_tt (test_link (aV (hc ae s3 σ H3 _ I3 q3) λw' s4 h4=> ?_));obtain⟨z',H4,I4,r4,q4⟩:=h4;refine aV (ho' ae s4 σ H4 y z' u w' _ I4 r2 r4 q4) λd' s5 h5=> ?_
  obtain⟨z2,H5,I5,r5,k2,e2,q5⟩:=h5;subst e2;cases r5;refine wpAny_truthy_bool ?_
  cases k2 with
  |false=>
   obtain⟨k',e',q'⟩:=q5;cases e';exact ite_ff ⟨H5,I5,q'⟩
  |true=>
   refine ite_tt (test_last (aV (hd ae s5 σ H5 _ I5 q5) λw'' s6 ⟨z'',H6,I6,r6,q6⟩=>aV (ho'' ae s6 σ H6 z' z'' w' w'' _ I6 r4 r6 q6) λd'' s7 ⟨z3,H7,I7,r7,k3,e3,q7⟩=> ?_));subst e3;cases r7;exact wpAny_truthy_bool ⟨H7,I7,q7⟩
end
def wX(cp:List (Nat×Str))(tg:TG)(tt:TT)(te:TE)(σ:St)(J:It)(D:Addr)(Q:VK)(H1:Hp):Prop:=
 ∃W:Nat->Nat->Hp->Prop,(∃m,W 0 m (upd H1 D (.lst [])))/\∀i m H2,W i m H2->(J.stop i H2/\Q (.ref D) H2)\/
  (J.go i H2/\∃(N:VK) (N':Hp->Prop),(∀y H5,N y H5->∃ys m',H5 D=some (.lst ys)/\ys.length<sizeLine/\m'<m/\W (i+ 1) m' (upd H5 D (.lst (ys++ [y]))))/\(∀H4,N' H4->∃m',m'<m/\W (i+ 1) m' H4)/\
   ∀v H3 o o',J.yld i H2 v H3->tg v (o::o'::gM cp σ) H3 λσ' H4=>(∃a b,σ'=a::b::gM cp σ)/\tt σ' H4 λk H5=>if k=true then te σ' H5 N else N' H5)
def a6A(cp:List (Nat×Str))(wi:TI)(tg:TG)(tt:TT)(te:TE):TE:=λσ H Q=>wi σ H λJ H1=>∀D,H1 D=none->wX cp tg tt te σ J D Q H1
section
variable{x2:Str}{tgt:Expr}{tg:TG}
theorem wX.s{D:Addr}(q:wX cp tg tt te σ J D Q H1):uQ (λσ'=>∃o o',σ'=o::o'::gM cp σ) tg tt te J D Q H1:=by
 obtain⟨W,w0,turn⟩:=q;refine⟨W,w0,λi m H2 w=>(turn i m H2 w).imp id λh=> ?_⟩;obtain⟨go,N,N',a,b,step⟩:=h;refine⟨go,N,N',a,b,λv H3 σ' h y=> ?_⟩;obtain⟨o,o',rfl⟩:=h;exact step v H3 o o' y
theorem a7w{s:Shared}{p1 p2:Pos}(hx:ai.names.lookup x=some .local)(hx2:ai.names.lookup x2=some .local)(hnd:(x::x2::cp.map (·.2)).Nodup):sG (gP X ai cl C (x::x2::cp.map (·.2)) fp ae s H) [.Name x p1,.Name x2 p2] (kM (fT 0) (kM (fT 1) qI)):=
 lD (fO hnd rfl (.inl (lookup_relabel_local hx)) (.inr (lookup_relabel_local hx))) (lD (fO hnd rfl (.inl (lookup_relabel_local hx2)) (.inr (lookup_relabel_local hx2))) uB)
theorem a8S{k:Nat}{px px2 pt:Pos}(c:nJ X ai cl cp)(hcalm:X.calm=true)(hx:ai.names.lookup x=some .local)(hx2:ai.names.lookup x2=some .local)(hnd:(x::x2::cp.map (·.2)).Nodup)(hi:PI X (.Tuple [.Name x px,.Name x2 px2] k pt) iter wi)
 (ht:∀C fp ae s H,oF (gP X ai cl C (x::x2::cp.map (·.2)) fp ae s H) ifs tt)(he:∀C fp ae s H,PE (gP X ai cl C (x::x2::cp.map (·.2)) fp ae s H) elt te)
 (hs:∀v,foldedSetIterable iter X.env v=pure v:=by intro _;rfl):PE X (.ListComp elt [⟨.Tuple [.Name x px,.Name x2 px2] k pt,iter,ifs,0⟩] ai pos) (a6A cp wi (tV X.K 2 (kM (fT 0) (kM (fT 1) qI))) tt te):=by
 have hg:∀C fp ae s H,PG (gP X ai cl C (x::x2::cp.map (·.2)) fp ae s H) (.Tuple [.Name x px,.Name x2 px2] k pt) (tV X.K 2 (kM (fT 0) (kM (fT 1) qI))):=λC fp ae s H=>sK hcalm (a7w hx hx2 hnd)
 exact a3E (xs:=[x,x2]) c hcalm hg hi ht he (λ_=>⟨_,_,rfl⟩) (λ_ _ _ _ h D e=>(h D e).s) hs
end
theorem a5Q:∀v σ0 H (R R':St->Hp->Prop),(∀σ' H',R σ' H'->R' σ' H')->tV K 2 (kM (fT 0) (kM (fT 1) qI)) v σ0 H R->tV K 2 (kM (fT 0) (kM (fT 1) qI)) v σ0 H R':=by
 rintro v σ0 H R R' h ⟨a,xs,e1,e2,e3,v1,r1,e4,v2,r2,e5,e6,q⟩;exact⟨a,xs,e1,e2,e3,v1,r1,e4,v2,r2,e5,e6,h _ _ q⟩
def SetO(P:Program)(w:World)(D:Addr)(S:Str->Bool)(n:Nat):HO:=.ext λh=>h.SetOf (strKind P w) D S n
end L2
namespace L2
open PySem PySem.W PyProof.Rows
noncomputable def runK {α:Type} (lt:Nat->Nat->Bool):KasT α->α
 | .ret a=>a
 | .ask i j k=>runK lt (k (lt i j))
def jB{α:Type}(n:Nat)(R:α->Prop):KasT α->Prop
 | .ret a=>R a
 | .ask i j k=>i<n/\j<n/\∀b,jB n R (k b)
theorem jB.bind{α β:Type}{n:Nat}{f:α->KasT β}{R:α->Prop}{R':β->Prop}:∀{t:KasT α},jB n R t->(∀a,R a->jB n R' (f a))->jB n R' (t.bind f)
 | .ret a,h,hf=>hf a h
 | .ask i j k,⟨h1,h2,h3⟩,hf=>⟨h1,h2,λb=>jB.bind (h3 b) hf⟩
theorem jB.wp{α:Type}{n:Nat}{R:α->Prop}{lt:Nat->Nat->Bool}{cmp:Nat->Nat->(Bool->Shared->Prop)->Shared->Prop}{J:Shared->Prop}(hc:∀i j C s,i<n->j<n->J s->(∀s',J s'->C (lt i j) s')->cmp i j C s){Q:α->Shared->Prop}:∀{t:KasT α} {s:Shared},jB n R t->J s->(∀s',J s'->Q (runK lt t) s')->t.kasWp cmp Q s
 | .ret a,s,_,j,q=>q s j
 | .ask i j k,s,⟨h1,h2,h3⟩,js,q=>hc i j _ s h1 h2 js λs' js'=>jB.wp hc (h3 _) js' q
where jB.mono {α:Type} {n:Nat} {R R':α->Prop} (hR:∀a,R a->R' a):∀{t:KasT α},jB n R t->jB n R' t
 | .ret a,h=>hR a h
 | .ask i j k,⟨h1,h2,h3⟩=>⟨h1,h2,λb=>jB.mono hR (h3 b)⟩
section
variable{lt:Nat->Nat->Bool}
structure Swo(lt:Nat->Nat->Bool):Prop where
 as:∀{i j},lt i j=true->lt j i=false
 tr:∀{i j k},lt j i=false->lt k j=false->lt k i=false
def SK(lt:Nat->Nat->Bool)(i j:Nat):Prop:=lt j i=false/\(lt i j=true\/ i<j)
structure Pf(n:Nat)(p:Array Nat)(a:Nat):Prop where
 sz:p.size=n
 pm:p.Perm (List.toArray (List.range n))
 un:∀k,a<=k->k<n->p.getD k 0=k
 pr:∀k,k<a->p.getD k 0<a
def Sd(lt:Nat->Nat->Bool)(p:Array Nat)(a:Nat):Prop:=∀i j,i<j->j<a->SK lt (p.getD i 0) (p.getD j 0)
theorem Pf.up{a:Nat}{p:Array Nat}(h:Pf n p a){b:Nat}(hab:a<=b)(hb:b<=n):Pf n p b:=by
 refine⟨h.sz,h.pm,λk h1 h2=>h.un k (by omega) h2,λk hk=> ?_⟩
 rcases Nat.lt_or_ge k a with h1|h1
 ·have:=h.pr k h1;omega
 ·rw[h.un k h1 (by omega)];exact hk
theorem Sd.asc(O:Swo lt){p:Array Nat}{a:Nat}(hp:Pf n p a)(h:Sd lt p a)(h1:1<=a):∀m,a<=m->m<=n->(∀k,a<=k->k<m->lt (p.getD k 0) (p.getD (k- 1) 0)=false)->Sd lt p m:=by
 intro m hm;obtain⟨d,rfl⟩:=Nat.exists_eq_add_of_le hm;clear hm
 induction d with
 |zero=>exact λ_ _=>h
 |succ d ih=>
  intro hn hs i j hij hj;have ihm:=ih (by omega) λk x y=>hs k x (by omega)
  rw[show a+ (d+ 1)=(a+ d)+ 1 by omega]at hs hn hj
  have hm:a<=a+ d:=by omega
  generalize a+ d=m at ihm hs hn hj hm
  rcases Nat.lt_or_ge j m with c|c
  ·exact ihm i j hij c
  ·have ej:j=m:=by omega
   subst ej;have hl:=hs j hm (by omega);have hpm:=(hp.up hm (by omega)).pr i (by omega);have ej:=hp.un j hm (by omega);refine⟨?_,.inr (by rw[ej];exact hpm)⟩
   rcases Nat.lt_or_ge i (j- 1)with d|d
   ·exact O.tr (ihm i (j- 1) d (by omega)).1 hl
   ·have:i=j- 1:=by omega
    rw[this];exact hl
end
end L2
open PySem
namespace L2
open PySem PySem.Spec PyProof.Rows
def zZ(σ:St)(CX:fL)(X:Cx)(E:XK):Prop:=∀(ae:List (Addr×Obj)) (H:Hp) (s:Shared) (e:Value) (s':Shared),aE X ae σ H s->CX X.stack H s E e s'->X.xe e s'
section
variable{k:Nat}{E:XK}{p:Pos}{t:TA}{s:Shared}
theorem a9g(F:gJ X.prog X.w X.K X.mg X.base CX k f fd ps sp)(hr:cR k X.A)(hb:jA X.K fd ps [])(hx:zZ σ CX X E)
 (I:aE X ae σ H s)(r:bK vs us)(h:sp (vs++ []) H Q E):wpAny (model X.prog X.w) X.A (call (.ref f) us) (EP X ae σ Q) X.xe s:=by
 have r2:bK (vs++ []) (us++ []):=r.append .nil
 have hl:(us++ []).length=ps.length:=by rw[<- r2.length];exact F.len _ _ _ _ h
 refine wpAny_call (codeAny_mono (F.run X.A X.stack s H ⟨us,[]⟩ (us++ []) (vs++ []) Q E hr I.env0 (hb s us I.kIn hl) r2 h) λr s' hq=> ?_)
 cases r with
 |error e=>exact hx ae H s e s' I hq
 |ok fl=>
  cases fl with
  |ret u=>exact I.after hq
  |next=>exact False.elim hq
  |brk=>exact False.elim hq
  |cont=>exact False.elim hq
theorem a8T(G:cT X.prog X.w X.K X.mg X.base CX k x ps sp)(hr:cR k X.A)(hx:zZ σ CX X E)(ha:PA X (e::es) t)(I:aE X ae σ H s)(h:tZ sp [] E t σ H Q)(hg:Gl X x)(hdb:(x==("__debug__":Str))=false)
 (he:starEach (e::es) X.env=(false,eval e X.env)::starEach es X.env)(hpl:(backTo pos (starEach es X.env)).any (·.1)=false):wpAny (model X.prog X.w) X.A (eval (.Call (.Name x p) (e::es) [] pos) X.env) (EP X ae σ Q) X.xe s:=by
 obtain⟨f,fd,F,hm,hk,hb⟩:=G.ex;refine wpAny_Call_Name_kw (oN I hg hm ?_ hdb);refine W.callWith_K (h₀:=X.base) I.ok.mod.kin hk (aV (ha pos ae s σ H _ I h) λus s1 ⟨vs,H1,I1,r,q⟩=>⟨I1.kIn,?_⟩) he hpl;exact a9g F hr hb hx I1 r q
theorem a7R{ex:Expr}(he:wpAny (model X.prog X.w) X.A (eval ex X.env) (EP X ae σ λ_ H1=>D.nx σ H1) X.xe s)(I:aE X ae σ H s)(hs:swapsWith ex none pos.line X.env=pure false):wpAny (model X.prog X.w) X.A (exec (.Expr ex pos) X.env) (SP X ae D) X.xe s:=
 wpAny_Expr_any (aV he λv s1 ⟨x,H1,I1,r1,q1⟩=>⟨σ,H1,I1,q1⟩) I.quiet hs
theorem a9Z(h:wpAny (model X.prog X.w) X.A (exec st X.env) (SP X ae D) X.xe s):wpAny (model X.prog X.w) X.A (execs [st] X.env) (SP X ae D) X.xe s:=by
 refine wpAny_execs_cons (aV h λf s1 q=> ?_)
 cases f with
 |next=>exact wpAny_execs_nil q
 |brk=>exact q
 |cont=>exact q
 |ret u=>exact q
end
def a00(K:Fg)(B:Addr)(σ:St)(j:Nat)(th:TS)(D:eG):XK:=λC _ H'=>W.exmOne K C (.ref B)=some true/\∀ea,H' ea=none->th (D.less j) (σ.set j (some (.ref ea))) (upd H' ea (mG ea C))
def a8E(K:Fg)(B:Addr)(j:Nat)(sp:Sp)(t:TA)(th:TS):TS:=λD σ H=>tZ sp [] (a00 K B σ j th D) t σ H λ_ H1=>D.nx σ H1
theorem b0C{suite:List Stmt}{b₀:Stmt}{n:Str}{np hpos:Pos}{B:Addr}{th:TS}{k:Nat}{fx:Str}{p pos1 pos2:Pos}{t:TA}(hex:X.ex= [])(hst:X.stack=X.env::X.outer)(hfr:X.env.frame=some X.env.locals)(hN:X.N.Nodup)(hj:X.N[j]?=some n)
 (hn:X.env.scope.names.lookup n=some .local)(hm:X.mg x=some (.ref B))(G:cT X.prog X.w X.K X.mg X.base (bV X.prog X.w) k fx ps sp)(hr:cR k X.A)(ha:∀pn E1,PA (X.pinned pn E1) (e::es) t)(hh:∀ea,dL (X.inEx ea) (b₀::suite) th)
 (hg:Gl X x:=by rfl)(hdb:(x==("__debug__":Str))=false:=by decide)(hgf:Gl X fx:=by rfl)(hdf:(fx==("__debug__":Str))=false:=by decide)
 (he:starEach (e::es) X.env=(false,eval e X.env)::starEach es X.env:=by rfl)(hpl:(backTo pos1 (starEach es X.env)).any (·.1)=false:=by rfl)(hs:swapsWith (.Call (.Name fx p) (e::es) [] pos1) none pos2.line X.env=pure false:=by rfl):
 PS X (.Try [.Expr (.Call (.Name fx p) (e::es) [] pos1) pos2] [.ExceptHandler (some (.Name x np)) (some n) (b₀::suite) hpos] [] [] pos) (a8E X.K B j sp t th):=by
 intro ae s σ H D I h
 have pass:zZ σ (bV X.prog X.w) (X.pinned (X.pn++ ae) (λe s1=>wpAny (model X.prog X.w) X.A (noteFrame e X.env) (λ_ s2=>wpAny (model X.prog X.w) X.A (setFlight e none) (λ_ s3=>
  wpAny (model X.prog X.w) X.A (handleBy e X.env [.ExceptHandler (some (.Name x np)) (some n) (b₀::suite) hpos]) (SP X ae D) X.xe s3) X.xe s2) X.xe s1)) (a00 X.K B σ j th D):=by
  intro pins' H1 s1 e s2 I1 hq;obtain⟨ea,T,C,H2,rfl,os,bare,un,hok,fly,n1,n2,f1,f2,hx,q⟩:=hq;have I1':aE X ae σ H1 s1:=I1.pinnedOut I.ok;have I2:aE X ae σ H2 s2:=I1'.call' os un hok bare (λb z=>absurd z (by simp));have own:∀b,s1.heap.get? b=none->H2 b=none->X.s₀.heap.get? b=none/\H2 b=none/\b≠X.env.locals/\(∀x c,X.env.cells.lookup x=some c->c≠b)/\∀p∈X.pn++ ae,p.1≠b:=λb e hb=>by
   refine⟨?_,hb,λz=> ?_,λy c hc z=> ?_,λp hp z=> ?_⟩
   ·cases z:X.s₀.heap.get? b with
    |none=>rfl
    |some o=>
     obtain⟨o',e'⟩:=I1'.base.there b o z (by rw[hex];intro hz;cases hz);rw[e]at e';cases e'
   ·obtain⟨m,⟨o,_,_,ho,_⟩,_⟩:=I1'.loc
    rw[<- z,e]at ho;cases ho
   ·obtain⟨v,o,ho,_⟩:=I1'.cell y c hc
    rw[z,e]at ho;cases ho
   ·have ho:=(I1'.pin p hp).1
    rw[z,e]at ho;cases ho
  have st2:s2.heap.FunFrames X.base (X.env::X.outer):=hst▸I2.stack;have fr2:X.A.frames=some (X.env::X.outer):=hst▸I.ok.frames;refine a0L (af:=X.base) fr2 st2 hfr fly λh3 T3 hT3 fly3 flew=> ?_
  have I3:aE X ae σ H2 {s2 with heap:=h3}:=I2.flew (t':=s2.toks) (hst▸flew) λb hb=>by
   simp only[List.mem_cons,List.not_mem_nil,or_false]at hb
   rcases hb with rfl|rfl
   ·exact own _ n1 f1
   ·exact own _ n2 f2
  obtain⟨oe,vs,oT,ts,he,hcl,hdn,hd,h1,hTe,hT,hdT,h3'⟩:=fly3;refine wpAny_handleBy_cons (codeAny_handlers_test ?_) (by intro z;cases z);refine oN (X:=X.inEx ea) (I3.inEx ea) hg hm ?_ hdb;have LT:W.Looks (model X.prog X.w) h3 (typeOf (.ref ea)) C:=hcl▸(W.Looks.ld he).andThen .now;have LX:=W.exm_one (M:=model X.prog X.w) I3.kIn LT hx;refine LX _ _ _ {s2 with heap:=h3} (λ_ _ z=>z) ?_;show codeAny _ _ _ _ _;refine codeAny_handlers_suite_as ?_;unfold setFlight;refine wpAny_bind (wpAny_field (s:={s2 with heap:=h3}) he hd h1 ?_);rw[if_pos (show(Value.ref T3 !=Value.none)=true from by simp)];refine wpAny_setField (s:={s2 with heap:=h3}) hT hdT (Array.getElem?_eq_some_iff.mp h3').1 ?_;have far:∀b,b≠T3->(h3.update T3 (Obj.mapFields (·.setIfInBounds 3 ((none:Option Addr).elim Value.none λf=>rawInt f)))).get? b=h3.get? b:=λb nb=>Heap.get?_update_other _ _ (Ne.symm nb)
  have hfT:H2 T3=none:=I2.hok.fresh hT3;have oT3:T3≠X.env.locals:=Nat.ne_of_gt (Nat.lt_of_lt_of_le I2.lt hT3);have I4:aE X ae σ H2 {s2 with heap:=h3.update T3 (Obj.mapFields (·.setIfInBounds 3 ((none:Option Addr).elim Value.none λf=>rawInt f)))}:=
   I3.turned (t':=s2.toks) (λb o nb e=>(far b nb).trans e) hfT oT3 (.inr (Nat.le_trans I2.sz hT3)) (λy c hc z=>by
    obtain⟨v,w'⟩:=I2.cell y c hc
    exact absurd w'.lt (by rw[z];exact Nat.not_lt.mpr hT3)) (λp hp z=>absurd (Heap.lt_size (I2.pin p hp).1) (by rw[z];exact Nat.not_lt.mpr hT3))
  obtain⟨o0,o1,o2,o3,o4⟩:=own ea n1 f1;have he4:=(far ea (Ne.symm hTe)).trans he;have I5:aE X ae σ (upd H2 ea (mG ea C)) _:=I4.adopt o1 o0 o2 o3 o4 ⟨⟨oe,he4,hcl,hdn,by unfold W.notCls;rw[hd]⟩,⟨oe,he4⟩,λa b ⟨o,e1,e2⟩ k=>⟨o,k o e1,e2⟩⟩;refine a0f (v:=.ref ea) I5 hN hj (.inl hn) rfl (λs6 I6=> ?_) (.inr hn);have run:=hh ea ae s6 _ _ (D.less j) (I6.inEx ea) (q ea f1);refine wpAny_mono run (λfl s7 q7=> ?_) λ_ _ z=>z.elim
  have fin:∀{σ7:St} {H7:Hp} {R:Unit->Shared->Prop},aE (X.inEx ea) ae σ7 H7 s7->(∀s8,aE X ae (σ7.set j none) H7 s8->R () s8)->wpAny (model X.prog X.w) X.A (do bindName X.env n .none;unbindBehindTheSuite X.env n hpos) R X.xe s7:=fun{σ7 H7 R} I7 k=>by
   have I7':=I7.outEx I.ok;obtain⟨m,hm7,hl7⟩:=I7'.loc;refine wpAny_nameGoes_keeps (show X.env.scope.names.lookup n=some .local from hn) hm7 (by rw[I.ok.kind];rfl) λh8 v hn8 sb8=> ?_
   exact k _ (I7'.unname hN hj hm7 hl7 hn8 sb8)
  cases fl with
  |next=>obtain⟨σ7,H7,I7,n7⟩:=q7;exact fin I7 λs8 I8=>⟨_,H7,I8,n7⟩
  |brk=>obtain⟨σ7,H7,I7,n7⟩:=q7;exact fin I7 λs8 I8=>⟨_,H7,I8,n7⟩
  |cont=>obtain⟨σ7,H7,I7,n7⟩:=q7;exact fin I7 λs8 I8=>⟨_,H7,I8,n7⟩
  |ret u=>obtain⟨v7,σ7,H7,I7,r7,n7⟩:=q7;exact fin I7 λs8 I8=>⟨v7,_,H7,I8,r7,n7⟩
 have Ip:=I.pinnedIn (E1:=λe s1=>wpAny (model X.prog X.w) X.A (noteFrame e X.env) (λ_ s2=>wpAny (model X.prog X.w) X.A (setFlight e none) (λ_ s3=>
  wpAny (model X.prog X.w) X.A (handleBy e X.env [.ExceptHandler (some (.Name x np)) (some n) (b₀::suite) hpos]) (SP X ae D) X.xe s3) X.xe s2) X.xe s1)
 have run:=a9Z (st:=.Expr (.Call (.Name fx p) (e::es) [] pos1) pos2) (D:=D) (a7R (X:=X.pinned (X.pn++ ae) _) (σ:=σ) (ae:=[]) (a8T (X:=X.pinned (X.pn++ ae) _) (σ:=σ) (pos:=pos1) (p:=p) G hr pass (ha _ _) Ip h hgf hdf he hpl) Ip hs);refine wpAny_Try_except (wpAny_mono run (λfl s1 q1=> ?_) λe s1 q1=>q1)
 cases fl with
 |next=>obtain⟨σ1,H1,I1,n1⟩:=q1;exact wpAny_execs_nil ⟨σ1,H1,I1.pinnedOut I.ok,n1⟩
 |brk=>obtain⟨σ1,H1,I1,n1⟩:=q1;exact⟨σ1,H1,I1.pinnedOut I.ok,n1⟩
 |cont=>obtain⟨σ1,H1,I1,n1⟩:=q1;exact⟨σ1,H1,I1.pinnedOut I.ok,n1⟩
 |ret u=>obtain⟨v1,σ1,H1,I1,r1,n1⟩:=q1;exact⟨v1,σ1,H1,I1.pinnedOut I.ok,r1,n1⟩
section
theorem na{a:Str}(h:W.findIn K (.ref C) a=some none):cA K C a:=h
theorem zB{a b:Str}{t0 t1:Tok}{sl':Array (Option Value)}(X:K.In h)(G:h.Ns mainGlobals mg)(i:W.nsIn K mainGlobals x=some (some (.ref p)))(j:K.lookup p=some ⟨.type "tuple",od,.seq #[Value.str a t0,Value.str b t1] m,sl'⟩):∃p,mg x=some (.ref p)/\∀H,bS K H p [V.str a,V.str b]:=
 ⟨p,W.mg_of X G i,λH=> .inr ⟨_,_,_,j,rfl,rfl,sl (by simp),.cons ⟨_,rfl⟩ (.cons ⟨_,rfl⟩ .nil)⟩⟩
theorem b0p{cls m:Str}{c:Addr}{wo:Value}{wd:Option Addr}{osl ws:Array (Option Value)}{kV:Value}{vs:Array Value}(X:K.In h)(G:h.Ns mainGlobals mg)(n:W.nsIn K mainGlobals cls=some (some (.ref C)))(a:W.findIn K (.ref C) m=some (some (.ref f)))(i:W.isFn K (.ref f)=true)
 (l:K.lookup f=some ⟨oc,od,.func (W.fnOf m qual (jH st) (dY st) (aS st) .none kV doc pm an (.ref c) ct),osl⟩)(hc:W.codeIn K (.ref c) qual=true)(k:W.keepIn K (.ref f)=true)(w:K.lookup c=some ⟨wo,wd,.fields vs,ws⟩)(t:vs[11]?=some (.ref p))(hd:W.codeHdIn K c p=true):uW K mg cls m qual st (c,p):=a7u X G n a i l hc k hd
end
end L2
namespace My
open PySem L2
def aY(i:Nat):Stmt:=PySem.Challenge.pw_lazycols_k32_sheets_refuse.main.body.getD i (.Pass ⟨0,0,0,0⟩)
abbrev a4S:Stmt:=aY 21
abbrev a34:Stmt:=aY 22
abbrev a3z:Stmt:=aY 23
abbrev a2O:Stmt:=aY 24
abbrev a1S:Stmt:=aY 25
abbrev a6c:Stmt:=aY 26
abbrev a20:Stmt:=aY 30
abbrev a1F:Stmt:=aY 31
abbrev a0Y:Stmt:=aY 32
abbrev a01:Stmt:=aY 33
abbrev a1s:Stmt:=aY 34
abbrev a4w:Stmt:=aY 44
abbrev a7Q:Stmt:=aY 45
abbrev a1O:Stmt:=aY 55
abbrev a2a:Stmt:=aY 56
abbrev a3I:Stmt:=aY 57
abbrev a8W:Stmt:=aY 58
abbrev uU:Stmt:=aY 66
abbrev a6C:Stmt:=aY 67
abbrev a5g:Stmt:=aY 68
abbrev a3W:Stmt:=aY 69
abbrev a3a:Stmt:=aY 70
abbrev a37:Stmt:=aY 71
abbrev a2y:Stmt:=aY 72
abbrev a2w:Stmt:=aY 73
abbrev a5f:Stmt:=aY 74
abbrev a4e:Stmt:=aY 75
abbrev a3K:Stmt:=aY 76
abbrev a4A:Stmt:=aY 77
abbrev a4c:Stmt:=aY 78
abbrev kJ:Stmt:=aY 79
structure Ad where
 ColsError:Addr
 NoName:Addr
 NoValue:Addr
 NoTable:Addr
 NoColumn:Addr
 NoPlace:Addr
 NoSize:Addr
 NoText:Addr
 NoRow:Addr
 NoBack:Addr
 TooMuch:Addr
 Ruled:Addr
 Ring:Addr
 Nobody:Addr
 Several:Addr
structure dG(K:Fg)(mg:Str->Option Value)(c:Ad):Prop where
 c_ColsError:mg "ColsError"=some (.ref c.ColsError)
 c_NoName:mg "NoName"=some (.ref c.NoName)
 c_NoValue:mg "NoValue"=some (.ref c.NoValue)
 c_NoTable:mg "NoTable"=some (.ref c.NoTable)
 c_NoColumn:mg "NoColumn"=some (.ref c.NoColumn)
 c_NoPlace:mg "NoPlace"=some (.ref c.NoPlace)
 c_NoSize:mg "NoSize"=some (.ref c.NoSize)
 c_NoText:mg "NoText"=some (.ref c.NoText)
 c_NoRow:mg "NoRow"=some (.ref c.NoRow)
 c_NoBack:mg "NoBack"=some (.ref c.NoBack)
 c_TooMuch:mg "TooMuch"=some (.ref c.TooMuch)
 c_Ruled:mg "Ruled"=some (.ref c.Ruled)
 c_Ring:mg "Ring"=some (.ref c.Ring)
 c_Nobody:mg "Nobody"=some (.ref c.Nobody)
 c_Several:mg "Several"=some (.ref c.Several)
 x_NoTable:W.excIn K c.NoTable lS "ValueError.__new__"=true
 k_NoTable:iS K c.NoTable
 v_NoTable:W.kitOne K (.ref c.NoTable) (.type "ValueError")=some true
 i_NoTable_ColsError:W.kitOne K (.ref c.NoTable) (.ref c.ColsError)=some true
 e_NoTable_ColsError:W.exmOne K (.ref c.NoTable) (.ref c.ColsError)=some true
 i_NoTable_NoName:W.kitOne K (.ref c.NoTable) (.ref c.NoName)=some false
 i_NoTable_NoValue:W.kitOne K (.ref c.NoTable) (.ref c.NoValue)=some false
 i_NoTable_NoTable:W.kitOne K (.ref c.NoTable) (.ref c.NoTable)=some true
 i_NoTable_NoColumn:W.kitOne K (.ref c.NoTable) (.ref c.NoColumn)=some false
 i_NoTable_NoPlace:W.kitOne K (.ref c.NoTable) (.ref c.NoPlace)=some false
 i_NoTable_NoSize:W.kitOne K (.ref c.NoTable) (.ref c.NoSize)=some false
 i_NoTable_NoText:W.kitOne K (.ref c.NoTable) (.ref c.NoText)=some false
 i_NoTable_NoRow:W.kitOne K (.ref c.NoTable) (.ref c.NoRow)=some false
 i_NoTable_NoBack:W.kitOne K (.ref c.NoTable) (.ref c.NoBack)=some false
 i_NoTable_TooMuch:W.kitOne K (.ref c.NoTable) (.ref c.TooMuch)=some false
 i_NoTable_Ruled:W.kitOne K (.ref c.NoTable) (.ref c.Ruled)=some false
 i_NoTable_Ring:W.kitOne K (.ref c.NoTable) (.ref c.Ring)=some false
 i_NoTable_Nobody:W.kitOne K (.ref c.NoTable) (.ref c.Nobody)=some false
 i_NoTable_Several:W.kitOne K (.ref c.NoTable) (.ref c.Several)=some false
 x_NoName:W.excIn K c.NoName lS "ValueError.__new__"=true
 k_NoName:iS K c.NoName
 v_NoName:W.kitOne K (.ref c.NoName) (.type "ValueError")=some true
 i_NoName_ColsError:W.kitOne K (.ref c.NoName) (.ref c.ColsError)=some true
 e_NoName_ColsError:W.exmOne K (.ref c.NoName) (.ref c.ColsError)=some true
 i_NoName_NoName:W.kitOne K (.ref c.NoName) (.ref c.NoName)=some true
 i_NoName_NoValue:W.kitOne K (.ref c.NoName) (.ref c.NoValue)=some false
 i_NoName_NoTable:W.kitOne K (.ref c.NoName) (.ref c.NoTable)=some false
 i_NoName_NoColumn:W.kitOne K (.ref c.NoName) (.ref c.NoColumn)=some false
 i_NoName_NoPlace:W.kitOne K (.ref c.NoName) (.ref c.NoPlace)=some false
 i_NoName_NoSize:W.kitOne K (.ref c.NoName) (.ref c.NoSize)=some false
 i_NoName_NoText:W.kitOne K (.ref c.NoName) (.ref c.NoText)=some false
 i_NoName_NoRow:W.kitOne K (.ref c.NoName) (.ref c.NoRow)=some false
 i_NoName_NoBack:W.kitOne K (.ref c.NoName) (.ref c.NoBack)=some false
 i_NoName_TooMuch:W.kitOne K (.ref c.NoName) (.ref c.TooMuch)=some false
 i_NoName_Ruled:W.kitOne K (.ref c.NoName) (.ref c.Ruled)=some false
 i_NoName_Ring:W.kitOne K (.ref c.NoName) (.ref c.Ring)=some false
 i_NoName_Nobody:W.kitOne K (.ref c.NoName) (.ref c.Nobody)=some false
 i_NoName_Several:W.kitOne K (.ref c.NoName) (.ref c.Several)=some false
 x_NoColumn:W.excIn K c.NoColumn lS "ValueError.__new__"=true
 k_NoColumn:iS K c.NoColumn
 v_NoColumn:W.kitOne K (.ref c.NoColumn) (.type "ValueError")=some true
 i_NoColumn_ColsError:W.kitOne K (.ref c.NoColumn) (.ref c.ColsError)=some true
 e_NoColumn_ColsError:W.exmOne K (.ref c.NoColumn) (.ref c.ColsError)=some true
 i_NoColumn_NoName:W.kitOne K (.ref c.NoColumn) (.ref c.NoName)=some false
 i_NoColumn_NoValue:W.kitOne K (.ref c.NoColumn) (.ref c.NoValue)=some false
 i_NoColumn_NoTable:W.kitOne K (.ref c.NoColumn) (.ref c.NoTable)=some false
 i_NoColumn_NoColumn:W.kitOne K (.ref c.NoColumn) (.ref c.NoColumn)=some true
 i_NoColumn_NoPlace:W.kitOne K (.ref c.NoColumn) (.ref c.NoPlace)=some false
 i_NoColumn_NoSize:W.kitOne K (.ref c.NoColumn) (.ref c.NoSize)=some false
 i_NoColumn_NoText:W.kitOne K (.ref c.NoColumn) (.ref c.NoText)=some false
 i_NoColumn_NoRow:W.kitOne K (.ref c.NoColumn) (.ref c.NoRow)=some false
 i_NoColumn_NoBack:W.kitOne K (.ref c.NoColumn) (.ref c.NoBack)=some false
 i_NoColumn_TooMuch:W.kitOne K (.ref c.NoColumn) (.ref c.TooMuch)=some false
 i_NoColumn_Ruled:W.kitOne K (.ref c.NoColumn) (.ref c.Ruled)=some false
 i_NoColumn_Ring:W.kitOne K (.ref c.NoColumn) (.ref c.Ring)=some false
 i_NoColumn_Nobody:W.kitOne K (.ref c.NoColumn) (.ref c.Nobody)=some false
 i_NoColumn_Several:W.kitOne K (.ref c.NoColumn) (.ref c.Several)=some false
 x_NoSize:W.excIn K c.NoSize lS "ValueError.__new__"=true
 k_NoSize:iS K c.NoSize
 v_NoSize:W.kitOne K (.ref c.NoSize) (.type "ValueError")=some true
 i_NoSize_ColsError:W.kitOne K (.ref c.NoSize) (.ref c.ColsError)=some true
 e_NoSize_ColsError:W.exmOne K (.ref c.NoSize) (.ref c.ColsError)=some true
 i_NoSize_NoName:W.kitOne K (.ref c.NoSize) (.ref c.NoName)=some false
 i_NoSize_NoValue:W.kitOne K (.ref c.NoSize) (.ref c.NoValue)=some false
 i_NoSize_NoTable:W.kitOne K (.ref c.NoSize) (.ref c.NoTable)=some false
 i_NoSize_NoColumn:W.kitOne K (.ref c.NoSize) (.ref c.NoColumn)=some false
 i_NoSize_NoPlace:W.kitOne K (.ref c.NoSize) (.ref c.NoPlace)=some false
 i_NoSize_NoSize:W.kitOne K (.ref c.NoSize) (.ref c.NoSize)=some true
 i_NoSize_NoText:W.kitOne K (.ref c.NoSize) (.ref c.NoText)=some false
 i_NoSize_NoRow:W.kitOne K (.ref c.NoSize) (.ref c.NoRow)=some false
 i_NoSize_NoBack:W.kitOne K (.ref c.NoSize) (.ref c.NoBack)=some false
 i_NoSize_TooMuch:W.kitOne K (.ref c.NoSize) (.ref c.TooMuch)=some false
 i_NoSize_Ruled:W.kitOne K (.ref c.NoSize) (.ref c.Ruled)=some false
 i_NoSize_Ring:W.kitOne K (.ref c.NoSize) (.ref c.Ring)=some false
 i_NoSize_Nobody:W.kitOne K (.ref c.NoSize) (.ref c.Nobody)=some false
 i_NoSize_Several:W.kitOne K (.ref c.NoSize) (.ref c.Several)=some false
 x_TooMuch:W.excIn K c.TooMuch lS "ValueError.__new__"=true
 k_TooMuch:iS K c.TooMuch
 v_TooMuch:W.kitOne K (.ref c.TooMuch) (.type "ValueError")=some true
 i_TooMuch_ColsError:W.kitOne K (.ref c.TooMuch) (.ref c.ColsError)=some true
 e_TooMuch_ColsError:W.exmOne K (.ref c.TooMuch) (.ref c.ColsError)=some true
 i_TooMuch_NoName:W.kitOne K (.ref c.TooMuch) (.ref c.NoName)=some false
 i_TooMuch_NoValue:W.kitOne K (.ref c.TooMuch) (.ref c.NoValue)=some false
 i_TooMuch_NoTable:W.kitOne K (.ref c.TooMuch) (.ref c.NoTable)=some false
 i_TooMuch_NoColumn:W.kitOne K (.ref c.TooMuch) (.ref c.NoColumn)=some false
 i_TooMuch_NoPlace:W.kitOne K (.ref c.TooMuch) (.ref c.NoPlace)=some false
 i_TooMuch_NoSize:W.kitOne K (.ref c.TooMuch) (.ref c.NoSize)=some false
 i_TooMuch_NoText:W.kitOne K (.ref c.TooMuch) (.ref c.NoText)=some false
 i_TooMuch_NoRow:W.kitOne K (.ref c.TooMuch) (.ref c.NoRow)=some false
 i_TooMuch_NoBack:W.kitOne K (.ref c.TooMuch) (.ref c.NoBack)=some false
 i_TooMuch_TooMuch:W.kitOne K (.ref c.TooMuch) (.ref c.TooMuch)=some true
 i_TooMuch_Ruled:W.kitOne K (.ref c.TooMuch) (.ref c.Ruled)=some false
 i_TooMuch_Ring:W.kitOne K (.ref c.TooMuch) (.ref c.Ring)=some false
 i_TooMuch_Nobody:W.kitOne K (.ref c.TooMuch) (.ref c.Nobody)=some false
 i_TooMuch_Several:W.kitOne K (.ref c.TooMuch) (.ref c.Several)=some false
 x_NoPlace:W.excIn K c.NoPlace lS "ValueError.__new__"=true
 k_NoPlace:iS K c.NoPlace
 v_NoPlace:W.kitOne K (.ref c.NoPlace) (.type "ValueError")=some true
 i_NoPlace_ColsError:W.kitOne K (.ref c.NoPlace) (.ref c.ColsError)=some true
 e_NoPlace_ColsError:W.exmOne K (.ref c.NoPlace) (.ref c.ColsError)=some true
 i_NoPlace_NoName:W.kitOne K (.ref c.NoPlace) (.ref c.NoName)=some false
 i_NoPlace_NoValue:W.kitOne K (.ref c.NoPlace) (.ref c.NoValue)=some false
 i_NoPlace_NoTable:W.kitOne K (.ref c.NoPlace) (.ref c.NoTable)=some false
 i_NoPlace_NoColumn:W.kitOne K (.ref c.NoPlace) (.ref c.NoColumn)=some false
 i_NoPlace_NoPlace:W.kitOne K (.ref c.NoPlace) (.ref c.NoPlace)=some true
 i_NoPlace_NoSize:W.kitOne K (.ref c.NoPlace) (.ref c.NoSize)=some false
 i_NoPlace_NoText:W.kitOne K (.ref c.NoPlace) (.ref c.NoText)=some false
 i_NoPlace_NoRow:W.kitOne K (.ref c.NoPlace) (.ref c.NoRow)=some false
 i_NoPlace_NoBack:W.kitOne K (.ref c.NoPlace) (.ref c.NoBack)=some false
 i_NoPlace_TooMuch:W.kitOne K (.ref c.NoPlace) (.ref c.TooMuch)=some false
 i_NoPlace_Ruled:W.kitOne K (.ref c.NoPlace) (.ref c.Ruled)=some false
 i_NoPlace_Ring:W.kitOne K (.ref c.NoPlace) (.ref c.Ring)=some false
 i_NoPlace_Nobody:W.kitOne K (.ref c.NoPlace) (.ref c.Nobody)=some false
 i_NoPlace_Several:W.kitOne K (.ref c.NoPlace) (.ref c.Several)=some false
 x_NoValue:W.excIn K c.NoValue lS "ValueError.__new__"=true
 k_NoValue:iS K c.NoValue
 v_NoValue:W.kitOne K (.ref c.NoValue) (.type "ValueError")=some true
 i_NoValue_ColsError:W.kitOne K (.ref c.NoValue) (.ref c.ColsError)=some true
 e_NoValue_ColsError:W.exmOne K (.ref c.NoValue) (.ref c.ColsError)=some true
 i_NoValue_NoName:W.kitOne K (.ref c.NoValue) (.ref c.NoName)=some false
 i_NoValue_NoValue:W.kitOne K (.ref c.NoValue) (.ref c.NoValue)=some true
 i_NoValue_NoTable:W.kitOne K (.ref c.NoValue) (.ref c.NoTable)=some false
 i_NoValue_NoColumn:W.kitOne K (.ref c.NoValue) (.ref c.NoColumn)=some false
 i_NoValue_NoPlace:W.kitOne K (.ref c.NoValue) (.ref c.NoPlace)=some false
 i_NoValue_NoSize:W.kitOne K (.ref c.NoValue) (.ref c.NoSize)=some false
 i_NoValue_NoText:W.kitOne K (.ref c.NoValue) (.ref c.NoText)=some false
 i_NoValue_NoRow:W.kitOne K (.ref c.NoValue) (.ref c.NoRow)=some false
 i_NoValue_NoBack:W.kitOne K (.ref c.NoValue) (.ref c.NoBack)=some false
 i_NoValue_TooMuch:W.kitOne K (.ref c.NoValue) (.ref c.TooMuch)=some false
 i_NoValue_Ruled:W.kitOne K (.ref c.NoValue) (.ref c.Ruled)=some false
 i_NoValue_Ring:W.kitOne K (.ref c.NoValue) (.ref c.Ring)=some false
 i_NoValue_Nobody:W.kitOne K (.ref c.NoValue) (.ref c.Nobody)=some false
 i_NoValue_Several:W.kitOne K (.ref c.NoValue) (.ref c.Several)=some false
 x_Ruled:W.excIn K c.Ruled lS "ValueError.__new__"=true
 k_Ruled:iS K c.Ruled
 v_Ruled:W.kitOne K (.ref c.Ruled) (.type "ValueError")=some true
 i_Ruled_ColsError:W.kitOne K (.ref c.Ruled) (.ref c.ColsError)=some true
 e_Ruled_ColsError:W.exmOne K (.ref c.Ruled) (.ref c.ColsError)=some true
 i_Ruled_NoName:W.kitOne K (.ref c.Ruled) (.ref c.NoName)=some false
 i_Ruled_NoValue:W.kitOne K (.ref c.Ruled) (.ref c.NoValue)=some false
 i_Ruled_NoTable:W.kitOne K (.ref c.Ruled) (.ref c.NoTable)=some false
 i_Ruled_NoColumn:W.kitOne K (.ref c.Ruled) (.ref c.NoColumn)=some false
 i_Ruled_NoPlace:W.kitOne K (.ref c.Ruled) (.ref c.NoPlace)=some false
 i_Ruled_NoSize:W.kitOne K (.ref c.Ruled) (.ref c.NoSize)=some false
 i_Ruled_NoText:W.kitOne K (.ref c.Ruled) (.ref c.NoText)=some false
 i_Ruled_NoRow:W.kitOne K (.ref c.Ruled) (.ref c.NoRow)=some false
 i_Ruled_NoBack:W.kitOne K (.ref c.Ruled) (.ref c.NoBack)=some false
 i_Ruled_TooMuch:W.kitOne K (.ref c.Ruled) (.ref c.TooMuch)=some false
 i_Ruled_Ruled:W.kitOne K (.ref c.Ruled) (.ref c.Ruled)=some true
 i_Ruled_Ring:W.kitOne K (.ref c.Ruled) (.ref c.Ring)=some false
 i_Ruled_Nobody:W.kitOne K (.ref c.Ruled) (.ref c.Nobody)=some false
 i_Ruled_Several:W.kitOne K (.ref c.Ruled) (.ref c.Several)=some false
abbrev a1G:Stmt:=bM (aY 35) 0
abbrev a4a:Stmt:=bM (aY 35) 1
abbrev a50:Stmt:=bM (aY 35) 2
abbrev a2m:Stmt:=bM (aY 35) 3
abbrev vT:Stmt:=bM (aY 35) 4
abbrev a5M:Stmt:=bM (aY 35) 5
abbrev a4T:Stmt:=bM (aY 35) 6
abbrev a46:Stmt:=bM (aY 35) 7
abbrev a22:Stmt:=bM (aY 35) 8
abbrev b0i:Stmt:=bM (aY 35) 9
abbrev a7o:Stmt:=bM (aY 35) 10
abbrev a4f:Stmt:=bM (aY 35) 11
abbrev b0j:Stmt:=bM (aY 35) 12
abbrev a0G:Stmt:=bM (aY 35) 13
abbrev a4v:Stmt:=bM (aY 37) 0
abbrev a3w:Stmt:=bM (aY 37) 1
abbrev a2U:Stmt:=bM (aY 37) 2
abbrev a3s:Stmt:=bM (aY 37) 3
abbrev a2M:Stmt:=bM (aY 37) 4
abbrev a8U:Stmt:=bM (aY 37) 5
abbrev a2i:Stmt:=bM (aY 38) 0
abbrev a2N:Stmt:=bM (aY 38) 1
abbrev a2X:Stmt:=bM (aY 39) 0
abbrev a4u:Stmt:=bM (aY 39) 1
abbrev a05:Stmt:=bM (aY 40) 0
abbrev a02:Stmt:=bM (aY 40) 1
abbrev a3Z:Stmt:=bM (aY 41) 0
abbrev a40:Stmt:=bM (aY 41) 1
abbrev a08:Stmt:=bM (aY 42) 0
abbrev a4d:Stmt:=bM (aY 42) 1
abbrev b0D:Stmt:=bM (aY 49) 0
abbrev b0U:Stmt:=bM (aY 49) 1
abbrev a1R:Stmt:=bM (aY 50) 0
abbrev a2E:Stmt:=bM (aY 50) 1
abbrev a39:Stmt:=bM (aY 50) 2
abbrev yX:Stmt:=bM (aY 50) 3
abbrev a8Z:Stmt:=bM (aY 50) 4
abbrev a2j:Stmt:=bM (aY 50) 5
abbrev a9j:Stmt:=bM (aY 50) 6
abbrev a30:Stmt:=bM (aY 51) 0
abbrev a5i:Stmt:=bM (aY 51) 1
abbrev xR:Stmt:=bM (aY 51) 2
abbrev vO:Stmt:=bM (aY 51) 3
abbrev vH:Stmt:=bM (aY 51) 4
abbrev a2H:Stmt:=bM (aY 51) 5
abbrev a42:Stmt:=bM (aY 51) 6
abbrev a4n:Stmt:=bM (aY 51) 8
abbrev a04:Stmt:=bM (aY 51) 9
abbrev vF:Stmt:=bM (aY 51) 10
abbrev a1q:Stmt:=bM (aY 51) 11
abbrev vN:Stmt:=bM (aY 51) 12
abbrev oI:Stmt:=bM (aY 51) 13
abbrev wM:Stmt:=bM (aY 51) 14
abbrev xA:Stmt:=bM (aY 51) 15
abbrev a0K:Stmt:=bM (aY 51) 16
abbrev a1c:Stmt:=bM (aY 51) 17
abbrev a1D:Stmt:=bM (aY 51) 18
abbrev a1r:Stmt:=bM (aY 51) 19
abbrev vX:Stmt:=bM (aY 51) 20
abbrev a3e:Stmt:=bM (aY 51) 21
abbrev a06:Stmt:=bM (aY 51) 22
abbrev a4x:Stmt:=bM (aY 59) 0
abbrev pW:Stmt:=bM (aY 59) 1
abbrev a2p:Stmt:=bM (aY 60) 0
abbrev tD:Stmt:=bM (aY 60) 1
abbrev a9T:Stmt:=bM (aY 60) 2
abbrev a4o:Stmt:=bM (aY 61) 0
abbrev rL:Stmt:=bM (aY 61) 1
abbrev a9n:Stmt:=bM (aY 61) 2
abbrev a18:Stmt:=bM (aY 62) 0
abbrev a3J:Stmt:=bM (aY 62) 1
abbrev a8n:Stmt:=bM (aY 62) 2
abbrev a1a:Stmt:=bM (aY 63) 0
abbrev tY:Stmt:=bM (aY 63) 1
abbrev a91:Stmt:=bM (aY 63) 2
abbrev a0W:Stmt:=bM (aY 64) 0
abbrev a35:Stmt:=bM (aY 64) 1
abbrev b04:Stmt:=bM (aY 64) 2
structure dE(K:Fg)(mg:Str->Option Value)(C:Addr):Prop where
 c:mg "Table"=some (.ref C)
 cl:dC K C
 mks:W.makesIn K C=true
 kc:W.keepIn K (.ref C)=true
 hc:W.findIn K (.ref C) "__class__"=some (some (.builtin "object.__class__"))
 n_row_numbers:cA K C "row_numbers"
 n_fresh_number:cA K C "fresh_number"
 n_kept:cA K C "kept"
 m_init:bG K C "__init__" "Table.__init__" a1G
 m_many:bG K C "many" "Table.many" a4a
 m_numbers:bG K C "numbers" "Table.numbers" a50
 m_columns:bG K C "columns" "Table.columns" a2m
 m_give:bG K C "give" "Table.give" vT
 m_drop:bG K C "drop" "Table.drop" a5M
 m_put:bG K C "put" "Table.put" a4T
 m_at:bG K C "at" "Table.at" a46
 m_put_in:bG K C "put_in" "Table.put_in" a22
 m_take_out:bG K C "take_out" "Table.take_out" b0i
 m_stand:bG K C "stand" "Table.stand" a7o
 m_number_at:bG K C "number_at" "Table.number_at" a4f
 m_row_at:bG K C "row_at" "Table.row_at" b0j
 m_check_column:bG K C "check_column" "Table.check_column" a0G
structure cO(K:Fg)(mg:Str->Option Value)(C:Addr):Prop where
 c:mg "Board"=some (.ref C)
 cl:dC K C
 mks:W.makesIn K C=true
 kc:W.keepIn K (.ref C)=true
 hc:W.findIn K (.ref C) "__class__"=some (some (.builtin "object.__class__"))
 n_given:cA K C "given"
 n_rules:cA K C "rules"
 n_memory:cA K C "memory"
 n_order:cA K C "order"
 m_init:bG K C "__init__" "Board.__init__" a4v
 m_has_column:bG K C "has_column" "Board.has_column" a3w
 m_content:bG K C "content" "Board.content" a2U
 m_set_column:bG K C "set_column" "Board.set_column" a3s
 m_empty_column:bG K C "empty_column" "Board.empty_column" a2M
 m_outcome:bG K C "outcome" "Board.outcome" a8U
structure sC(K:Fg)(mg:Str->Option Value)(C:Addr):Prop where
 c:mg "TableTold"=some (.ref C)
 cl:dC K C
 mks:W.makesIn K C=true
 kc:W.keepIn K (.ref C)=true
 hc:W.findIn K (.ref C) "__class__"=some (some (.builtin "object.__class__"))
 n_boards:cA K C "boards"
 n_name:cA K C "name"
 n_size:cA K C "size"
 m_init:bG K C "__init__" "TableTold.__init__" a2i
 m_take:bG K C "take" "TableTold.take" a2N
structure qO(K:Fg)(mg:Str->Option Value)(C:Addr):Prop where
 c:mg "ColumnSet"=some (.ref C)
 cl:dC K C
 mks:W.makesIn K C=true
 kc:W.keepIn K (.ref C)=true
 hc:W.findIn K (.ref C) "__class__"=some (some (.builtin "object.__class__"))
 n_board:cA K C "board"
 n_column:cA K C "column"
 n_after:cA K C "after"
 n_before:cA K C "before"
 m_init:bG K C "__init__" "ColumnSet.__init__" a2X
 m_take:bG K C "take" "ColumnSet.take" a4u
structure nX(K:Fg)(mg:Str->Option Value)(C:Addr):Prop where
 c:mg "ValuePut"=some (.ref C)
 cl:dC K C
 mks:W.makesIn K C=true
 kc:W.keepIn K (.ref C)=true
 hc:W.findIn K (.ref C) "__class__"=some (some (.builtin "object.__class__"))
 n_board:cA K C "board"
 n_column:cA K C "column"
 n_place:cA K C "place"
 n_after:cA K C "after"
 n_before:cA K C "before"
 m_init:bG K C "__init__" "ValuePut.__init__" a05
 m_take:bG K C "take" "ValuePut.take" a02
structure nQ(K:Fg)(mg:Str->Option Value)(C:Addr):Prop where
 c:mg "RowPutIn"=some (.ref C)
 cl:dC K C
 mks:W.makesIn K C=true
 kc:W.keepIn K (.ref C)=true
 hc:W.findIn K (.ref C) "__class__"=some (some (.builtin "object.__class__"))
 n_board:cA K C "board"
 n_place:cA K C "place"
 n_after:cA K C "after"
 m_init:bG K C "__init__" "RowPutIn.__init__" a3Z
 m_take:bG K C "take" "RowPutIn.take" a40
structure nY(K:Fg)(mg:Str->Option Value)(C:Addr):Prop where
 c:mg "RowTakenOut"=some (.ref C)
 cl:dC K C
 mks:W.makesIn K C=true
 kc:W.keepIn K (.ref C)=true
 hc:W.findIn K (.ref C) "__class__"=some (some (.builtin "object.__class__"))
 n_board:cA K C "board"
 n_place:cA K C "place"
 n_number:cA K C "number"
 n_before:cA K C "before"
 m_init:bG K C "__init__" "RowTakenOut.__init__" a08
 m_take:bG K C "take" "RowTakenOut.take" a4d
structure a70(K:Fg)(mg:Str->Option Value)(C:Addr):Prop where
 c:mg "Trial"=some (.ref C)
 cl:dC K C
 mks:W.makesIn K C=true
 kc:W.keepIn K (.ref C)=true
 hc:W.findIn K (.ref C) "__class__"=some (some (.builtin "object.__class__"))
 n_finder:cA K C "finder"
 n_looked:cA K C "looked"
 n_lacking:cA K C "lacking"
 m_init:bG K C "__init__" "Trial.__init__" b0D
 m_look:bG K C "look" "Trial.look" b0U
structure jF(K:Fg)(mg:Str->Option Value)(C:Addr):Prop where
 c:mg "Finder"=some (.ref C)
 cl:dC K C
 mks:W.makesIn K C=true
 kc:W.keepIn K (.ref C)=true
 hc:W.findIn K (.ref C) "__class__"=some (some (.builtin "object.__class__"))
 n_boards:cA K C "boards"
 n_found:cA K C "found"
 n_looked:cA K C "looked"
 m_init:bG K C "__init__" "Finder.__init__" a1R
 m_value_of:bG K C "value_of" "Finder.value_of" a2E
 m_attempt:bG K C "attempt" "Finder.attempt" a39
 m_gathered:bG K C "gathered" "Finder.gathered" yX
 m_settle:bG K C "settle" "Finder.settle" a8Z
 m_knows:bG K C "knows" "Finder.knows" a2j
 m_given_cells:bG K C "given_cells" "Finder.given_cells" a9j
structure dA(K:Fg)(mg:Str->Option Value)(C:Addr):Prop where
 c:mg "Sheet"=some (.ref C)
 cl:dC K C
 mks:W.makesIn K C=true
 kc:W.keepIn K (.ref C)=true
 hc:W.findIn K (.ref C) "__class__"=some (some (.builtin "object.__class__"))
 n_boards:cA K C "boards"
 n_changes:cA K C "changes"
 n_finder:cA K C "finder"
 m_init:bG K C "__init__" "Sheet.__init__" a30
 m_table:bG K C "table" "Sheet.table" a5i
 m_give:bG K C "give" "Sheet.give" xR
 m_rule:bG K C "rule" "Sheet.rule" vO
 m_put:bG K C "put" "Sheet.put" vH
 m_put_in:bG K C "put_in" "Sheet.put_in" a2H
 m_take_out:bG K C "take_out" "Sheet.take_out" a42
 m_tables:bG K C "tables" "Sheet.tables" a4n
 m_columns:bG K C "columns" "Sheet.columns" a04
 m_is_ruled:bG K C "is_ruled" "Sheet.is_ruled" vF
 m_many:bG K C "many" "Sheet.many" a1q
 m_cell:bG K C "cell" "Sheet.cell" vN
 m_stretch:bG K C "stretch" "Sheet.stretch" oI
 m_total:bG K C "total" "Sheet.total" wM
 m_came_of:bG K C "came_of" "Sheet.came_of" xA
 m_make:bG K C "make" "Sheet.make" a0K
 m_board_of:bG K C "board_of" "Sheet.board_of" a1c
 m_board_with:bG K C "board_with" "Sheet.board_with" a1D
 m_board_for:bG K C "board_for" "Sheet.board_for" a1r
 m_check_cell:bG K C "check_cell" "Sheet.check_cell" vX
 m_check_leans:bG K C "check_leans" "Sheet.check_leans" a3e
 m_check_ring:bG K C "check_ring" "Sheet.check_ring" a06
structure lB(K:Fg)(mg:Str->Option Value)(C:Addr):Prop where
 c:mg "Rule"=some (.ref C)
 cl:dC K C
 mks:W.makesIn K C=true
 kc:W.keepIn K (.ref C)=true
 hc:W.findIn K (.ref C) "__class__"=some (some (.builtin "object.__class__"))
 n_function:cA K C "function"
 m_init:bG K C "__init__" "Rule.__init__" a4x
 v_init:ClsM K C "__init__"
 m_reckon:bG K C "reckon" "Rule.reckon" pW
structure nM(K:Fg)(mg:Str->Option Value)(C:Addr):Prop where
 c:mg "Cells"=some (.ref C)
 cl:dC K C
 mks:W.makesIn K C=true
 kc:W.keepIn K (.ref C)=true
 hc:W.findIn K (.ref C) "__class__"=some (some (.builtin "object.__class__"))
 n_function:cA K C "function"
 n_names:cA K C "names"
 m_init:bG K C "__init__" "Cells.__init__" a2p
 m_leans:bG K C "leans" "Cells.leans" tD
 m_gather:bG K C "gather" "Cells.gather" a9T
 m_reckon:bG K C "reckon" "Rule.reckon" pW
 isl:W.kitOne K (.ref C) (.type "list")=some false
 own:W.mroIn K C (.type "object")=some true/\W.specialIn K (.builtin "object.__class__") "__get__"=some (some (.builtin "getset_descriptor.__get__"))/\W.takesIn K (.builtin "object.__class__")=some true
structure pO(K:Fg)(mg:Str->Option Value)(C:Addr):Prop where
 c:mg "Above"=some (.ref C)
 cl:dC K C
 mks:W.makesIn K C=true
 kc:W.keepIn K (.ref C)=true
 hc:W.findIn K (.ref C) "__class__"=some (some (.builtin "object.__class__"))
 n_function:cA K C "function"
 n_names:cA K C "names"
 n_first:cA K C "first"
 m_init:bG K C "__init__" "Above.__init__" a4o
 m_leans:bG K C "leans" "Above.leans" rL
 m_gather:bG K C "gather" "Above.gather" a9n
 m_reckon:bG K C "reckon" "Rule.reckon" pW
structure qY(K:Fg)(mg:Str->Option Value)(C:Addr):Prop where
 c:mg "Group"=some (.ref C)
 cl:dC K C
 mks:W.makesIn K C=true
 kc:W.keepIn K (.ref C)=true
 hc:W.findIn K (.ref C) "__class__"=some (some (.builtin "object.__class__"))
 n_function:cA K C "function"
 n_key:cA K C "key"
 n_name:cA K C "name"
 m_init:bG K C "__init__" "Group.__init__" a18
 m_leans:bG K C "leans" "Group.leans" a3J
 m_gather:bG K C "gather" "Group.gather" a8n
 m_reckon:bG K C "reckon" "Rule.reckon" pW
structure qN(K:Fg)(mg:Str->Option Value)(C:Addr):Prop where
 c:mg "Lookup"=some (.ref C)
 cl:dC K C
 mks:W.makesIn K C=true
 kc:W.keepIn K (.ref C)=true
 hc:W.findIn K (.ref C) "__class__"=some (some (.builtin "object.__class__"))
 n_function:cA K C "function"
 n_key:cA K C "key"
 n_other:cA K C "other"
 n_theirs:cA K C "theirs"
 n_names:cA K C "names"
 m_init:bG K C "__init__" "Lookup.__init__" a1a
 m_leans:bG K C "leans" "Lookup.leans" tY
 m_gather:bG K C "gather" "Lookup.gather" a91
 m_reckon:bG K C "reckon" "Rule.reckon" pW
structure pQ(K:Fg)(mg:Str->Option Value)(C:Addr):Prop where
 c:mg "Mend"=some (.ref C)
 cl:dC K C
 mks:W.makesIn K C=true
 kc:W.keepIn K (.ref C)=true
 hc:W.findIn K (.ref C) "__class__"=some (some (.builtin "object.__class__"))
 n_function:cA K C "function"
 n_name:cA K C "name"
 m_init:bG K C "__init__" "Mend.__init__" a0W
 m_leans:bG K C "leans" "Mend.leans" a35
 m_gather:bG K C "gather" "Mend.gather" b04
 m_reckon:bG K C "reckon" "Rule.reckon" pW
structure aX(K:Fg)(mg:Str->Option Value):Prop where
 len:mg "len"=none
 isinstance:mg "isinstance"=none
 int:mg "int"=none
 bool:mg "bool"=none
 str:mg "str"=none
 all:mg "all"=none
 range:mg "range"=none
 abs:mg "abs"=none
 list:mg "list"=none
 tuple:mg "tuple"=none
 dict:mg "dict"=none
 sorted:mg "sorted"=none
 reversed:mg "reversed"=none
 ValueError:mg "ValueError"=none
 g_LETTERS:∃t,mg "LETTERS"=some (.str ("abcdefghijklmnopqrstuvwxyz":Str) t)
 g_MOST_LETTERS:∃t,mg "MOST_LETTERS"=some (.int 8 t)
 g_ODD:∃p,mg "ODD"=some (.ref p)/\∀H,bS K H p [V.str ("fault":Str),V.str ("odd":Str)]
 g_MOST_ROWS:∃t,mg "MOST_ROWS"=some (.int 30 t)
 g_MOST_COLUMNS:∃t,mg "MOST_COLUMNS"=some (.int 8 t)
 g_MOST_TABLES:∃t,mg "MOST_TABLES"=some (.int 4 t)
 g_UNKNOWN:∃p,mg "UNKNOWN"=some (.ref p)/\∀H,bS K H p [V.str ("fault":Str),V.str ("unknown":Str)]
 g_MOST_NAMES:∃t,mg "MOST_NAMES"=some (.int 6 t)
 g_LACKS:∃p,mg "LACKS"=some (.ref p)/\∀H,bS K H p [V.str ("fault":Str),V.str ("lacks":Str)]
 d_is_whole:dO K mg "is_whole" a4S
 d_is_number:dO K mg "is_number" a34
 d_is_name:dO K mg "is_name" a3z
 d_is_fault:dO K mg "is_fault" a2O
 d_is_value:dO K mg "is_value" a1S
 d_settled:dO K mg "settled" a6c
 d_check_size:dO K mg "check_size" a20
 d_check_place:dO K mg "check_place" a1F
 d_check_value:dO K mg "check_value" a0Y
 d_check_values:dO K mg "check_values" a01
 d_check_row:dO K mg "check_row" a1s
 d_ring_from:dO K mg "ring_from" a4w
 d_way_to:dO K mg "way_to" a7Q
 d_check_name:dO K mg "check_name" a1O
 d_checked_names:dO K mg "checked_names" a2a
 d_each_once:dO K mg "each_once" a3I
 d_look_in_turn:dO K mg "look_in_turn" a8W
 d_law_mixed:dO K mg "_law_mixed" uU
 d_law_noted:dO K mg "_law_noted" a6C
 d_law_class:dO K mg "_law_class" a5g
 d_law_no_name:dO K mg "_law_no_name" a3W
 d_law_no_place:dO K mg "_law_no_place" a3a
 d_law_no_value:dO K mg "_law_no_value" a37
 d_law_changes:dO K mg "_law_changes" a2y
 d_law_rows:dO K mg "_law_rows" a2w
 d_law_looks:dO K mg "_law_looks" a5f
 d_law_done:dO K mg "_law_done" a4e
 d_law_refused:dO K mg "_law_refused" a3K
 d_law_full:dO K mg "_law_full" a4A
 d_law_state:dO K mg "_law_state" a4c
 d_law:dO K mg "law" kJ
 notabs:W.noTabs K=true
 exc:∃c:Ad,dG K mg c
 t_Table:∃C,dE K mg C
 t_Board:∃C,cO K mg C
 t_TableTold:∃C,sC K mg C
 t_ColumnSet:∃C,qO K mg C
 t_ValuePut:∃C,nX K mg C
 t_RowPutIn:∃C,nQ K mg C
 t_RowTakenOut:∃C,nY K mg C
 t_Trial:∃C,a70 K mg C
 t_Finder:∃C,jF K mg C
 t_Sheet:∃C,dA K mg C
 t_Rule:∃C,lB K mg C
 t_Cells:∃C,nM K mg C
 t_Above:∃C,pO K mg C
 t_Group:∃C,qY K mg C
 t_Lookup:∃C,qN K mg C
 t_Mend:∃C,pQ K mg C
structure Tbs(h:Heap)(K:Fg)(mg:Str->Option Value):Prop where
 bs:∃z_law z_Finder_gathered:Addr×Addr,yM K mg "law" kJ z_law/\uW K mg "Finder" "gathered" "Finder.gathered" yX z_Finder_gathered/\z_law.2≠z_Finder_gathered.2/\h.get? z_Finder_gathered.2=some (W.tabObj #[])
abbrev sT:Str:= "abcdefghijklmnopqrstuvwxyz"
def qT(c:Nat):Bool:= !(Builtin.Str.occurrences sT ⟨#[c]⟩ 0 sT.length 1).isEmpty
def eE(t:Str):Bool:=decide ((1:Int)<=t.length)&&decide ((t.length:Int)<=8)&&t.cps.toList.all qT
noncomputable def gD:PyData->Bool
 | .int _=>true
 |_=>false
def kR:PyData->Bool
 | .int i=>decide ((if i<0 then-i else i)<10^ (60:Int).toNat)
 |_=>false
def dZ:PyData->Bool
 | .str t=>eE t
 |_=>false
def kD:PyData->Bool
 | .tuple [.str z,d]=>decide (z= "fault")&&dZ d
 |_=>false
def eV(d:PyData):Bool:=kR d||kD d
def lK(d:PyData):Prop:=∀t,d= .str t->t.length<=1000
def hU(d:PyData):Prop:=∀ds,d= .tuple ds->∀e∈ds,lK e
theorem fD{t:Str}(h:t.length<=1000):lK (.str t):=λz e=>by cases e;exact h
theorem b0v(h:fZ d≠ .tup):hU d:=λz e=>by subst e;exact absurd rfl h
theorem yZ(h:∀e∈ds,lK e):hU (.tuple ds):=λz e=>by cases e;exact h
section
inductive a0U(K:Fg)(vs:List V)(H:Hp)(Q:VK)(E:XK):Prop
 |mk (x:_) (d:_):vs= [x] ->Dt K H x d->Q (.bl (gD d)) H->a0U K vs H Q E
theorem a5v:bD ["thing"] ["thing"] (aS a4S):={}
theorem lY(T:aX K mg):cT P w K mg af aN 1 "is_whole" ["thing"] (a0U K):=by
 refine T.d_is_whole.known a5v (λ_ _ _ _ _ _ us hl=>fG (λ_=>rfl) us hl) (λf ah A ag s H vs Q E hr h=> ?_)
 ·obtain⟨x,d,rfl,hd,q⟩:=h
  refine⟨_,(aI (cC (lM (cM mB rfl T.isinstance fR (aA (pv 0) (aA (jR T.int a2S) aC))) (lE (b0d (cM mB rfl T.isinstance fR (aA (pv 0) (aA (jR T.bool b0e) aC)))))))),?_⟩;refine⟨_,rfl,x,"int",d,_,rfl,hd,b0n K _,_,rfl,?_⟩;refine dJ (λh1=> ?_) (λh1=> ?_)
  ·refine⟨_,rfl,x,"bool",d,_,rfl,hd,b0T K _,_,rfl,?_⟩
   have e:(!decide (fZ d=Kd.bl))=gD d:=by cases d<;>simp[fZ,gD]at h1|-
   show Q (.bl (!decide (fZ d=Kd.bl))) H;rw[e];exact q
  ·have e:false=gD d:=by cases d<;>simp[fZ,gD]at h1|-
   show Q (.bl false) H;rw[e];exact q
inductive a2s(K:Fg)(vs:List V)(H:Hp)(Q:VK)(E:XK):Prop
 |mk (x:_) (d:_):vs= [x] ->Dt K H x d->lK d->(∀H',aB H H'->Q (.bl (dZ d)) H')->a2s K vs H Q E
theorem a8G:bD ["thing"] ["thing"] (aS a3z):={}
theorem iG(T:aX K mg):cT P w K mg af aN 1 "is_name" ["thing"] (a2s K):=by
 refine T.d_is_name.known a8G (λ_ _ _ _ _ _ us hl=>fG (λ_=>rfl) us hl) (λf ah A ag s H vs Q E hr h=> ?_)
 ·obtain⟨x,d,rfl,hd,hsh,q⟩:=h
  refine⟨_,(aJ (bO (PW.pt (fB (cU (cY (cM mB rfl T.isinstance fR (aA (pv 0) (aA (jR T.str a2n) aC))) (λ_=>rfl))) (fY (cU (sQ iR iR aT (cM gU rfl T.len fS (aA (pv 0) aC)) (kN T.g_MOST_LETTERS)))))) (aI (cC xQ)) bW)
   (aI (cC (cM (yJ rfl) rfl T.all a0p (aA (rD uY rfl rfl (by decide) (b0w (pv 0)) (λ_ _ _ _ _=>oM) (λ_ _ _ _ _=>(lP a9q (pv 0) (b0I T.g_LETTERS) (by with_unfolding_all rfl)))) aC))))),?_⟩
  refine⟨_,rfl,x,"str",d,_,rfl,hd,a1I K _,_,rfl,?_⟩;by_cases hk:fZ d= .str
  ·obtain⟨t,rfl⟩:∃t,d= .str t:=by cases d<;>simp[fZ]at hk|-
   cases hd;have ht:t.length<=1000:=hsh t rfl;refine bU ?_;refine⟨_,rfl,_,_,rfl,⟨sl ht,rfl⟩,_,_,rfl,rfl,_,rfl,?_⟩;refine dJ (λh1=> ?_) (λh1=> ?_)
   ·refine⟨_,_,rfl,rfl,_,rfl,?_⟩
    refine dJ (λh2=> ?_) (λh2=> ?_)
    ·have e:dZ (.str t)=false:=by
      show eE t=false;unfold eE
      have:decide ((t.length:Int)<=8)=false:=by simpa using h2
      rw[this,Bool.and_false,Bool.false_and]
     rw[<- e];exact q H (aB.refl H)
    ·have h8:t.cps.size<=8:=by
      have:(t.length:Int)<=8:=by simpa using h2
      show t.length<=8;omega
     refine⟨_,rfl,t,rfl,λD hD=> ?_⟩;refine b0o (x:=t) (λi ys H2=>ys=(t.cps.toList.take i).map (λc=>V.bl (qT c))/\aB H H2) ⟨rfl,aB.new hD⟩ ?_ ?_
     ·rintro i c ys H2 hc h2D ⟨rfl,s2⟩
      have hi:i<t.cps.size:=(Array.getElem?_eq_some_iff.mp hc).1;refine⟨_,rfl,_,_,rfl,rfl,h2D,?_,?_,s2.on hD⟩
      ·rw[List.length_map,List.length_take,Array.length_toList]
       exact fU (by omega)
      ·rw[List.take_add_one,List.map_append,Array.getElem?_toList,hc]
       rfl
     ·rintro ys H2 h2D ⟨rfl,s2⟩
      refine⟨D,t.cps.toList.map qT,rfl,aU.of ?_,?_⟩
      ·rw[h2D,List.take_of_length_le (by simp),List.map_map]
       rfl
      ·have e:dZ (.str t)=(t.cps.toList.map qT).all id:=by
        show eE t=_;unfold eE;have e1:decide ((1:Int)<=t.length)=true:=h1
        have e2:decide ((t.length:Int)<=8)=true:=by simpa using h2
        rw[e1,e2,Bool.true_and,Bool.true_and,List.all_map];rfl
       rw[<- e];exact q H2 s2
   ·refine⟨_,rfl,?_⟩
    refine cB ?_
    have e:dZ (.str t)=false:=by
     show eE t=false;unfold eE
     have:decide ((1:Int)<=t.length)=false:=by simpa using h1
     rw[this,Bool.false_and,Bool.false_and]
    rw[<- e];exact q H (aB.refl H)
  ·rw[decide_eq_false hk]
   refine cB (cB ?_)
   have e:dZ d=false:=by cases d<;>simp[fZ]at hk<;>rfl
   rw[<- e];exact q H (aB.refl H)
inductive a5c(K:Fg)(vs:List V)(H:Hp)(Q:VK)(E:XK):Prop
 |mk (x:_) (d:_):vs= [x] ->Dt K H x d->Q (.bl (kR d)) H->a5c K vs H Q E
theorem a8b:bD ["thing"] ["thing"] (aS a34):={}
theorem a3h(T:aX K mg):cT P w K mg af aN 2 "is_number" ["thing"] (a5c K):=by
 refine T.d_is_number.known a8b (λ_ _ _ _ _ _ us hl=>fG (λ_=>rfl) us hl) (λf ah A ag s H vs Q E hr h=> ?_)
 ·obtain⟨x,d,rfl,hd,q⟩:=h
  refine⟨_,(aI (cC (lM (bI (lY T) hr.mn aL (aA (pv 0) aC)) (lE (lP sB (cM a9w rfl T.abs a82 (aA (pv 0) aC)) (bX uE aT aT) (cN _)))))),?_⟩;refine⟨_,rfl,x,d,rfl,hd,_,rfl,?_⟩;refine dJ (λh1=> ?_) (λh1=> ?_)
  ·obtain⟨i,rfl⟩:∃i,d= .int i:=by cases d<;>simp[gD]at h1|-
   cases hd;exact⟨_,rfl,i,rfl,_,_,rfl,rfl,⟨by decide,by decide,by decide⟩,_,_,rfl,rfl,q⟩
  ·have e:kR d=false:=by cases d<;>simp[gD]at h1<;>rfl
   show Q (.bl false) H;rw[<- e];exact q
inductive a3o(K:Fg)(vs:List V)(H:Hp)(Q:VK)(E:XK):Prop
 |mk (x:_) (d:_):vs= [x] ->Dt K H x d->hU d->(∀H',aB H H'->Q (.bl (kD d)) H')->a3o K vs H Q E
theorem a8X:bD ["thing"] ["thing"] (aS a2O):={}
theorem a6k(h:ds.length≠2):kD (.tuple ds)=false:=by
 match ds,h with
 | [],_=>rfl
 | [a],_=>cases a<;>rfl
 | [a,b],h=>exact absurd rfl h
 |a::b::c::r,_=>cases a<;>rfl
theorem b0q(h:cL K H xs ds)(l:xs.length=2):∃y z d1 d2,xs= [y,z] /\ds= [d1,d2] /\Dt K H y d1/\Dt K H z d2:=by
 cases h with
 |nil=>cases l
 |cons h2 t=>
  cases t with
  |nil=>cases l
  |cons h3 t2=>
   cases t2 with
   |nil=>exact⟨_,_,_,_,rfl,rfl,h2,h3⟩
   |cons _ _=>exact absurd l (by rw[List.length_cons,List.length_cons,List.length_cons];omega)
theorem a6z(T:aX K mg):cT P w K mg af aN 2 "is_fault" ["thing"] (a3o K):=by
 refine T.d_is_fault.known a8X (λ_ _ _ _ _ _ us hl=>fG (λ_=>rfl) us hl) (λf ah A ag s H vs Q E hr h=> ?_)
 ·obtain⟨x,d,rfl,hd,hsh,q⟩:=h
  refine⟨_,(aJ (bO (PW.pt (fB (cU (cY (cM mB rfl T.isinstance fR (aA (pv 0) (aA (jR T.tuple a4t) aC))) (λ_=>rfl))) (fY (cK xS (cM gU rfl T.len fS (aA (pv 0) aC)) aT (cN _))))) (aI (cC xQ)) bW)
   (aI (cC (lM (cM mB rfl T.isinstance fR (aA (cE cV (pv 0) aT (λ_ _=>rfl)) (aA (jR T.str a2n) aC))) (lM (lP gL (cE cV (pv 0) aT (λ_ _=>rfl)) aW (cN _)) (lE (bI (iG T) hr.mn aL (aA (cE cV (pv 0) aT (λ_ _=>rfl)) aC)))))))),?_⟩
  refine⟨_,rfl,x,"tuple",d,_,rfl,hd,a6P K _,_,rfl,?_⟩;by_cases hk:fZ d= .tup
  ·obtain⟨ds,rfl⟩:∃ds,d= .tuple ds:=by cases d<;>simp[fZ]at hk|-
   cases hd with
   | @tup a xs _ hq hall=>
    refine bU ?_;refine⟨_,rfl,_,_,rfl,.inr ⟨_,hq,rfl⟩,rfl,_,rfl,?_⟩;have hl:=hall.length;refine dJ (λh1=> ?_) (λh1=> ?_)
    ·have h1':xs.length≠2:=by
      intro z;rw[z]at h1;exact absurd h1 (by decide)
     have e:=a6k (ds:=ds) (by rw[<- hl];exact h1');rw[<- e];exact q H (aB.refl H)
    ·have h1':xs.length=2:=by
      have z:¬(!decide (V.int (xs.length:Int)=V.int 2))=true:=h1
      have z2:(xs.length:Int)=2:=by simpa using z
      omega
     obtain⟨y,z,d1,d2,rfl,rfl,h2,h3⟩:=b0q hall h1';have a0:fE [y,z] 0=some y:=rfl;have a1:fE [y,z] 1=some z:=rfl;refine⟨_,rfl,_,_,_,_,rfl,rfl,hq,a0,y,"str",d1,_,rfl,h2,a1I K _,_,rfl,?_⟩;refine dJ (λh4=> ?_) (λh4=> ?_)
     ·obtain⟨t,rfl⟩:∃t,d1= .str t:=by cases d1<;>simp[fZ]at h4|-
      cases h2;refine⟨_,rfl,_,_,_,_,rfl,rfl,hq,a0,rfl,_,rfl,?_⟩;refine dJ (λh5=> ?_) (λh5=> ?_)
      ·have h5':t= "fault":=by
        have z5:V.str t=V.str "fault":=by simpa using h5
        exact V.str.inj z5
       refine⟨_,rfl,_,_,_,_,rfl,rfl,hq,a1,z,d2,rfl,h3,hsh _ rfl _ (List.mem_cons_of_mem _ List.mem_cons_self),λH' s'=> ?_⟩
       ·have e:kD (.tuple [.str t,d2])=dZ d2:=by
         show(decide (t= "fault")&&dZ d2)=dZ d2;rw[decide_eq_true h5',Bool.true_and]
        rw[<- e];exact q H' s'
      ·have h5':t≠ "fault":=λz5=>h5 (by rw[z5];rfl)
       have e:kD (.tuple [.str t,d2])=false:=by
        show(decide (t= "fault")&&dZ d2)=false;rw[decide_eq_false h5',Bool.false_and]
       show Q (.bl false) H;rw[<- e];exact q H (aB.refl H)
     ·have e:kD (.tuple [d1,d2])=false:=by cases d1<;>simp[fZ]at h4<;>rfl
      show Q (.bl false) H;rw[<- e];exact q H (aB.refl H)
  ·rw[decide_eq_false hk]
   refine cB (cB ?_)
   have e:kD d=false:=by cases d<;>simp[fZ]at hk<;>rfl
   rw[<- e];exact q H (aB.refl H)
inductive a3X(K:Fg)(vs:List V)(H:Hp)(Q:VK)(E:XK):Prop
 |mk (x:_) (d:_):vs= [x] ->Dt K H x d->hU d->(∀H',aB H H'->Q (.bl (eV d)) H')->a3X K vs H Q E
theorem a94:bD ["thing"] ["thing"] (aS a1S):={}
theorem yR(T:aX K mg):cT P w K mg af aN 3 "is_value" ["thing"] (a3X K):=by
 refine T.d_is_value.known a94 (λ_ _ _ _ _ _ us hl=>fG (λ_=>rfl) us hl) (λf ah A ag s H vs Q E hr h=> ?_)
 ·obtain⟨x,d,rfl,hd,hsh,q⟩:=h
  refine⟨_,(aI (cC (b0F (bI (a3h T) hr.mn aL (aA (pv 0) aC)) (lE (bI (a6z T) hr.mn aL (aA (pv 0) aC)))))),?_⟩;refine⟨_,rfl,x,d,rfl,hd,_,rfl,?_⟩;refine dJ (λh1=> ?_) (λh1=> ?_)
  ·have e:eV d=true:=by unfold eV;rw[h1,Bool.true_or]
   show Q (.bl true) H;rw[<- e];exact q H (aB.refl H)
  ·refine⟨_,rfl,x,d,rfl,hd,hsh,λH' s'=> ?_⟩
   have e:eV d=kD d:=by
    unfold eV
    have:kR d=false:=by simpa using h1
    rw[this,Bool.false_or]
   rw[<- e];exact q H' s'
end
def Nl(t:Str):Prop:=1<=t.length/\t.length<=8/\∀c∈t.cps.toList,c∈sT.cps.toList
theorem Nl.name{t:Str}(h:Nl t):eE t=true:=by
 unfold eE
 have a1:decide ((1:Int)<=t.length)=true:=by rw[decide_eq_true_eq];have:=h.1;omega
 have a2:decide ((t.length:Int)<=8)=true:=by rw[decide_eq_true_eq];have:=h.2.1;omega
 have a3:t.cps.toList.all qT=true:=by
  rw[List.all_eq_true];intro c hc
  have:∀c∈sT.cps.toList,qT c=true:=by decide+kernel
  exact this c (h.2.2 c hc)
 rw[a1,a2,a3];rfl
theorem Nl.lay(h:Nl z):PyData.canLay0 (.str z)=true:=by
 obtain⟨⟨l⟩⟩:=z
 have:∀c∈sT.cps.toList,c<128:=by decide+kernel
 exact b0Y λc hc=>this c (h.2.2 c hc)
theorem a0a{p:Str×Str}(h1:Nl p.1)(h2:Nl p.2):(iW p).canLay0=true:=by
 show PyData.canLayAll0 [.str p.1,.str p.2]=true;show(PyData.canLay0 (.str p.1)&&(PyData.canLay0 (.str p.2)&&true))=true;rw[h1.lay,h2.lay];rfl
theorem a45:∀{ps:List (Str×Str)},(∀p∈ps,Nl p.1/\Nl p.2)->(PyData.list (ps.map iW)).canLay0=true
 | [],_=>rfl
 |p::ps,h=>by
  show((iW p).canLay0&&PyData.canLayAll0 (ps.map iW))=true;have e:PyData.canLayAll0 (ps.map iW)=true:=a45 λq hq=>h q (List.mem_cons_of_mem _ hq)
  rw[e,a0a (h p List.mem_cons_self).1 (h p List.mem_cons_self).2];rfl
section
inductive a1y(vs:List V)(H:Hp)(Q:VK)(E:XK):Prop
 |mk (z:Str):vs= [.str z] ->Nl z->(∀H',aB H H'->Q .non H')->a1y vs H Q E
theorem a6u:bD ["name"] ["name"] (aS a1O):={}
theorem oG(T:aX K mg):cT P w K mg af aN 2 "check_name" ["name"] a1y:=by
 refine T.d_check_name.known a6u (λ_ _ _ _ _ _ us hl=>fG (λ_=>rfl) us hl) (λf ah A ag s H vs Q E hr h=> ?_)
 ·obtain⟨z,rfl,hz,q⟩:=h
  refine⟨_,(aI (bO (cU (cY (bI (iG T) hr.mn aL (aA (pv 0) aC)) (λ_=>rfl))) (aI bP) bW)),?_⟩;have h8:=hz.2.1;refine⟨_,rfl,_,_,rfl,.str z,fD (by omega),λH' s'=>⟨_,rfl,?_⟩⟩;rw[show dZ (.str z)=true from hz.name];exact bU (q H' s')
inductive a3U(K:Fg)(vs:List V)(H:Hp)(Q:VK)(E:XK):Prop
 |mk (a:Addr) (zs:List Str):vs= [.ref a] ->aU K H a (zs.map V.str)->zs.length<=6->(∀z∈zs,Nl z)->(∀H' l,aB H H'->H l=none->H' l=some (.lst (zs.map V.str))->Q (.ref l) H')->a3U K vs H Q E
theorem xB{K:Fg}{H:Hp}:∀zs:List Str,cL K H (zs.map V.str) (zs.map PyData.str)
 | []=> .nil
 |z::zs=> .cons (.str z) (xB zs)
theorem a1p:bD ["names","name"] ["names"] (aS a2a):={}
theorem a0l(T:aX K mg):cT P w K mg af aN 3 "checked_names" ["names"] (a3U K):=by
 refine T.d_checked_names.known a1p (λ_ _ _ _ _ _ us hl=>fG (λ_=>rfl) us hl) (λf ah A ag s H vs Q E hr h=> ?_)
 ·obtain⟨a,zs,rfl,hq,h6,hz,q⟩:=h
  refine⟨_,(aJ (bO (PW.pt (fB (cU (cY (cM mB rfl T.isinstance fR (aA (pv 0) (aA (jR T.list jC) aC))) (λ_=>rfl))) (fY (cK a5q (cM gU rfl T.len fS (aA (pv 0) aC)) (kN T.g_MOST_NAMES) (cN _))))) (aI bP) bW)
   (aJ (jQ PassesOwn.never rfl (kB (pv 0)) (fO (i:=1) a1p.nd rfl (Or.inl rfl)) (aI (bT (bI (oG T) hr.mn aL (aA (pv 1) aC)))))
   (aI (cC (jZ vA rfl T.list jC (aA (pv 0) aC)))))),?_⟩
  refine⟨_,rfl,_,"list",_,_,rfl,Dt.lst hq (xB zs),wO K _,_,rfl,bU ?_⟩;refine⟨_,rfl,_,_,rfl,.inl ⟨_,hq,rfl⟩,_,_,rfl,rfl,_,rfl,?_⟩;rw[List.length_map,decide_eq_false (by omega)];refine bU ?_;refine⟨_,rfl,a,rfl,⟨_,hq⟩,?_⟩;refine pZ (K:=K) (a:=a) (xs:=zs.map V.str) (λi σ H2=>∃o,σ= [some (.ref a),o] /\aB H H2) ⟨_,rfl,aB.refl H⟩ (λi σ H2 _ ⟨_,_,s2⟩=>s2.seq hq) ?_ ?_
  ·rintro i x σ H2 hx ⟨o,rfl,s2⟩
   rw[List.getElem?_map]at hx
   cases e:zs[i]? with
   |none=>rw[e]at hx;cases hx
   |some z=>
    rw[e]at hx;cases hx;exact⟨_,rfl,z,rfl,hz z (List.mem_of_getElem? e),λH3 s3=>⟨_,rfl,s2.trans s3⟩⟩
  ·rintro σ H2 ⟨o,rfl,s2⟩
   refine⟨_,rfl,a,_,rfl,.inl (s2.seq hq),λl hl=> ?_⟩
   have hl':H l=none:=by
    cases e:H l with
    |none=>rfl
    |some u=>rw[s2 _ _ e]at hl;cases hl
   exact q _ l (s2.trans (aB.new hl)) hl' aG
theorem a0F:bD ["spots","found","spot"] ["spots"] (aS a3I):={}
end
def pP(r:Addr)(n:Int)(d:Addr):List (Str×V):=[("row_numbers",V.ref r),("fresh_number",V.int n),("kept",V.ref d)]
theorem a9x(r:Addr)(n:Int)(d:Addr):(pP r n d).lookup ("row_numbers":Str)=some (.ref r):=rfl
theorem flds_fresh(r:Addr)(n:Int)(d:Addr):(pP r n d).lookup ("fresh_number":Str)=some (.int n):=by
 show(match (("fresh_number":Str)==("row_numbers":Str))with|true=>some (V.ref r)|false=>_)=_;rw[show (("fresh_number":Str)==("row_numbers":Str))=false by decide+kernel];rfl
theorem lW(r:Addr)(n:Int)(d:Addr):(pP r n d).lookup ("kept":Str)=some (.ref d):=by
 show(match (("kept":Str)==("row_numbers":Str))with|true=>some (V.ref r)|false=>(match (("kept":Str)==("fresh_number":Str))with|true=>some (V.int n)|false=>_))=_;rw[show (("kept":Str)==("row_numbers":Str))=false by decide+kernel,show(("kept":Str)==("fresh_number":Str))=false by decide+kernel];rfl
theorem fF{r:Addr}{n:Int}{d:Addr}{m:Str}(h:(m==("row_numbers":Str)||m==("fresh_number":Str)||m==("kept":Str))=false:=by decide+kernel):(pP r n d).lookup m=none:=by
 simp only[Bool.or_eq_false_iff]at h;obtain⟨⟨h1,h2⟩,h3⟩:=h;show(match (m==("row_numbers":Str))with|true=>some (V.ref r)|false=>(match (m==("fresh_number":Str))with|true=>some (V.int n)|false=>(match (m==("kept":Str))with|true=>some (V.ref d)|false=>none)))=none;rw[h1,h2,h3]
theorem a7V(r:Addr)(n:Int)(d:Addr):aM "kept" (.ref d) (aM "fresh_number" (.int n) (aM "row_numbers" (.ref r) []))=pP r n d:=by
 show aM "kept" (.ref d) (if("row_numbers":Str)= "fresh_number" then _ else _)=_;rw[if_neg (by decide+kernel)];show(if("row_numbers":Str)= "kept" then _ else _::(if("fresh_number":Str)= "kept" then _ else _))=_;rw[if_neg (by decide+kernel),if_neg (by decide+kernel)];rfl
structure hV(C:Addr)(H:Hp)(p r d:Addr)(xs:List V)(n:Int)(kvs:List (aD×V)):Prop where
 at_:∃dx,H p=some (.ins C dx (pP r n d))
 rows:H r=some (.lst xs)
 kept:H d=some (.dK kvs)
theorem hV.same{r d:Addr}{n:Int}(T:hV C H p r d xs n kvs)(s:aB H H'):hV C H' p r d xs n kvs:=by
 obtain⟨dx,h⟩:=T.at_;exact⟨⟨dx,s _ _ h⟩,s _ _ T.rows,s _ _ T.kept⟩
def Pv(K:Fg)(H:Hp)(v:V)(d:PyData):Prop:=(∃i,v= .int i/\d= .int i/\kR (.int i)=true)\/ ∃a y,v= .ref a/\H a=some (.tup [.str ("fault":Str),.str y])/\d= .tuple [.str "fault",.str y] /\Nl y
def Vd(d:PyData):Prop:=(∃i,d= .int i/\kR (.int i)=true)\/ ∃y,d= .tuple [.str "fault",.str y] /\Nl y
theorem Pv.dt(h:Pv K H v d):Dt K H v d:=by
 rcases h with⟨i,rfl,rfl,_⟩|⟨a,y,rfl,h,rfl,_⟩
 ·exact .int i
 ·exact .tup (bS.of h) (.cons (.str _) (.cons (.str _) .nil))
theorem Pv.vd(h:Pv K H v d):Vd d:=by
 rcases h with⟨i,rfl,rfl,hb⟩|⟨a,y,rfl,h,rfl,hy⟩
 ·exact .inl ⟨i,rfl,hb⟩
 ·exact .inr ⟨y,rfl,hy⟩
def kW(H H':Hp):Prop:=∀a xs,H a=some (.tup xs)->H' a=some (.tup xs)
theorem kW.of(s:aB H H'):kW H H':=λa xs e=>s _ _ e
theorem kW.upd{l:Addr}{o':HO}(h:H l=some o)(n:∀xs,o≠ .tup xs):kW H (L2.upd H l o'):=λa xs e=>by
 rw[aF (λz=>by rw[z,h]at e;exact n _ (Option.some.inj e))];exact e
theorem Pv.keep(s:kW H H')(h:Pv K H v d):Pv K H' v d:=by
 rcases h with h|⟨a,y,rfl,h,rfl,hy⟩
 ·exact .inl h
 ·exact .inr ⟨a,y,rfl,s _ _ h,rfl,hy⟩
theorem Vd.short(h:Vd d):hU d/\eV d=true:=by
 rcases h with⟨i,rfl,hb⟩|⟨y,rfl,hy⟩
 ·refine⟨b0v (by intro z;cases z),?_⟩
  show(kR (.int i)||kD (.int i))=true;rw[hb];rfl
 ·have l8:=hy.2.1
  refine⟨yZ (by
   intro e he;simp only[List.mem_cons,List.not_mem_nil,or_false]at he
   rcases he with rfl|rfl
   ·exact fD (by decide)
   ·exact fD (by omega)),?_⟩
  show(kR _||kD (.tuple [.str "fault",.str y]))=true
  rw[show kD (.tuple [.str "fault",.str y])=true by
   show(decide (("fault":Str)= "fault")&&dZ (.str y))=true;rw[decide_eq_true rfl,Bool.true_and]
   exact Nl.name hy,Bool.or_true]
def iP(K:Fg)(H:Hp):List V->List PyData->Prop:=Paired (Pv K H)
theorem iP.keep{K:Fg}{H H':Hp}(s:kW H H'):∀{xs:List V} {ds:List PyData},iP K H xs ds->iP K H' xs ds
 |_,_,.nil=> .nil
 |_,_,.cons h t=> .cons (h.keep s) (iP.keep s t)
theorem iP.dt{K:Fg}{H:Hp}:∀{xs:List V} {ds:List PyData},iP K H xs ds->cL K H xs ds
 |_,_,.nil=> .nil
 |_,_,.cons h t=> .cons h.dt (iP.dt t)
theorem iP.vd{K:Fg}{H:Hp}:∀{xs:List V} {ds:List PyData},iP K H xs ds->∀d∈ds,Vd d
 |_,_,.nil,_,h=>by cases h
 |_,_,.cons h t,d,hd=>by
  rcases List.mem_cons.mp hd with rfl|hd
  ·exact h.vd
  ·exact iP.vd t d hd
section
inductive a2Z(vs:List V)(H:Hp)(Q:VK)(E:XK):Prop
 |mk (m:Nat):vs= [.int (m:Int)] ->m<=30->Q .non H->a2Z vs H Q E
theorem a2o:bD ["many"] ["many"] (aS a20):={}
theorem a1v(T:aX K mg):cT P w K mg af aN 2 "check_size" ["many"] a2Z:=by
 refine T.d_check_size.known a2o (λ_ _ _ _ _ _ us hl=>fG (λ_=>rfl) us hl) (λf ah A ag s H vs Q E hr h=> ?_)
 ·obtain⟨m,rfl,hm,q⟩:=h
  refine⟨_,(aI (bO (PW.pt (fB (cU (cY (bI (lY T) hr.mn aL (aA (pv 0) aC)) (λ_=>rfl))) (fY (cU (sQ iR iR aT (pv 0) (kN T.g_MOST_ROWS)))))) (aI bP) bW)),?_⟩;refine⟨_,rfl,_,.int (m:Int),rfl,.int _,_,rfl,bU ?_⟩;refine⟨_,rfl,_,_,rfl,rfl,_,rfl,?_⟩;rw[decide_eq_true (show(0:Int)<=(m:Int)by omega)];refine cB ⟨_,_,rfl,rfl,_,rfl,?_⟩;rw[decide_eq_true (show(m:Int)<=30 by omega)];exact bU q
inductive a1x(vs:List V)(H:Hp)(Q:VK)(E:XK):Prop
 |mk (p m:Nat):vs= [.int (p:Int),.int (m:Int)] ->p<m->Q .non H->a1x vs H Q E
theorem a4p:bD ["place","places"] ["place","places"] (aS a1F):={}
theorem a9H(T:aX K mg):cT P w K mg af aN 2 "check_place" ["place","places"] a1x:=by
 refine T.d_check_place.known a4p (λ_ _ _ _ _ _ us hl=>dI (λ_ _=>rfl) us hl) (λf ah A ag s H vs Q E hr h=> ?_)
 ·obtain⟨p,m,rfl,hm,q⟩:=h
  refine⟨_,(aI (bO (PW.pt (fB (cU (cY (bI (lY T) hr.mn aL (aA (pv 0) aC)) (λ_=>rfl))) (fY (cU (sQ iR sB aT (pv 0) (pv 1)))))) (aI bP) bW)),?_⟩;refine⟨_,rfl,_,.int (p:Int),rfl,.int _,_,rfl,bU ?_⟩;refine⟨_,rfl,_,_,rfl,rfl,_,rfl,?_⟩;rw[decide_eq_true (show(0:Int)<=(p:Int)by omega)];refine cB ⟨_,rfl,_,_,rfl,rfl,_,rfl,?_⟩;rw[decide_eq_true (show(p:Int)<(m:Int)by omega)];exact bU q
theorem a6v:bD ["value"] ["value"] (aS a0Y):={}
inductive a0M(K:Fg)(vs:List V)(H:Hp)(Q:VK)(E:XK):Prop
 |mk (a:Addr) (xs:List V) (ds:List PyData):vs= [.ref a,.int (xs.length:Int)] ->aU K H a xs->iP K H xs ds->xs.length<=1000->(∀H',aB H H'->Q .non H')->a0M K vs H Q E
theorem a1W:bD ["values","many"] ["values","many"] (aS a01):={}
theorem a2Q(T:aX K mg):cT P w K mg af aN 4 "check_values" ["values","many"] (a0M K):=by
 refine T.d_check_values.known a1W (λ_ _ _ _ _ _ us hl=>dI (λ_ _=>rfl) us hl) (λf ah A ag s H vs Q E hr h=> ?_)
 ·obtain⟨a,xs,ds,rfl,hq,hp,l1000,q⟩:=h
  have hl:xs.length=ds.length:=Paired.length hp;refine⟨_,(aI (bO (PW.pt (fB (cU (cY (cM mB rfl T.isinstance fR (aA (pv 0) (aA (jR T.list jC) aC))) (λ_=>rfl))) (fB (cK xS (cM gU rfl T.len fS (aA (pv 0) aC)) (pv 1) (cN _)) (fY (cU (cY (cM (yJ rfl) rfl T.all a0p (aA (rD uY rfl rfl (by decide) (kB (pv 0)) (λ_ _ _ _ _=>oM) (λ_ _ _ _ _=>(bI (yR T) hr.mn aL (aA (pv 0) aC)))) aC)) (λ_=>rfl))))))) (aI bP) bW)),?_⟩;refine⟨_,rfl,_,"list",.list ds,_,rfl,.lst hq hp.dt,wO K _,_,rfl,bU ?_⟩;refine⟨_,rfl,_,_,rfl,.inl ⟨_,hq,rfl⟩,_,rfl,rfl,_,rfl,?_⟩;rw[decide_eq_true rfl];refine bU ⟨_,rfl,a,rfl,⟨_,hq⟩,λD hD=> ?_⟩;refine tW (K:=K) (a:=a) (xs:=xs) (λi ys H2=>ys=(List.replicate i (V.bl true))/\aB H H2) ⟨rfl,aB.new hD⟩ (λi ys H2 _ ⟨_,s2⟩=>s2.seq hq) ?_ ?_
  ·rintro i v ys H2 hv h2D ⟨rfl,s2⟩
   obtain⟨e,he,hde⟩:=hp.dt.get hv;have ve:=hp.vd e (List.mem_of_getElem? he);have hi:i<xs.length:=(List.getElem?_eq_some_iff.mp hv).1;refine⟨_,rfl,v,e,rfl,hde.same s2,ve.short.1,λH3 s3=>⟨s3 _ _ h2D,?_,?_,?_⟩⟩
   ·rw[List.length_replicate]
    exact fU (by omega)
   ·rw[ve.short.2,List.replicate_succ']
   ·exact(s2.trans s3).on hD
  ·rintro ys H2 h2D ⟨rfl,s2⟩
   refine⟨D,List.replicate xs.length true,rfl,aU.of (by rw[h2D,List.map_replicate]),_,rfl,?_⟩;rw[show (List.replicate xs.length true).all id=true by rw[List.all_eq_true];intro b hb;exact(List.mem_replicate.mp hb).2];exact bU (q _ s2)
inductive a2r(K:Fg)(C:Addr)(vs:List V)(H:Hp)(Q:VK)(E:XK):Prop
 |mk (p dx:Addr) (m:Nat):vs= [.ref p,.int (m:Int)] ->H p=some (.ins C dx [])->m<=30->(∀H' r e,hV C H' p r e (eM 0 m) (m:Int) [] ->H r=none->H e=none->r≠e->(∀b o,H b=some o->b≠p->H' b=some o)->Q .non H')->a2r K C vs H Q E
theorem a8g:bD ["self","many"] ["self","many"] (aS a1G):={}
theorem a6Q(T:aX K mg)(Y:dE K mg C):fX P w K mg af aN 3 C ["self","many"] (a2r K C):=by
 refine(Y.m_init.known a8g (λ_ _ _ _ _ _ us hl=>dI (λ_ _=>rfl) us hl) (λf ah A ag s H vs Q E hr h=> ?_)).init Y.mks Y.kc
 ·obtain⟨p,dx,m,rfl,hp,hm,q1⟩:=h
  refine⟨_,(aJ (bT (bI (a1v T) hr.mn aL (aA (pv 1) aC)))
   (aJ (cJ (pv 0) (jZ (a1o rfl) rfl T.list jC (aA (jZ a0R rfl T.range a25 (aA (pv 1) aC)) aC)) rfl)
   (aJ (cJ (pv 0) (cM gU rfl T.len fS (aA (bB (pv 0) rfl) aC)) rfl)
   (aI (cJ (pv 0) nH rfl))))),?_⟩
  refine⟨_,rfl,m,rfl,hm,?_⟩;refine⟨_,rfl,(m:Int),rfl,λg hg=>⟨g,0,(m:Int),rfl,aG,by omega,by omega,by omega,by omega,by omega,λr hr0=> ?_⟩⟩;have ngp:p≠g:=bE hp hg;have hgr:r≠g:=λz=>by rw[z,aG]at hr0;cases hr0
  have hr':H r=none:=by rw[aF hgr]at hr0;exact hr0
  have npr:p≠r:=bE hp hr';rw[Int.sub_zero,Int.toNat_natCast];refine⟨_,rfl,p,C,dx,[],rfl,(by rw[aF npr,aF ngp];exact hp),Y.cl,Y.n_row_numbers,(by show 0<1000;decide),?_⟩;refine⟨_,rfl,p,C,dx,_,_,rfl,aG,Y.cl,Y.n_row_numbers,rfl,_,_,rfl,.inl ⟨_,aU.of (by rw[aF npr.symm,aG]),rfl⟩,?_⟩;refine⟨_,rfl,p,C,dx,_,rfl,aG,Y.cl,Y.n_fresh_number,(by show 1<1000;decide),?_⟩;intro e he;have npe:p≠e:=λz=>by rw[<- z,aG]at he;cases he
  have nre:r≠e:=λz=>by rw[<- z,aF npr.symm,aF npr.symm,aG]at he;cases he
  have nge:g≠e:=λz=>by rw[<- z,aF ngp.symm,aF ngp.symm,aF hgr.symm,aG]at he;cases he
  have he':H e=none:=by rw[aF npe.symm,aF npe.symm,aF nre.symm,aF nge.symm]at he;exact he
  refine⟨_,rfl,p,C,dx,_,rfl,(by rw[aF npe];exact aG),Y.cl,Y.n_kept,(by show(aM "fresh_number" _ (aM "row_numbers" _ [])).length<1000;show(if("row_numbers":Str)= "fresh_number" then _ else _:List (Str×V)).length<1000;rw[if_neg (by decide+kernel)];show 2<1000;decide),?_⟩;refine q1 _ r e ⟨⟨dx,?_⟩,?_,?_⟩ hr' he' nre λb o hb hbp=> ?_
  ·rw[aG]
   refine congrArg (λl=>some (HO.ins C dx l)) ?_;have:=a7V r (eM 0 m).length e
   rw[xE]at this|-
   exact this
  ·rw[aF npr.symm,aF nre,aF npr.symm,aF npr.symm,aG]
  ·rw[aF npe.symm,aG]
  ·rw[aF hbp,aF (bE hb he'),aF hbp,aF hbp,aF (bE hb hr'),aF (bE hb hg)]
   exact hb
inductive a0P(C:Addr)(vs:List V)(H:Hp)(Q:VK)(E:XK):Prop
 |mk (p:_) (r:_) (d:_) (xs:_) (n:_) (kvs:_):vs= [.ref p] ->hV C H p r d xs n kvs->Q (.int xs.length) H->a0P C vs H Q E
theorem a7L:bD ["self"] ["self"] (aS a4a):={}
theorem gZ(T:aX K mg)(Y:dE K mg C):aQ P w K mg af aN 1 C "many" ["self"] (a0P C):=by
 refine Y.m_many.known a7L (λ_ _ _ _ _ _ us hl=>fG (λ_=>rfl) us hl) (λf ah A ag s H vs Q E hr h=> ?_)
 ·obtain⟨p,r,d,xs,n,kvs,rfl,⟨⟨dx,hp⟩,hr',hd⟩,q⟩:=h
  refine⟨_,(aI (cC (cM gU rfl T.len fS (aA (bB (pv 0) rfl) aC)))),?_⟩;exact⟨_,rfl,p,C,dx,_,_,rfl,hp,Y.cl,Y.n_row_numbers,a9x _ _ _,_,_,rfl,.inl ⟨_,aU.of hr',rfl⟩,q⟩
inductive a0Q(C:Addr)(vs:List V)(H:Hp)(Q:VK)(E:XK):Prop
 |mk (p:_) (r:_) (d:_) (xs:_) (n:_) (kvs:_) (t:_) (v:_):vs= [.ref p,.str t] ->hV C H p r d xs n kvs->Nl t->bC kvs (.inr t:aD)=some v->(∀H',aB H H'->Q .non H')->a0Q C vs H Q E
theorem a3Q:bD ["self","column"] ["self","column"] (aS a0G):={}
theorem a7b(T:aX K mg)(Y:dE K mg C):aQ P w K mg af aN 2 C "check_column" ["self","column"] (a0Q C):=by
 refine Y.m_check_column.known a3Q (λ_ _ _ _ _ _ us hl=>dI (λ_ _=>rfl) us hl) (λf ah A ag s H vs Q E hr h=> ?_)
 ·obtain⟨p,r,d,xs,n,kvs,t,v,rfl,TA,ht,hv,q⟩:=h
  refine⟨_,(aI (bO (PW.pt (fB (cU (cY (bI (iG T) hr.mn aL (aA (pv 1) aC)) (λ_=>rfl))) (fY (iY (mR (eN hr) (pv 1) (bB (pv 0) rfl)))))) (aI bP) bW)),?_⟩;have h8:=ht.2.1;refine⟨_,rfl,_,.str t,rfl,.str t,fD (by omega),λH' s'=>⟨_,rfl,?_⟩⟩;rw[show dZ (.str t)=true from ht.name];obtain⟨⟨dx,h1⟩,_,h3⟩:=TA.same s';refine bU ⟨_,rfl,_,rfl,p,C,dx,_,_,rfl,h1,Y.cl,Y.n_kept,lW _ _ _,d,_,rfl,cZ.k (k:=Sum.inr t) h3,_,rfl,?_⟩;rw[hv];exact bU (q _ s')
inductive spAt(C:Addr)(vs:List V)(H:Hp)(Q:VK)(E:XK):Prop
 |mk (p:_) (r:_) (d:_) (xs:_) (n:_) (kvs:_) (t:_) (l:_) (ys:_) (i:Nat) (v:V):vs= [.ref p,.str t,.int (i:Int)] ->hV C H p r d xs n kvs->Nl t->bC kvs (.inr t:aD)=some (.ref l)->H l=some (.lst ys)->i<xs.length->fE ys (i:Int)=some v->(∀H',aB H H'->Q v H')->spAt C vs H Q E
theorem a09:bD ["self","column","place"] ["self","column","place"] (aS a46):={}
theorem a9y(T:aX K mg)(Y:dE K mg C):aQ P w K mg af aN 3 C "at" ["self","column","place"] (spAt C):=by
 refine Y.m_at.known a09 (λ_ _ _ _ _ _ us hl=>eQ (λ_ _ _=>rfl) us hl) (λf ah A ag s H vs Q E hr h=> ?_)
 ·obtain⟨p,r,d,xs,n,kvs,t,l,ys,i,v,rfl,TA,ht,hv,hl,hi,ha,q⟩:=h
  refine⟨_,(aJ (bT (bF (pv 0) Y.cl (a7b T Y) hr.mn aL (aA (pv 1) aC)))
   (aJ (bT (bI (a9H T) hr.mn aL (aA (pv 2) (aA (fQ (pv 0) Y.cl (gZ T Y) hr.mn aL) aC))))
   (aI (cC (cE fM (lL (eN hr) (bB (pv 0) rfl) (pv 1) (λ_ _=>rfl)) (pv 2) (λ_ _=>rfl)))))),?_⟩
  obtain⟨⟨dx,h1⟩,h2,h3⟩:=id TA;refine⟨_,rfl,p,dx,_,rfl,h1,fF,_,rfl,p,r,d,xs,n,kvs,t,_,rfl,TA,ht,hv,λH1 s1=> ?_⟩;refine⟨_,rfl,_,rfl,p,dx,_,rfl,s1 _ _ h1,fF,p,r,d,xs,n,kvs,rfl,TA.same s1,i,xs.length,rfl,hi,?_⟩;exact⟨_,rfl,p,C,dx,_,_,rfl,s1 _ _ h1,Y.cl,Y.n_kept,lW _ _ _,_,rfl,d,.ref l,rfl,hv▸cZ.k (k:=Sum.inr t) (s1 _ _ h3),_,rfl,l,_,_,v,rfl,rfl,aU.of (s1 _ _ hl),ha,q _ s1⟩
theorem a7F:bD ["self","place"] ["self","place"] (aS a4f):={}
theorem b0W:bD ["self","column","place","value"] ["self","column","place","value"] (aS a4T):={}
inductive a2B(K:Fg)(C:Addr)(vs:List V)(H:Hp)(Q:VK)(E:XK):Prop
 |mk (p:_) (r:_) (d:_) (xs:_) (n:_) (kvs:_) (t:_) (a:_) (ys:_) (ds:_):vs= [.ref p,.str t,.ref a] ->hV C H p r d xs n kvs->Nl t->((bC kvs (.inr t:aD)).isSome=true\/ kvs.length<8)->kvs.length<=1000->aU K H a ys->iP K H ys ds->ys.length=xs.length->ys.length<=1000->(∀H' l,aB H H'->H' l=none->Q .non (upd (upd H' l (.lst ys)) d (.dK (bH kvs (.inr t:aD) (.ref l)))))->a2B K C vs H Q E
theorem b0G:bD ["self","column","values"] ["self","column","values"] (aS vT):={}
theorem a7i(T:aX K mg)(Y:dE K mg C):aQ P w K mg af aN 5 C "give" ["self","column","values"] (a2B K C):=by
 refine Y.m_give.known b0G (λ_ _ _ _ _ _ us hl=>eQ (λ_ _ _=>rfl) us hl) (λf ah A ag s H vs Q E hr h=> ?_)
 ·obtain⟨p,r,d,xs,n,kvs,t,a,ys,ds,rfl,TA,ht,hc,hk,hs,hp,hl,l1000,q⟩:=h
  have fI:∃t',dL (fV aN P w K mg af ["self","column","values"] "Table.give" (aS vT) f ah A ag s H E).nox ((dY vT).drop 2) t'/\
   ∀(H1:Hp),aB H H1->t' {nx:=λ_ H'=>Q .non H',rt:=Q} [some (.ref p),some (.str t),some (.ref a)] H1:=by
   refine⟨_,(aJ (bT (bI (a2Q T) hr.mn aL (aA (pv 2) (aA (fQ (pv 0) Y.cl (gZ T Y) hr.mn aL) aC))))
    (aI (mP (eN hr) (bB (pv 0) rfl) (pv 1) (jZ vA rfl T.list jC (aA (pv 2) aC)) rfl))),λH1 s1=> ?_⟩
   obtain⟨⟨dx,h1⟩,h2,h3⟩:=TA.same s1;refine⟨_,rfl,_,rfl,p,dx,_,rfl,h1,fF,p,r,d,xs,n,kvs,rfl,TA.same s1,a,ys,ds,(by rw[hl];rfl),s1.seq hs,hp.keep (kW.of s1),l1000,λH2 s2=> ?_⟩;have s12:=s1.trans s2;refine⟨_,rfl,a,ys,rfl,.inl (s12.seq hs),λl hl=> ?_⟩;have c1:aB H2 (upd H2 l (.lst ys)):=aB.new hl;refine⟨_,rfl,p,C,dx,_,_,rfl,c1 _ _ (s2 _ _ h1),Y.cl,Y.n_kept,lW _ _ _,_,rfl,d,_,rfl,kP.k (k:=Sum.inr t) (c1 _ _ (s2 _ _ h3)) (fU hk),?_⟩;exact q H2 l s12 hl
  obtain⟨t2,ht2,r2⟩:=fI
  refine⟨_,(aJ (bO (cU (cY (bI (iG T) hr.mn aL (aA (pv 1) aC)) (λ_=>rfl))) (aI bP) bW)
   (aJ (bO (PW.pt (oQ (iY (mR (eN hr) (pv 1) (bB (pv 0) rfl))) (pH (cK oK (cM wP rfl T.len fS (aA (bB (pv 0) rfl) aC)) (kN T.g_MOST_COLUMNS) (cN _))))) (aI bP) bW)
   ht2)),?_⟩
  have h8:=ht.2.1;refine⟨_,rfl,_,.str t,rfl,.str t,fD (by omega),λH1 s1=>⟨_,rfl,?_⟩⟩;rw[show dZ (.str t)=true from ht.name];obtain⟨⟨dx,h2⟩,_,h3⟩:=TA.same s1;refine bU ⟨_,rfl,_,rfl,p,C,dx,_,_,rfl,h2,Y.cl,Y.n_kept,lW _ _ _,d,_,rfl,cZ.k (k:=Sum.inr t) h3,_,rfl,?_⟩
  cases e:bC kvs (Sum.inr t:aD)with
  |some v=>exact bU (bU (r2 H1 s1))
  |none=>
   have hc':kvs.length<8:=by
    rcases hc with hc|hc
    ·rw[e]at hc;cases hc
    ·exact hc
   refine cB ⟨_,rfl,p,C,dx,_,_,rfl,h2,Y.cl,Y.n_kept,lW _ _ _,d,kvs,rfl,h3,_,_,rfl,rfl,_,rfl,?_⟩;rw[decide_eq_false (show¬(kvs.length:Int)>=8 by omega)];exact bU (r2 H1 s1)
end
theorem kG(s:aB H H')(h:H' a=none):H a=none:=by
 cases e:H a with
 |none=>rfl
 |some o=>rw[s _ _ e]at h;cases h
def bR(p:Addr)(H H':Hp):Prop:=∀b o,b≠p->H b=some o->H' b=some o
theorem bR.of(s:aB H H'):bR p H H':=λb o _ e=>s b o e
theorem bR.trans(a:bR p H H1)(b:bR p H1 H2):bR p H H2:=λc o n e=>b c o n (a c o n e)
theorem a03{D dy:Addr}{fs gs:List (Str×V)}(h:H p=some (.ins C dx fs))(g:H b=some (.ins D dy gs))(n:fs.length≠gs.length):p≠b:=λz=>by
 rw[z,g]at h;cases h;exact n rfl
structure BM where
 b:Addr
 g:Addr
 r:Addr
 e:Addr
 ru:Addr
 me:Addr
 od:Addr
 xs:List V
 n:Int
 kvs:List (aD×V)
 rus:List (aD×V)
 mes:List (aD×V)
 ord:List Str
variable{B:My.BM}
def mI(g ru me od:Addr):List (Str×V):=[("given",V.ref g),("rules",V.ref ru),("memory",V.ref me),("order",V.ref od)]
theorem dS(g ru me od:Addr):(mI g ru me od).lookup ("given":Str)=some (.ref g)/\(mI g ru me od).lookup ("rules":Str)=some (.ref ru)/\(mI g ru me od).lookup ("memory":Str)=some (.ref me)/\(mI g ru me od).lookup ("order":Str)=some (.ref od):=⟨rfl,rfl,rfl,rfl⟩
theorem mK{g ru me od:Addr}{m:Str}(h:(m==("given":Str)||m==("rules":Str)||m==("memory":Str)||m==("order":Str))=false:=by decide+kernel):(mI g ru me od).lookup m=none:=by
 simp only[Bool.or_eq_false_iff]at h;obtain⟨⟨⟨h1,h2⟩,h3⟩,h4⟩:=h;unfold mI;simp[List.lookup,h1,h2,h3,h4]
theorem a6m(g ru me od:Addr):aM "order" (.ref od) (aM "memory" (.ref me) (aM "rules" (.ref ru) (aM "given" (.ref g) [])))=mI g ru me od:=by
 rfl
structure dD(CB CT:Addr)(H:Hp)(B:BM):Prop where
 at_:∃dx,H B.b=some (.ins CB dx (mI B.g B.ru B.me B.od))
 tab:hV CT H B.g B.r B.e B.xs B.n B.kvs
 rul:H B.ru=some (.dK B.rus)
 mem:H B.me=some (.dK B.mes)
 ord:H B.od=some (.lst (B.ord.map V.str))
theorem dD.same(h:dD CB CT H B)(s:aB H H'):dD CB CT H' B:=
 ⟨let ⟨dx,e⟩:=h.at_;⟨dx,s _ _ e⟩,h.tab.same s,s _ _ h.rul,s _ _ h.mem,s _ _ h.ord⟩
structure BM.sep(B:BM):Prop where
 ro:B.r≠B.od
 eu:B.e≠B.ru
 em:B.e≠B.me
 um:B.ru≠B.me
section
inductive a3m(CB CT:Addr)(vs:List V)(H:Hp)(Q:VK)(E:XK):Prop
 |mk (p dx:Addr) (m:Nat):vs= [.ref p,.int (m:Int)] ->H p=some (.ins CB dx [])->m<=30->(∀H' g r e ru me od,dD CB CT H' ⟨p,g,r,e,ru,me,od,eM 0 m,(m:Int),[],[],[],[]⟩ ->BM.sep ⟨p,g,r,e,ru,me,od,eM 0 m,(m:Int),[],[],[],[]⟩ ->(∀x∈ [g,r,e,ru,me,od],H x=none)->(∀b o,H b=some o->b≠p->H' b=some o)->Q .non H')->a3m CB CT vs H Q E
theorem b0O:bD ["self","many"] ["self","many"] (aS a4v):={}
theorem a9k(T:aX K mg)(Y:cO K mg CB)(Z:dE K mg CT):fX P w K mg af aN 5 CB ["self","many"] (a3m CB CT):=by
 refine(Y.m_init.known b0O (λ_ _ _ _ _ _ us hl=>dI (λ_ _=>rfl) us hl) (λf ah A ag s H vs Q E hr h=> ?_)).init Y.mks Y.kc
 ·obtain⟨p,dx,m,rfl,hp,hm,q⟩:=h
  refine⟨_,(aJ (cJ (pv 0) (eX (a6Q T Z) hr Z.c aL (aA (pv 1) aC)) rfl)
   (aJ (cJ (pv 0) nH rfl)
   (aJ (cJ (pv 0) nH rfl)
   (aI (cJ (pv 0) (dQ aC) rfl))))),?_⟩
  refine⟨_,rfl,?_⟩;intro g dg hg hdg ne;refine⟨g,dg,m,rfl,aG,hm,λH1 r e TA hr1 he1 nre b1=>⟨rfl,?_⟩⟩;have s1:aB H H1:=λb o z=>b1 b o (by rw[aF (bE z hg),aF (bE z hdg)];exact z) (bE z hg)
  have npg:p≠g:=bE hp hg
  have hr0:H r=none:=by
   by_cases z:r=g
   ·rw[z];exact hg
   ·by_cases z2:r=dg
    ·rw[z2];exact hdg
    ·rw[aF z,aF z2]at hr1;exact hr1
  have he0:H e=none:=by
   by_cases z:e=g
   ·rw[z];exact hg
   ·by_cases z2:e=dg
    ·rw[z2];exact hdg
    ·rw[aF z,aF z2]at he1;exact he1
  obtain⟨⟨dt,ht⟩,hrr,hee⟩:=TA;refine⟨_,rfl,p,CB,dx,[],rfl,s1 _ _ hp,Y.cl,Y.n_given,(by show 0<1000;decide),?_⟩;have u2:∀b o,b≠p->H1 b=some o->upd H1 p (.ins CB dx (aM "given" (.ref g) [])) b=some o:=λb o n z=>by rw[aF n];exact z
  have p2:upd H1 p (.ins CB dx (aM "given" (.ref g) [])) p=some (.ins CB dx (aM "given" (.ref g) [])):=aG;have n2:∀b,upd H1 p (.ins CB dx (aM "given" (.ref g) [])) b=none->H1 b=none/\b≠p:=λb z=>by
   have:b≠p:=λy=>by rw[y,aG]at z;cases z
   rw[aF this]at z;exact⟨z,this⟩
  generalize upd H1 p (.ins CB dx (aM "given" (.ref g) []))=H2 at u2 p2 n2|-
  have b1':∀b,H1 b=none->H b=none:=λb z=>by
   cases e9:H b with
   |none=>rfl
   |some o=>rw[s1 _ _ e9]at z;cases z
  refine λru hru=> ?_
  have s3:=aB.new (o:=.dK []) hru;have h3:upd H2 ru (.dK []) ru=some (.dK []):=aG;have n3:∀b,upd H2 ru (.dK []) b=none->H2 b=none/\b≠ru:=λb z=>by
   have:b≠ru:=λy=>by rw[y,aG]at z;cases z
   rw[aF this]at z;exact⟨z,this⟩
  refine⟨_,rfl,p,CB,dx,_,rfl,s3 _ _ p2,Y.cl,Y.n_rules,(by show 1<1000;decide),?_⟩;have hru2:=n2 _ hru
  generalize upd H2 ru (.dK [])=H3 at s3 h3 n3|-
  have u4:∀b o,b≠p->H3 b=some o->upd H3 p (.ins CB dx (aM "rules" (.ref ru) (aM "given" (.ref g) []))) b=some o:=λb o n z=>by rw[aF n];exact z
  have p4:upd H3 p (.ins CB dx (aM "rules" (.ref ru) (aM "given" (.ref g) []))) p=some (.ins CB dx (aM "rules" (.ref ru) (aM "given" (.ref g) []))):=aG;have n4:∀b,upd H3 p (.ins CB dx (aM "rules" (.ref ru) (aM "given" (.ref g) []))) b=none->H3 b=none/\b≠p:=λb z=>by
   have:b≠p:=λy=>by rw[y,aG]at z;cases z
   rw[aF this]at z;exact⟨z,this⟩
  generalize upd H3 p (.ins CB dx (aM "rules" (.ref ru) (aM "given" (.ref g) [])))=H4 at u4 p4 n4|-
  refine λme hme=> ?_
  have s5:=aB.new (o:=.dK []) hme;have h5:upd H4 me (.dK []) me=some (.dK []):=aG;have n5:∀b,upd H4 me (.dK []) b=none->H4 b=none/\b≠me:=λb z=>by
   have:b≠me:=λy=>by rw[y,aG]at z;cases z
   rw[aF this]at z;exact⟨z,this⟩
  refine⟨_,rfl,p,CB,dx,_,rfl,s5 _ _ p4,Y.cl,Y.n_memory,(by show 2<1000;decide),?_⟩;have hme4:=n4 _ hme;have hme3:=n3 _ hme4.1;have hme2:=n2 _ hme3.1
  generalize upd H4 me (.dK [])=H5 at s5 h5 n5|-
  have u6:∀b o,b≠p->H5 b=some o->upd H5 p (.ins CB dx (aM "memory" (.ref me) (aM "rules" (.ref ru) (aM "given" (.ref g) [])))) b=some o:=λb o n z=>by rw[aF n];exact z
  have p6:upd H5 p (.ins CB dx (aM "memory" (.ref me) (aM "rules" (.ref ru) (aM "given" (.ref g) [])))) p=some (.ins CB dx (aM "memory" (.ref me) (aM "rules" (.ref ru) (aM "given" (.ref g) [])))):=aG;have n6:∀b,upd H5 p (.ins CB dx (aM "memory" (.ref me) (aM "rules" (.ref ru) (aM "given" (.ref g) [])))) b=none->H5 b=none/\b≠p:=λb z=>by
   have:b≠p:=λy=>by rw[y,aG]at z;cases z
   rw[aF this]at z;exact⟨z,this⟩
  generalize upd H5 p (.ins CB dx (aM "memory" (.ref me) (aM "rules" (.ref ru) (aM "given" (.ref g) []))))=H6 at u6 p6 n6|-
  refine⟨sl,λod hod=> ?_⟩;have s7:=aB.new (o:=.lst []) hod;have h7:upd H6 od (.lst []) od=some (.lst []):=aG;refine⟨_,rfl,p,CB,dx,_,rfl,s7 _ _ p6,Y.cl,Y.n_order,(by show 3<1000;decide),?_⟩;have hod6:=n6 _ hod;have hod5:=n5 _ hod6.1;have hod4:=n4 _ hod5.1;have hod3:=n3 _ hod4.1;have hod2:=n2 _ hod3.1
  generalize upd H6 od (.lst [])=H7 at s7 h7|-
  have up:∀b o,b≠p->H1 b=some o->upd H7 p (.ins CB dx (aM "order" (.ref od) (aM "memory" (.ref me) (aM "rules" (.ref ru) (aM "given" (.ref g) []))))) b=some o:=λb o n z=>by
   rw[aF n];exact s7 _ _ (u6 _ _ n (s5 _ _ (u4 _ _ n (s3 _ _ (u2 _ _ n z)))))
  have p9:upd H7 p (.ins CB dx (aM "order" (.ref od) (aM "memory" (.ref me) (aM "rules" (.ref ru) (aM "given" (.ref g) []))))) p=some (.ins CB dx (mI g ru me od)):=by rw[aG,a6m]
  have npr:r≠p:=λz=>by rw[z,hp]at hr0;cases hr0
  have npe:e≠p:=λz=>by rw[z,hp]at he0;cases he0
  have o7:upd H7 p (.ins CB dx (aM "order" (.ref od) (aM "memory" (.ref me) (aM "rules" (.ref ru) (aM "given" (.ref g) []))))) od=some (.lst []):=by rw[aF hod6.2];exact h7
  have m7:upd H7 p (.ins CB dx (aM "order" (.ref od) (aM "memory" (.ref me) (aM "rules" (.ref ru) (aM "given" (.ref g) []))))) me=some (.dK []):=by
   rw[aF hme4.2];exact s7 _ _ (u6 _ _ hme4.2 h5)
  have r7:upd H7 p (.ins CB dx (aM "order" (.ref od) (aM "memory" (.ref me) (aM "rules" (.ref ru) (aM "given" (.ref g) []))))) ru=some (.dK []):=by
   rw[aF hru2.2];exact s7 _ _ (u6 _ _ hru2.2 (s5 _ _ (u4 _ _ hru2.2 h3)))
  generalize upd H7 p (.ins CB dx (aM "order" (.ref od) (aM "memory" (.ref me) (aM "rules" (.ref ru) (aM "given" (.ref g) [])))))=H9 at up p9 o7 m7 r7|-
  refine q H9 g r e ru me od ⟨⟨dx,p9⟩,⟨⟨dt,up _ _ npg.symm ht⟩,up _ _ npr hrr,up _ _ npe hee⟩,r7,m7,o7⟩ ⟨?_,?_,?_,?_⟩ ?_ λb o z n=>up _ _ n (s1 _ _ z)
  ·exact bE hrr hod2.1
  ·exact bE hee hru2.1
  ·exact bE hee hme2.1
  ·exact λz=>hme3.2 z.symm
  ·intro x hx
   simp only[List.mem_cons,List.not_mem_nil,or_false]at hx
   rcases hx with rfl|rfl|rfl|rfl|rfl|rfl
   ·exact hg
   ·exact hr0
   ·exact he0
   ·exact b1' _ hru2.1
   ·exact b1' _ hme2.1
   ·exact b1' _ hod2.1
inductive sE(CB CT:Addr)(vs:List V)(H:Hp)(Q:VK)(E:XK):Prop
 |mk (B:BM) (t:Str):vs= [.ref B.b,.str t] ->dD CB CT H B->Nl t->(∀H',aB H H'->Q (.bl (decide (t∈B.ord))) H')->sE CB CT vs H Q E
theorem a1b:bD ["self","column"] ["self","column"] (aS a3w):={}
theorem zS(T:aX K mg)(Y:cO K mg CB):aQ P w K mg af aN 2 CB "has_column" ["self","column"] (sE CB CT):=by
 refine Y.m_has_column.known a1b (λ_ _ _ _ _ _ us hl=>dI (λ_ _=>rfl) us hl) (λf ah A ag s H vs Q E hr h=> ?_)
 ·obtain⟨B,t,rfl,hB,ht,q⟩:=h
  refine⟨_,(aI (cC (lM (bI (iG T) hr.mn aL (aA (pv 1) aC)) (lE (lP wT (pv 1) (bB (pv 0) rfl) (by with_unfolding_all rfl)))))),?_⟩;have h8:=ht.2.1;refine⟨_,rfl,_,.str t,rfl,.str t,fD (by omega),λH' s'=>⟨_,rfl,?_⟩⟩;rw[show dZ (.str t)=true from ht.name];obtain⟨⟨dx,h1⟩,_,_,_,h5⟩:=hB.same s';refine cB ⟨_,rfl,_,rfl,B.b,CB,dx,_,_,rfl,h1,Y.cl,Y.n_order,(dS _ _ _ _).2.2.2,B.od,_,rfl,.inl (aU.of h5),rfl,jW _,?_⟩;rw[show (if false=true then !eJ (.str t) (B.ord.map V.str) else eJ (.str t) (B.ord.map V.str))=decide (t∈B.ord)by rw[if_neg Bool.false_ne_true,mE]];exact q _ s'
def oS(B:BM)(t:Str):Prop:=bC B.rus (.inr t:aD)=none/\t∉B.ord
inductive qQ(CB CT:Addr)(vs:List V)(H:Hp)(Q:VK)(E:XK):Prop
 |mk (B:BM) (t:Str):vs= [.ref B.b,.str t] ->dD CB CT H B->oS B t->Q .non H->qQ CB CT vs H Q E
theorem a9B:bD ["self","column"] ["self","column"] (aS a2U):={}
theorem a6b(T:aX K mg)(Y:cO K mg CB):aQ P w K mg af aN 2 CB "content" ["self","column"] (qQ CB CT):=by
 refine Y.m_content.known a9B (λ_ _ _ _ _ _ us hl=>dI (λ_ _=>rfl) us hl) (λf ah A ag s H vs Q E hr h=> ?_)
 ·obtain⟨B,t,rfl,hB,⟨n1,n2⟩,q⟩:=h
  refine⟨_,(aJ (bO (iY (kE (eN hr) (pv 1) (bB (pv 0) rfl))) (aI bP) bW)
   (aJ (bO (cK wT (pv 1) (bB (pv 0) rfl) (by with_unfolding_all rfl)) (aI bP) bW)
   (aI (cC iD)))),?_⟩
  obtain⟨⟨dx,h1⟩,_,h3,_,h5⟩:=id hB;refine⟨_,rfl,_,rfl,B.b,CB,dx,_,_,rfl,h1,Y.cl,Y.n_rules,(dS _ _ _ _).2.1,B.ru,_,rfl,cZ.k (k:=Sum.inr t) h3,_,rfl,?_⟩;rw[n1];refine bU ⟨_,rfl,_,rfl,B.b,CB,dx,_,_,rfl,h1,Y.cl,Y.n_order,(dS _ _ _ _).2.2.2,B.od,_,rfl,.inl (aU.of h5),rfl,jW _,_,rfl,?_⟩;rw[show (if false=true then !eJ (.str t) (B.ord.map V.str) else eJ (.str t) (B.ord.map V.str))=false by rw[if_neg Bool.false_ne_true,mE,decide_eq_false n2]];exact bU q
theorem a8V:bD ["self","column"] ["self","column"] (aS a2M):={}
theorem a2C(T:aX K mg)(Y:cO K mg CB):aQ P w K mg af aN 2 CB "empty_column" ["self","column"] (qQ CB CT):=by
 refine Y.m_empty_column.known a8V (λ_ _ _ _ _ _ us hl=>dI (λ_ _=>rfl) us hl) (λf ah A ag s H vs Q E hr h=> ?_)
 ·obtain⟨B,t,rfl,hB,⟨n1,n2⟩,q⟩:=h
  refine⟨_,(aI (bO (iY (kE (eN hr) (pv 1) (bB (pv 0) rfl))) (aJ bP (aI bP)) (aI (bO (cK wT (pv 1) (bB (pv 0) rfl) (by with_unfolding_all rfl)) (aI bP) bW)))),?_⟩;obtain⟨⟨dx,h1⟩,_,h3,_,h5⟩:=id hB;refine⟨_,rfl,_,rfl,B.b,CB,dx,_,_,rfl,h1,Y.cl,Y.n_rules,(dS _ _ _ _).2.1,B.ru,_,rfl,cZ.k (k:=Sum.inr t) h3,_,rfl,?_⟩;rw[n1];refine bU ⟨_,rfl,_,rfl,B.b,CB,dx,_,_,rfl,h1,Y.cl,Y.n_order,(dS _ _ _ _).2.2.2,B.od,_,rfl,.inl (aU.of h5),rfl,jW _,_,rfl,?_⟩;rw[show (if false=true then !eJ (.str t) (B.ord.map V.str) else eJ (.str t) (B.ord.map V.str))=false by rw[if_neg Bool.false_ne_true,mE,decide_eq_false n2]];exact bU q
inductive xC(K:Fg)(CB CT:Addr)(vs:List V)(H:Hp)(Q:VK)(E:XK):Prop
 |mk (B:BM) (t:Str) (a:Addr) (ys:List V) (ds:List PyData):vs= [.ref B.b,.str t,.ref a] ->dD CB CT H B->B.sep->oS B t->Nl t->H a=some (.lst ys)->a≠B.od->iP K H ys ds->ys.length=B.xs.length->ys.length<=30->B.kvs.length<8->B.ord.length<100->(∀H' l,H l=none->dD CB CT H' {B with kvs:=bH B.kvs (.inr t:aD) (.ref l),ord:=B.ord++ [t]} ->H' l=some (.lst ys)->(∀b o,b≠B.od->b≠B.e->H b=some o->H' b=some o)->Q .non H')->xC K CB CT vs H Q E
theorem a1g:bD ["self","column","content"] ["self","column","content"] (aS a3s):={}
theorem b0r(T:aX K mg)(Y:cO K mg CB)(Z:dE K mg CT):aQ P w K mg af aN 6 CB "set_column" ["self","column","content"] (xC K CB CT):=by
 have G_empty:aQ P w K mg af aN 2 CB "empty_column" ["self","column"] (qQ CB CT):=a2C T Y;refine Y.m_set_column.known a1g (λ_ _ _ _ _ _ us hl=>eQ (λ_ _ _=>rfl) us hl) (λf ah A ag s H vs Q E hr h=> ?_)
 ·obtain⟨B,t,a,ys,ds,rfl,hB,sp,⟨n1,n2⟩,ht,ha,nao,hp,hl,l30,k8,o100,q⟩:=h
  refine⟨_,(aJ (bT (bF (pv 0) Y.cl G_empty hr.mn aL (aA (pv 1) aC)))
   (aJ (bO (cK a0i (pv 2) iD (cN _)) (aJ bP (aI bP)) bW)
   (aJ (bO (cK qA (pv 1) (bB (pv 0) rfl) (by with_unfolding_all rfl)) (aI (bT (jS F.plainAttrs_list F.slot_list_append F.type_list_append jJ (bB (pv 0) rfl) (aA (pv 1) aC)))) bW)
   (aI (bO (cY (cM a29 rfl T.isinstance fR (aA (pv 2) (aA (jR T.list jC) aC))) (λ_=>rfl)) (aI (bT (bF (bB (pv 0) rfl) Z.cl (a7i T Z) hr.mn aL (aA (pv 1) (aA (pv 2) aC))))) (aJ bP (aI bP))))))),?_⟩
  obtain⟨⟨dx,h1⟩,tb,h3,h4,h5⟩:=id hB;refine⟨_,rfl,B.b,dx,_,rfl,h1,mK,_,rfl,B,t,rfl,hB,⟨n1,n2⟩,?_⟩;refine⟨_,rfl,rfl,_,rfl,?_⟩;rw[decide_eq_false (show¬V.ref a=V.non from λz=>by cases z)];refine bU ⟨_,rfl,_,rfl,B.b,CB,dx,_,_,rfl,h1,Y.cl,Y.n_order,(dS _ _ _ _).2.2.2,B.od,_,rfl,.inl (aU.of h5),rfl,jW _,_,rfl,?_⟩;rw[show (if true=true then !eJ (.str t) (B.ord.map V.str) else eJ (.str t) (B.ord.map V.str))=true by rw[if_pos rfl,mE,decide_eq_false n2];rfl];refine cB ⟨_,rfl,B.b,CB,dx,_,_,rfl,h1,Y.cl,Y.n_order,(dS _ _ _ _).2.2.2,.inl ⟨rfl,_,aU.of h5⟩,_,rfl,B.od,_,_,rfl,rfl,h5,fU (by rw[List.length_map];omega),?_⟩;have u6:∀b o,b≠B.od->H b=some o->upd H B.od (.lst (B.ord.map V.str++ [.str t])) b=some o:=λb o n z=>by rw[aF n];exact z
  have o6:upd H B.od (.lst (B.ord.map V.str++ [.str t])) B.od=some (.lst ((B.ord++ [t]).map V.str)):=by rw[aG,List.map_append];rfl
  have kt:kW H (upd H B.od (.lst (B.ord.map V.str++ [.str t]))):=kW.upd h5 (λxs z=>by cases z);have n6:∀b,upd H B.od (.lst (B.ord.map V.str++ [.str t])) b=none->H b=none:=λb z=>by
   have:b≠B.od:=λy=>by rw[y,aG]at z;cases z
   rw[aF this]at z;exact z
  generalize upd H B.od (.lst (B.ord.map V.str++ [.str t]))=H6 at u6 o6 kt n6|-
  have a6:=u6 _ _ nao ha;have b6:=u6 _ _ (λz=>by rw[z,h5]at h1;cases h1) h1;obtain⟨⟨dt,t1⟩,t2,t3⟩:=id tb;have g6:=u6 _ _ (λz=>by rw[z,h5]at t1;cases t1) t1;have e6:=u6 _ _ (λz=>by rw[z,h5]at t3;cases t3) t3;have tb6:hV CT H6 B.g B.r B.e B.xs B.n B.kvs:=⟨⟨dt,g6⟩,u6 _ _ sp.ro t2,e6⟩;refine⟨_,rfl,_,"list",.type "list",_,rfl,.lst a6,wO K .lst,_,rfl,cB ?_⟩;refine⟨_,rfl,B.b,CB,dx,_,_,rfl,b6,Y.cl,Y.n_given,(dS _ _ _ _).1,B.g,dt,_,rfl,g6,fF,_,rfl,_,rfl,B.g,B.r,B.e,B.xs,B.n,B.kvs,t,a,ys,ds,rfl,tb6,ht,.inr k8,by omega,aU.of a6,hp.keep kt,hl,by omega,λH7 l s7 hl7=> ?_⟩;have u9:∀b o,b≠B.e->H7 b=some o->upd (upd H7 l (.lst ys)) B.e (.dK (bH B.kvs (.inr t:aD) (.ref l))) b=some o:=λb o n z=>by
   rw[aF n,aF (bE z hl7)];exact z
  have nle:l≠B.e:=λz=>by rw[z,s7 _ _ e6]at hl7;cases hl7
  have e9:upd (upd H7 l (.lst ys)) B.e (.dK (bH B.kvs (.inr t:aD) (.ref l))) B.e=some (.dK (bH B.kvs (.inr t:aD) (.ref l))):=aG
  have l9:upd (upd H7 l (.lst ys)) B.e (.dK (bH B.kvs (.inr t:aD) (.ref l))) l=some (.lst ys):=by rw[aF nle,aG]
  generalize upd (upd H7 l (.lst ys)) B.e (.dK (bH B.kvs (.inr t:aD) (.ref l)))=H9 at u9 e9 l9|-
  have up:∀b o,b≠B.od->b≠B.e->H b=some o->H9 b=some o:=λb o n1 n2 z=>u9 _ _ n2 (s7 _ _ (u6 _ _ n1 z))
  have ne_:∀{b:Addr} {o:HO},H6 b=some o->(∀kvs,o≠ .dK kvs)->b≠B.e:=λz n y=>by rw[y,e6]at z;exact n _ (Option.some.inj z).symm
  refine q H9 l (n6 _ (kG s7 hl7)) ⟨⟨dx,u9 _ _ (ne_ b6 (λkvs z=>by cases z)) (s7 _ _ b6)⟩,⟨⟨dt,u9 _ _ (ne_ g6 (λkvs z=>by cases z)) (s7 _ _ g6)⟩,?_,e9⟩,?_,?_,?_⟩ l9 up
  ·exact up _ _ sp.ro (λz=>by rw[z,t3]at t2;cases t2) t2
  ·exact up _ _ (λz=>by rw[z,h5]at h3;cases h3) sp.eu.symm h3
  ·exact up _ _ (λz=>by rw[z,h5]at h4;cases h4) sp.em.symm h4
  ·exact u9 _ _ (ne_ o6 (λkvs z=>by cases z)) (s7 _ _ o6)
inductive wF(K:Fg)(CB CT:Addr)(vs:List V)(H:Hp)(Q:VK)(E:XK):Prop
 |mk (B:BM) (t:Str) (a C dx:Addr) (fs:List (Str×V)):vs= [.ref B.b,.str t,.ref a] ->dD CB CT H B->B.sep->oS B t->H a=some (.ins C dx fs)->hZ K H (.ref a) (.ref C)->W.kitOne K (.ref C) (.type "list")=some false->B.rus.length<100->B.mes.length<100->B.ord.length<100->(∀H' m,H m=none->dD CB CT H' {B with rus:=bH B.rus (.inr t:aD) (.ref a),mes:=bH B.mes (.inr t:aD) (.ref m),ord:=B.ord++ [t]} ->H' m=some (.dK [])->(∀b o,b≠B.od->b≠B.ru->b≠B.me->H b=some o->H' b=some o)->Q .non H')->wF K CB CT vs H Q E
theorem a7G(T:aX K mg)(Y:cO K mg CB):aQ P w K mg af aN 6 CB "set_column" ["self","column","content"] (wF K CB CT):=by
 have G_empty:aQ P w K mg af aN 2 CB "empty_column" ["self","column"] (qQ CB CT):=a2C T Y;refine Y.m_set_column.known a1g (λ_ _ _ _ _ _ us hl=>eQ (λ_ _ _=>rfl) us hl) (λf ah A ag s H vs Q E hr h=> ?_)
 ·obtain⟨B,t,a,C,dc,fs,rfl,hB,sp,⟨n1,n2⟩,ha,hty,hk,r100,m100,o100,q⟩:=h
  refine⟨_,(aJ (bT (bF (pv 0) Y.cl G_empty hr.mn aL (aA (pv 1) aC)))
   (aJ (bO (cK a0i (pv 2) iD (cN _)) (aJ bP (aI bP)) bW)
   (aJ (bO (cK qA (pv 1) (bB (pv 0) rfl) (by with_unfolding_all rfl)) (aI (bT (jS F.plainAttrs_list F.slot_list_append F.type_list_append jJ (bB (pv 0) rfl) (aA (pv 1) aC)))) bW)
   (aI (bO (cY (cM a29 rfl T.isinstance fR (aA (pv 2) (aA (jR T.list jC) aC))) (λ_=>rfl)) (aI bP) (aJ (mP (eN hr) (bB (pv 0) rfl) (pv 1) (pv 2) rfl) (aI (mP (eN hr) (bB (pv 0) rfl) (pv 1) nH rfl)))))))),?_⟩
  obtain⟨⟨dx,h1⟩,tb,h3,h4,h5⟩:=id hB;refine⟨_,rfl,B.b,dx,_,rfl,h1,mK,_,rfl,B,t,rfl,hB,⟨n1,n2⟩,?_⟩;refine⟨_,rfl,rfl,_,rfl,?_⟩;rw[decide_eq_false (show¬V.ref a=V.non from λz=>by cases z)];refine bU ⟨_,rfl,_,rfl,B.b,CB,dx,_,_,rfl,h1,Y.cl,Y.n_order,(dS _ _ _ _).2.2.2,B.od,_,rfl,.inl (aU.of h5),rfl,jW _,_,rfl,?_⟩;rw[show (if true=true then !eJ (.str t) (B.ord.map V.str) else eJ (.str t) (B.ord.map V.str))=true by rw[if_pos rfl,mE,decide_eq_false n2];rfl];refine cB ⟨_,rfl,B.b,CB,dx,_,_,rfl,h1,Y.cl,Y.n_order,(dS _ _ _ _).2.2.2,.inl ⟨rfl,_,aU.of h5⟩,_,rfl,B.od,_,_,rfl,rfl,h5,fU (by rw[List.length_map];omega),?_⟩;have u6:∀b o,b≠B.od->H b=some o->upd H B.od (.lst (B.ord.map V.str++ [.str t])) b=some o:=λb o n z=>by rw[aF n];exact z
  have o6:upd H B.od (.lst (B.ord.map V.str++ [.str t])) B.od=some (.lst ((B.ord++ [t]).map V.str)):=by rw[aG,List.map_append];rfl
  have n6:∀b,upd H B.od (.lst (B.ord.map V.str++ [.str t])) b=none->H b=none/\b≠B.od:=λb z=>by
   have:b≠B.od:=λy=>by rw[y,aG]at z;cases z
   rw[aF this]at z;exact⟨z,this⟩
  generalize upd H B.od (.lst (B.ord.map V.str++ [.str t]))=H6 at u6 o6 n6|-
  have nl5:∀{b:Addr} {o:HO},H b=some o->(∀xs,o≠ .lst xs)->b≠B.od:=λz n y=>by rw[y,h5]at z;exact n _ (Option.some.inj z).symm
  have a6:=u6 _ _ (nl5 ha (λxs z=>by cases z)) ha;have b6:=u6 _ _ (nl5 h1 (λxs z=>by cases z)) h1;have r6:=u6 _ _ (nl5 h3 (λxs z=>by cases z)) h3;have m6:=u6 _ _ (nl5 h4 (λxs z=>by cases z)) h4
  have ty6:hZ K H6 (.ref a) (.ref C):=by
   cases hty with
   |ins e1 e2 e3 e4 e5 e6=>exact .ins (u6 _ _ (nl5 e1 (λxs z=>by cases z)) e1) e2 e3 e4 e5 e6
  refine⟨_,rfl,_,"list",.ref C,_,rfl,ty6,hk,_,rfl,bU ?_⟩;refine⟨_,rfl,_,rfl,B.b,CB,dx,_,_,rfl,b6,Y.cl,Y.n_rules,(dS _ _ _ _).2.1,_,rfl,B.ru,_,rfl,kP.k (k:=Sum.inr t) r6 (fU (by omega)),?_⟩;have u7:∀b o,b≠B.ru->H6 b=some o->upd H6 B.ru (.dK (bH B.rus (.inr t:aD) (.ref a))) b=some o:=λb o n z=>by rw[aF n];exact z
  have r7:upd H6 B.ru (.dK (bH B.rus (.inr t:aD) (.ref a))) B.ru=some (.dK (bH B.rus (.inr t:aD) (.ref a))):=aG;have n7:∀b,upd H6 B.ru (.dK (bH B.rus (.inr t:aD) (.ref a))) b=none->H6 b=none:=λb z=>by
   have:b≠B.ru:=λy=>by rw[y,aG]at z;cases z
   rw[aF this]at z;exact z
  generalize upd H6 B.ru (.dK (bH B.rus (.inr t:aD) (.ref a)))=H7 at u7 r7 n7|-
  have b7:=u7 _ _ (λz=>by rw[z,r6]at b6;cases b6) b6;have m7:=u7 _ _ sp.um.symm m6;refine λm hm=> ?_
  have s8:=aB.new (o:=.dK []) hm;refine⟨_,rfl,B.b,CB,dx,_,_,rfl,s8 _ _ b7,Y.cl,Y.n_memory,(dS _ _ _ _).2.2.1,_,rfl,B.me,_,rfl,kP.k (k:=Sum.inr t) (s8 _ _ m7) (fU (by omega)),?_⟩;have nmm:m≠B.me:=λz=>by rw[z,m7]at hm;cases hm
  have u9:∀b o,b≠B.me->H7 b=some o->upd (upd H7 m (.dK [])) B.me (.dK (bH B.mes (.inr t:aD) (.ref m))) b=some o:=λb o n z=>by
   rw[aF n];exact s8 _ _ z
  have e9:upd (upd H7 m (.dK [])) B.me (.dK (bH B.mes (.inr t:aD) (.ref m))) B.me=some (.dK (bH B.mes (.inr t:aD) (.ref m))):=aG
  have d9:upd (upd H7 m (.dK [])) B.me (.dK (bH B.mes (.inr t:aD) (.ref m))) m=some (.dK []):=by rw[aF nmm,aG]
  generalize upd (upd H7 m (.dK [])) B.me (.dK (bH B.mes (.inr t:aD) (.ref m)))=H9 at u9 e9 d9|-
  have up:∀b o,b≠B.od->b≠B.ru->b≠B.me->H b=some o->H9 b=some o:=λb o n1 n2 n3 z=>u9 _ _ n3 (u7 _ _ n2 (u6 _ _ n1 z))
  obtain⟨⟨dt,t1⟩,t2,t3⟩:=id tb;have nd3:∀{b:Addr} {o:HO},H b=some o->(∀kvs,o≠ .dK kvs)->b≠B.ru/\b≠B.me:=λz n=>⟨λy=>by rw[y,h3]at z;exact n _ (Option.some.inj z).symm,λy=>by rw[y,h4]at z;exact n _ (Option.some.inj z).symm⟩
  have i1:=nd3 h1 (λkvs z=>by cases z);have i2:=nd3 t1 (λkvs z=>by cases z);have i3:=nd3 t2 (λkvs z=>by cases z);have i5:=nd3 h5 (λkvs z=>by cases z);refine q H9 m (n6 _ (n7 _ hm)).1 ⟨⟨dx,up _ _ (nl5 h1 (λxs z=>by cases z)) i1.1 i1.2 h1⟩,⟨⟨dt,up _ _ (nl5 t1 (λxs z=>by cases z)) i2.1 i2.2 t1⟩,up _ _ sp.ro i3.1 i3.2 t2,up _ _ (nl5 t3 (λxs z=>by cases z)) sp.eu sp.em t3⟩,?_,e9,?_⟩ d9 up
  ·exact u9 _ _ sp.um r7
  ·exact u9 _ _ i5.2 (u7 _ _ i5.1 o6)
end
noncomputable def qV (bd:Addr) (nm:Str) (m:Nat):List (Str×V):=[("boards",V.ref bd),("name",V.str nm),("size",V.int (m:Int))]
theorem uP(bd:Addr)(nm:Str)(m:Nat):(qV bd nm m).lookup ("boards":Str)=some (.ref bd)/\(qV bd nm m).lookup ("name":Str)=some (.str nm)/\(qV bd nm m).lookup ("size":Str)=some (.int (m:Int))/\(qV bd nm m).lookup ("take":Str)=none:=⟨rfl,rfl,rfl,rfl⟩
noncomputable def mZ (b:Addr) (t:Str) (a:Addr):List (Str×V):=[("board",V.ref b),("column",V.str t),("after",V.ref a),("before",V.non)]
theorem a0C(b:Addr)(t:Str)(a:Addr):(mZ b t a).lookup ("board":Str)=some (.ref b)/\(mZ b t a).lookup ("column":Str)=some (.str t)/\(mZ b t a).lookup ("after":Str)=some (.ref a)/\(mZ b t a).lookup ("take":Str)=none/\aM "before" .non (mZ b t a)=mZ b t a:=⟨rfl,rfl,rfl,rfl,rfl⟩
section
inductive a3j(C:Addr)(vs:List V)(H:Hp)(Q:VK)(E:XK):Prop
 |mk (p dx bd:Addr) (nm:Str) (m:Nat):vs= [.ref p,.ref bd,.str nm,.int (m:Int)] ->H p=some (.ins C dx [])->(∀H',bR p H H'->H' p=some (.ins C dx (qV bd nm m))->Q .non H')->a3j C vs H Q E
theorem a6M:bD ["self","boards","name","size"] ["self","boards","name","size"] (aS a2i):={}
theorem a8x(T:aX K mg)(Y:sC K mg C):fX P w K mg af aN 1 C ["self","boards","name","size"] (a3j C):=by
 refine(Y.m_init.known a6M (λ_ _ _ _ _ _ us hl=>iH (λ_ _ _ _=>rfl) us hl) (λf ah A ag s H vs Q E hr h=> ?_)).init Y.mks Y.kc
 ·obtain⟨p,dx,bd,nm,m,rfl,hp,q⟩:=h
  refine⟨_,(aJ (cJ (pv 0) (pv 1) rfl) (aJ (cJ (pv 0) (pv 2) rfl) (aI (cJ (pv 0) (pv 3) rfl)))),?_⟩;refine⟨_,rfl,_,rfl,p,C,dx,[],rfl,hp,Y.cl,Y.n_boards,(by show 0<1000;decide),?_⟩;refine⟨_,rfl,_,rfl,p,C,dx,_,rfl,aG,Y.cl,Y.n_name,(by show 1<1000;decide),?_⟩;refine⟨_,rfl,_,rfl,p,C,dx,_,rfl,aG,Y.cl,Y.n_size,(by show 2<1000;decide),?_⟩;exact q _ (λb o n z=>by rw[aF n,aF n,aF n];exact z) aG
inductive a3V(C:Addr)(vs:List V)(H:Hp)(Q:VK)(E:XK):Prop
 |mk (p dx b a:Addr) (t:Str):vs= [.ref p,.ref b,.str t,.ref a] ->H p=some (.ins C dx [])->(∀H',bR p H H'->H' p=some (.ins C dx (mZ b t a))->Q .non H')->a3V C vs H Q E
theorem a6r:bD ["self","board","column","content"] ["self","board","column","content"] (aS a2X):={}
theorem a4M(T:aX K mg)(Y:qO K mg C):fX P w K mg af aN 1 C ["self","board","column","content"] (a3V C):=by
 refine(Y.m_init.known a6r (λ_ _ _ _ _ _ us hl=>iH (λ_ _ _ _=>rfl) us hl) (λf ah A ag s H vs Q E hr h=> ?_)).init Y.mks Y.kc
 ·obtain⟨p,dx,b,a,t,rfl,hp,q⟩:=h
  refine⟨_,(aJ (cJ (pv 0) (pv 1) rfl) (aJ (cJ (pv 0) (pv 2) rfl) (aJ (cJ (pv 0) (pv 3) rfl) (aI (cJ (pv 0) iD rfl))))),?_⟩;refine⟨_,rfl,_,rfl,p,C,dx,[],rfl,hp,Y.cl,Y.n_board,(by show 0<1000;decide),?_⟩;refine⟨_,rfl,_,rfl,p,C,dx,_,rfl,aG,Y.cl,Y.n_column,(by show 1<1000;decide),?_⟩;refine⟨_,rfl,_,rfl,p,C,dx,_,rfl,aG,Y.cl,Y.n_after,(by show 2<1000;decide),?_⟩;refine⟨_,rfl,p,C,dx,_,rfl,aG,Y.cl,Y.n_before,(by show 3<1000;decide),?_⟩;exact q _ (λb o n z=>by rw[aF n,aF n,aF n,aF n];exact z) aG
theorem a6y:bD ["self","board","column","place","value"] ["self","board","column","place","value"] (aS a05):={}
inductive spTT(C CB CT:Addr)(vs:List V)(H:Hp)(Q:VK)(E:XK):Prop
 |mk (p dx bd:Addr) (nm:Str) (m:Nat) (kb:List (aD×V)):vs= [.ref p] ->H p=some (.ins C dx (qV bd nm m))->H bd=some (.dK kb)->kb.length<100->m<=30->(∀H' b g r e ru me od,dD CB CT H' ⟨b,g,r,e,ru,me,od,eM 0 m,(m:Int),[],[],[],[]⟩ ->BM.sep ⟨b,g,r,e,ru,me,od,eM 0 m,(m:Int),[],[],[],[]⟩ ->(∀x∈ [b,g,r,e,ru,me,od],H x=none)->H' bd=some (.dK (bH kb (.inr nm:aD) (.ref b)))->(∀x o,x≠bd->H x=some o->H' x=some o)->Q .non H')->spTT C CB CT vs H Q E
theorem a5T:bD ["self"] ["self"] (aS a2N):={}
theorem a9N(T:aX K mg)(Y:sC K mg C)(W:cO K mg CB)(Z:dE K mg CT):aQ P w K mg af aN 7 C "take" ["self"] (spTT C CB CT):=by
 refine Y.m_take.known a5T (λ_ _ _ _ _ _ us hl=>fG (λ_=>rfl) us hl) (λf ah A ag s H vs Q E hr h=> ?_)
 ·obtain⟨p,dx,bd,nm,m,kb,rfl,hp,hb,kl,hm,q⟩:=h
  refine⟨_,(aI (mP (eN hr) (bB (pv 0) rfl) (bB (pv 0) rfl) (eX (a9k T W Z) hr W.c aL (aA (bB (pv 0) rfl) aC)) rfl)),?_⟩;refine⟨_,rfl,p,C,dx,_,_,rfl,hp,Y.cl,Y.n_size,(uP _ _ _).2.2.1,?_⟩;intro b db hb0 hdb ne;refine⟨b,db,m,rfl,aG,hm,λH1 g r e ru me od hB sp fr fm=>⟨rfl,?_⟩⟩;have s1:aB H H1:=λx o z=>fm x o (by rw[aF (bE z hb0),aF (bE z hdb)];exact z) (bE z hb0)
  have fr':∀x∈ [b,g,r,e,ru,me,od],H x=none:=λx hx=>by
   rcases List.mem_cons.mp hx with rfl|hx
   ·exact hb0
   ·have:=fr x hx
    by_cases z:x=b
    ·rw[z];exact hb0
    ·by_cases z2:x=db
     ·rw[z2];exact hdb
     ·rw[aF z,aF z2]at this;exact this
  refine⟨_,rfl,p,C,dx,_,_,rfl,s1 _ _ hp,Y.cl,Y.n_boards,(uP _ _ _).1,_,rfl,p,C,dx,_,_,rfl,s1 _ _ hp,Y.cl,Y.n_name,(uP _ _ _).2.1,bd,_,rfl,kP.k (k:=Sum.inr nm) (s1 _ _ hb) (fU (by omega)),?_⟩;have nb:∀{x:Addr},x∈ [b,g,r,e,ru,me,od] ->x≠bd:=λhx z=>by rw[<- z,fr' _ hx]at hb;cases hb
  have u:∀x o,x≠bd->H1 x=some o->upd H1 bd (.dK (bH kb (.inr nm:aD) (.ref b))) x=some o:=λx o n z=>by rw[aF n];exact z
  obtain⟨⟨d1,e1⟩,⟨⟨d2,e2⟩,e3,e4⟩,e5,e6,e7⟩:=hB;exact q _ b g r e ru me od ⟨⟨d1,u _ _ (nb (by simp)) e1⟩,⟨⟨d2,u _ _ (nb (by simp)) e2⟩,u _ _ (nb (by simp)) e3,u _ _ (nb (by simp)) e4⟩,u _ _ (nb (by simp)) e5,u _ _ (nb (by simp)) e6,u _ _ (nb (by simp)) e7⟩ sp fr' aG (λx o n z=>u _ _ n (s1 _ _ z))
inductive sW(C CB CT:Addr)(sp:Sp)(vs:List V)(H:Hp)(Q:VK)(E:XK):Prop
 |mk (p dx a:Addr) (B:BM) (t:Str):vs= [.ref p] ->H p=some (.ins C dx (mZ B.b t a))->dD CB CT H B->oS B t->(sp [.ref B.b,.str t,.ref a] H (λ_ H'=>Q .non H') E0)->sW C CB CT sp vs H Q E
theorem b0x:bD ["self"] ["self"] (aS a4u):={}
theorem a2V(T:aX K mg)(Y:qO K mg C)(W:cO K mg CB)(G:aQ P w K mg af aN 6 CB "set_column" ["self","column","content"] sp):aQ P w K mg af aN 7 C "take" ["self"] (sW C CB CT sp):=by
 have G_content:aQ P w K mg af aN 2 CB "content" ["self","column"] (qQ CB CT):=a6b T W;refine Y.m_take.known b0x (λ_ _ _ _ _ _ us hl=>fG (λ_=>rfl) us hl) (λf ah A ag s H vs Q E hr h=> ?_)
 ·obtain⟨p,dx,a,B,t,rfl,hp,hB,hn,q⟩:=h
  refine⟨_,(aJ (cJ (pv 0) (bF (bB (pv 0) rfl) W.cl G_content hr.mn aL (aA (bB (pv 0) rfl) aC)) rfl)
   (aI (bT (bF (bB (pv 0) rfl) W.cl G hr aL (aA (bB (pv 0) rfl) (aA (bB (pv 0) rfl) aC)))))),?_⟩
  obtain⟨c1,c2,c3,c4,c5⟩:=a0C B.b t a;obtain⟨dB,h1⟩:=hB.at_;refine⟨_,rfl,p,C,dx,_,_,rfl,hp,Y.cl,Y.n_board,c1,B.b,dB,_,rfl,h1,mK,_,rfl,p,C,dx,_,_,rfl,hp,Y.cl,Y.n_column,c2,B,t,rfl,hB,hn,?_⟩;refine⟨_,rfl,p,C,dx,_,rfl,hp,Y.cl,Y.n_before,(by show 4<1000;decide),?_⟩;rw[c5,a7j hp];exact⟨_,rfl,p,C,dx,_,_,rfl,hp,Y.cl,Y.n_board,c1,B.b,dB,_,rfl,h1,mK,_,rfl,p,C,dx,_,_,rfl,hp,Y.cl,Y.n_column,c2,_,rfl,p,C,dx,_,_,rfl,hp,Y.cl,Y.n_after,c3,q⟩
theorem a9O:bD ["self"] ["self"] (aS a02):={}
end
def eB(bd ch fi:Addr):List (Str×V):=[("boards",V.ref bd),("changes",V.ref ch),("finder",V.ref fi)]
theorem iN(bd ch fi:Addr):(eB bd ch fi).lookup ("boards":Str)=some (.ref bd)/\(eB bd ch fi).lookup ("changes":Str)=some (.ref ch)/\(eB bd ch fi).lookup ("finder":Str)=some (.ref fi)/\∀fi',aM "finder" (.ref fi') (eB bd ch fi)=eB bd ch fi':=⟨rfl,rfl,rfl,λ_=>rfl⟩
theorem bY{m:Str}(h:(m==("boards":Str)||m==("changes":Str)||m==("finder":Str))=false:=by decide+kernel):(eB bd ch fi).lookup m=none:=by
 simp only[Bool.or_eq_false_iff]at h;obtain⟨⟨h1,h2⟩,h3⟩:=h;unfold eB;simp[List.lookup,h1,h2,h3]
def gO(bd fd lk:Addr):List (Str×V):=[("boards",V.ref bd),("found",V.ref fd),("looked",V.ref lk)]
theorem a31(bd fd lk:Addr):(gO bd fd lk).lookup ("boards":Str)=some (.ref bd)/\(gO bd fd lk).lookup ("found":Str)=some (.ref fd)/\(gO bd fd lk).lookup ("looked":Str)=some (.ref lk):=⟨rfl,rfl,rfl⟩
theorem yI{fd:Addr}{m:Str}(h:(m==("boards":Str)||m==("found":Str)||m==("looked":Str))=false:=by decide+kernel):(gO bd fd lk).lookup m=none:=by
 simp only[Bool.or_eq_false_iff]at h;obtain⟨⟨h1,h2⟩,h3⟩:=h;unfold gO;simp[List.lookup,h1,h2,h3]
section
inductive spFI(C:Addr)(vs:List V)(H:Hp)(Q:VK)(E:XK):Prop
 |mk (p dx bd:Addr):vs= [.ref p,.ref bd] ->H p=some (.ins C dx [])->(∀H' fd lk,H fd=none->H lk=none->fd≠lk->H' p=some (.ins C dx (gO bd fd lk))->H' fd=some (.dT [])->H' lk=some (.dT [])->bR p H H'->Q .non H')->spFI C vs H Q E
theorem b0g:bD ["self","boards"] ["self","boards"] (aS a1R):={}
theorem a2u(T:aX K mg)(Y:jF K mg C):fX P w K mg af aN 1 C ["self","boards"] (spFI C):=by
 refine(Y.m_init.known b0g (λ_ _ _ _ _ _ us hl=>dI (λ_ _=>rfl) us hl) (λf ah A ag s H vs Q E hr h=> ?_)).init Y.mks Y.kc
 ·obtain⟨p,dx,bd,rfl,hp,q⟩:=h
  refine⟨_,(aJ (cJ (pv 0) (pv 1) rfl) (aJ (cJ (pv 0) uZ rfl) (aI (cJ (pv 0) uZ rfl)))),?_⟩;refine⟨_,rfl,_,rfl,p,C,dx,[],rfl,hp,Y.cl,Y.n_boards,(by show 0<1000;decide),?_⟩;have u1:∀b o,b≠p->H b=some o->upd H p (.ins C dx (aM "boards" (.ref bd) [])) b=some o:=λb o n z=>by rw[aF n];exact z
  have p1:upd H p (.ins C dx (aM "boards" (.ref bd) [])) p=some (.ins C dx (aM "boards" (.ref bd) [])):=aG;have n1:∀b,upd H p (.ins C dx (aM "boards" (.ref bd) [])) b=none->H b=none/\b≠p:=λb z=>by
   have:b≠p:=λy=>by rw[y,aG]at z;cases z
   rw[aF this]at z;exact⟨z,this⟩
  generalize upd H p (.ins C dx (aM "boards" (.ref bd) []))=H1 at u1 p1 n1|-
  refine λfd hfd=> ?_
  have s2:=aB.new (o:=.dT []) hfd;have h2:upd H1 fd (.dT []) fd=some (.dT []):=aG;have n2:∀b,upd H1 fd (.dT []) b=none->H1 b=none/\b≠fd:=λb z=>by
   have:b≠fd:=λy=>by rw[y,aG]at z;cases z
   rw[aF this]at z;exact⟨z,this⟩
  refine⟨_,rfl,p,C,dx,_,rfl,s2 _ _ p1,Y.cl,Y.n_found,(by show 1<1000;decide),?_⟩;have hf:=n1 _ hfd
  generalize upd H1 fd (.dT [])=H2 at s2 h2 n2|-
  have u3:∀b o,b≠p->H2 b=some o->upd H2 p (.ins C dx (aM "found" (.ref fd) (aM "boards" (.ref bd) []))) b=some o:=λb o n z=>by rw[aF n];exact z
  have p3:upd H2 p (.ins C dx (aM "found" (.ref fd) (aM "boards" (.ref bd) []))) p=some (.ins C dx (aM "found" (.ref fd) (aM "boards" (.ref bd) []))):=aG;have n3:∀b,upd H2 p (.ins C dx (aM "found" (.ref fd) (aM "boards" (.ref bd) []))) b=none->H2 b=none/\b≠p:=λb z=>by
   have:b≠p:=λy=>by rw[y,aG]at z;cases z
   rw[aF this]at z;exact⟨z,this⟩
  generalize upd H2 p (.ins C dx (aM "found" (.ref fd) (aM "boards" (.ref bd) [])))=H3 at u3 p3 n3|-
  refine λlk hlk=> ?_
  have s4:=aB.new (o:=.dT []) hlk;have h4:upd H3 lk (.dT []) lk=some (.dT []):=aG;refine⟨_,rfl,p,C,dx,_,rfl,s4 _ _ p3,Y.cl,Y.n_looked,(by show 2<1000;decide),?_⟩;have k3:=n3 _ hlk;have k2:=n2 _ k3.1;have k1:=n1 _ k2.1
  generalize upd H3 lk (.dT [])=H4 at s4 h4|-
  exact q _ fd lk hf.1 k1.1 k2.2.symm aG (by rw[aF hf.2];exact s4 _ _ (u3 _ _ hf.2 h2)) (by rw[aF k1.2];exact h4) (λb o n z=>by rw[aF n];exact s4 _ _ (u3 _ _ n (s2 _ _ (u1 _ _ n z))))
inductive xL(CS CF C:Addr)(sp:Sp)(vs:List V)(H:Hp)(Q:VK)(E:XK):Prop
 |mk (s c bd ch fi dx dc:Addr) (cs:List V) (fs:List (Str×V)):vs= [.ref s,.ref c] ->H c=some (.ins C dc fs)->fs.lookup ("take":Str)=none->(sp [.ref c] H (λ_ H1=>H1 s=some (.ins CS dx (eB bd ch fi))/\H1 ch=some (.lst cs)/\cs.length<900/\∀H2 fi' fd lk df,H1 fi'=none->H1 fd=none->H1 lk=none->fd≠lk->H2 s=some (.ins CS dx (eB bd ch fi'))->H2 ch=some (.lst (cs++ [.ref c]))->H2 fi'=some (.ins CF df (gO bd fd lk))->H2 fd=some (.dT [])->H2 lk=some (.dT [])->
  (∀x o,x≠s->x≠ch->H1 x=some o->H2 x=some o)->Q .non H2) E0)->xL CS CF C sp vs H Q E
theorem a4g:bD ["self","change"] ["self","change"] (aS a0K):={}
def mW(sp:Sp):Prop:=∀vs H (Q Q':VK),(∀v H',Q v H'->Q' v H')->sp vs H Q E0->sp vs H Q' E0
theorem yD(T:aX K mg)(Y:dA K mg CS)(Z:jF K mg CF)(cl:dC K C)(mono:mW sp)(G:aQ P w K mg af aN 7 C "take" ["self"] sp):aQ P w K mg af aN 8 CS "make" ["self","change"] (xL CS CF C sp):=by
 refine Y.m_make.known a4g (λ_ _ _ _ _ _ us hl=>dI (λ_ _=>rfl) us hl) (λf ah A ag s H vs Q E hr h=> ?_)
 ·obtain⟨s',c,bd,ch,fi,dx,dc,cs,fs,rfl,hc,hf,q⟩:=h
  refine⟨_,(aJ (bT (fQ (pv 1) cl G hr aL))
   (aJ (bT (jS F.plainAttrs_list F.slot_list_append F.type_list_append jJ (bB (pv 0) rfl) (aA (pv 1) aC)))
   (aI (cJ (pv 0) (eX (a2u T Z) hr.mn Z.c aL (aA (bB (pv 0) rfl) aC)) rfl)))),?_⟩
  refine⟨_,rfl,c,dc,fs,rfl,hc,hf,?_⟩;refine mono _ _ _ _ (λv0 H1 hQ=> ?_) q;obtain⟨h1,h2,l9,qq⟩:=hQ;obtain⟨a1,a2,a3,a4⟩:=iN bd ch fi;refine⟨_,rfl,s',CS,dx,_,_,rfl,h1,Y.cl,Y.n_changes,a2,.inl ⟨rfl,_,aU.of h2⟩,_,rfl,ch,_,_,rfl,rfl,h2,fU (by omega),?_⟩;have nsc:s'≠ch:=λz=>by rw[z,h2]at h1;cases h1
  have u2:∀x o,x≠ch->H1 x=some o->upd H1 ch (.lst (cs++ [.ref c])) x=some o:=λx o n z=>by rw[aF n];exact z
  have c2:upd H1 ch (.lst (cs++ [.ref c])) ch=some (.lst (cs++ [.ref c])):=aG;have n2:∀b,upd H1 ch (.lst (cs++ [.ref c])) b=none->H1 b=none/\b≠ch:=λb z=>by
   have:b≠ch:=λy=>by rw[y,aG]at z;cases z
   rw[aF this]at z;exact⟨z,this⟩
  generalize upd H1 ch (.lst (cs++ [.ref c]))=H2 at u2 c2 n2|-
  have s2:=u2 _ _ nsc h1;refine⟨_,rfl,s',CS,dx,_,_,rfl,s2,Y.cl,Y.n_boards,a1,?_⟩;intro fi' df hfi hdf ne;refine⟨fi',df,bd,rfl,aG,λH3 fd lk hfd hlk nfl g1 g2 g3 b3=>⟨rfl,?_⟩⟩;have s3:aB H2 H3:=λb o z=>b3 b o (bE z hfi) (by rw[aF (bE z hfi),aF (bE z hdf)];exact z)
  have fr:∀{x:Addr},upd (upd H2 df (.own fi')) fi' (.ins CF df []) x=none->H2 x=none:=fun{x} z=>by
   by_cases z1:x=fi'
   ·rw[z1];exact hfi
   ·by_cases z2:x=df
    ·rw[z2];exact hdf
    ·rw[aF z1,aF z2]at z;exact z
  refine⟨_,rfl,s',CS,dx,_,rfl,s3 _ _ s2,Y.cl,Y.n_finder,(by show 3<1000;decide),?_⟩;rw[a4];have ns:∀{x:Addr},H2 x=none->x≠s':=λz y=>by rw[y,s2]at z;cases z
  exact qq _ fi' fd lk df (n2 _ hfi).1 (n2 _ (fr hfd)).1 (n2 _ (fr hlk)).1 nfl aG (by rw[aF nsc.symm];exact s3 _ _ c2) (by rw[aF (ns hfi)];exact g1) (by rw[aF (ns (fr hfd))];exact g2) (by rw[aF (ns (fr hlk))];exact g3) (λx o n1 n2' z=>by rw[aF n1];exact s3 _ _ (u2 _ _ n2' z))
inductive kH(CS CB CT:Addr)(vs:List V)(H:Hp)(Q:VK)(E:XK):Prop
 |mk (s bd ch fi dx:Addr) (kb:List (aD×V)) (nm:Str) (v:V):vs= [.ref s,.str nm] ->H s=some (.ins CS dx (eB bd ch fi))->H bd=some (.dK kb)->Nl nm->bC kb (.inr nm:aD)=some v->(∀H',aB H H'->Q v H')->kH CS CB CT vs H Q E
theorem a4s:bD ["self","table"] ["self","table"] (aS a1c):={}
theorem lV(T:aX K mg)(Y:dA K mg CS):aQ P w K mg af aN 2 CS "board_of" ["self","table"] (kH CS CB CT):=by
 refine Y.m_board_of.known a4s (λ_ _ _ _ _ _ us hl=>dI (λ_ _=>rfl) us hl) (λf ah A ag s H vs Q E hr h=> ?_)
 ·obtain⟨s',bd,ch,fi,dx,kb,nm,v,rfl,h1,h2,ht,hv,q⟩:=h
  refine⟨_,(aJ (bO (PW.pt (fB (cU (cY (bI (iG T) hr.mn aL (aA (pv 1) aC)) (λ_=>rfl))) (fY (iY (mR (eN hr) (pv 1) (bB (pv 0) rfl)))))) (aI bP) bW)
   (aI (cC (lL (eN hr) (bB (pv 0) rfl) (pv 1) (λ_ _=>rfl))))),?_⟩
  have h8:=ht.2.1;refine⟨_,rfl,_,.str nm,rfl,.str nm,fD (by omega),λH' s9=>⟨_,rfl,?_⟩⟩;rw[show dZ (.str nm)=true from ht.name];refine bU ⟨_,rfl,_,rfl,s',CS,dx,_,_,rfl,s9 _ _ h1,Y.cl,Y.n_boards,(iN _ _ _).1,bd,_,rfl,cZ.k (k:=Sum.inr nm) (s9 _ _ h2),_,rfl,?_⟩;rw[hv];exact bU ⟨_,rfl,s',CS,dx,_,_,rfl,s9 _ _ h1,Y.cl,Y.n_boards,(iN _ _ _).1,_,rfl,bd,v,rfl,hv▸cZ.k (k:=Sum.inr nm) (s9 _ _ h2),q _ s9⟩
inductive oB(CS CB CT:Addr)(vs:List V)(H:Hp)(Q:VK)(E:XK):Prop
 |mk (s bd ch fi dx:Addr) (kb:List (aD×V)) (nm t:Str) (B:BM):vs= [.ref s,.str nm,.str t] ->H s=some (.ins CS dx (eB bd ch fi))->H bd=some (.dK kb)->Nl nm->bC kb (.inr nm:aD)=some (.ref B.b)->dD CB CT H B->Nl t->t∈B.ord->(∀H',aB H H'->Q (.ref B.b) H')->oB CS CB CT vs H Q E
theorem uC:bD ["self","table","column","board"] ["self","table","column"] (aS a1D):={}
theorem sO(T:aX K mg)(Y:dA K mg CS)(W:cO K mg CB):aQ P w K mg af aN 3 CS "board_with" ["self","table","column"] (oB CS CB CT):=by
 have G_of:aQ P w K mg af aN 2 CS "board_of" ["self","table"] (kH CS CB CT):=lV T Y;have G_has:aQ P w K mg af aN 2 CB "has_column" ["self","column"] (sE CB CT):=zS T W;refine Y.m_board_with.known uC (λ_ _ _ _ _ _ us hl=>eQ (λ_ _ _=>rfl) us hl) (λf ah A ag s H vs Q E hr h=> ?_)
 ·obtain⟨s',bd,ch,fi,dx,kb,nm,t,B,rfl,h1,h2,hn,hv,hB,ht,ho,q⟩:=h
  refine⟨_,(aJ (cD (i:=3) uC.nd rfl (Or.inl rfl) (bF (pv 0) Y.cl G_of hr aL (aA (pv 1) aC)))
   (aJ (bO (cU (cY (bF (pv 3) W.cl G_has hr aL (aA (pv 2) aC)) (λ_=>rfl))) (aI bP) bW)
   (aI (cC (pv 3))))),?_⟩
  refine⟨_,rfl,s',dx,_,rfl,h1,bY,_,rfl,s',bd,ch,fi,dx,kb,nm,_,rfl,h1,h2,hn,hv,λH1 s1=> ?_⟩;have hB1:=hB.same s1;obtain⟨dB,b1⟩:=hB1.at_;refine⟨_,rfl,B.b,dB,_,rfl,b1,mK,_,rfl,B,t,rfl,hB1,ht,λH2 s2=>⟨_,rfl,?_⟩⟩;rw[decide_eq_true ho];exact bU ⟨_,rfl,q _ (s1.trans s2)⟩
inductive wZ(CS CB CT:Addr)(vs:List V)(H:Hp)(Q:VK)(E:XK):Prop
 |mk (s bd ch fi dx:Addr) (kb:List (aD×V)) (nm t:Str) (B:BM):vs= [.ref s,.str nm,.str t] ->H s=some (.ins CS dx (eB bd ch fi))->H bd=some (.dK kb)->Nl nm->bC kb (.inr nm:aD)=some (.ref B.b)->dD CB CT H B->Nl t->B.ord.length<8->(∀H',aB H H'->Q (.ref B.b) H')->wZ CS CB CT vs H Q E
theorem nZ:bD ["self","table","column","board"] ["self","table","column"] (aS a1r):={}
theorem a3k(T:aX K mg)(Y:dA K mg CS)(W:cO K mg CB):aQ P w K mg af aN 3 CS "board_for" ["self","table","column"] (wZ CS CB CT):=by
 have G_of:aQ P w K mg af aN 2 CS "board_of" ["self","table"] (kH CS CB CT):=lV T Y;refine Y.m_board_for.known nZ (λ_ _ _ _ _ _ us hl=>eQ (λ_ _ _=>rfl) us hl) (λf ah A ag s H vs Q E hr h=> ?_)
 ·obtain⟨s',bd,ch,fi,dx,kb,nm,t,B,rfl,h1,h2,hn,hv,hB,ht,ho,q⟩:=h
  refine⟨_,(aJ (cD (i:=3) nZ.nd rfl (Or.inl rfl) (bF (pv 0) Y.cl G_of hr aL (aA (pv 1) aC)))
   (aJ (bO (cU (cY (bI (iG T) hr.mn aL (aA (pv 2) aC)) (λ_=>rfl))) (aI bP) bW)
   (aJ (bO (PW.pt (oQ (cK qA (pv 2) (bB (pv 3) rfl) (by with_unfolding_all rfl)) (pH (cK oK (cM gU rfl T.len fS (aA (bB (pv 3) rfl) aC)) (kN T.g_MOST_COLUMNS) (cN _))))) (aI bP) bW)
   (aI (cC (pv 3)))))),?_⟩
  refine⟨_,rfl,s',dx,_,rfl,h1,bY,_,rfl,s',bd,ch,fi,dx,kb,nm,_,rfl,h1,h2,hn,hv,λH1 s1=> ?_⟩;have h8:=ht.2.1;refine⟨_,rfl,_,.str t,rfl,.str t,fD (by omega),λH2 s2=>⟨_,rfl,?_⟩⟩;rw[show dZ (.str t)=true from ht.name];obtain⟨⟨dB,b1⟩,_,_,_,o1⟩:=(hB.same s1).same s2;refine bU ⟨_,rfl,_,rfl,B.b,CB,dB,_,_,rfl,b1,W.cl,W.n_order,(dS _ _ _ _).2.2.2,B.od,_,rfl,.inl (aU.of o1),rfl,jW _,_,rfl,?_⟩;have fin:Q (.ref B.b) H2:=q _ (s1.trans s2);refine dJ (λ_=> ?_) (λ_=> ?_)
  ·refine⟨_,rfl,B.b,CB,dB,_,_,rfl,b1,W.cl,W.n_order,(dS _ _ _ _).2.2.2,_,_,rfl,.inl ⟨_,aU.of o1,rfl⟩,_,_,rfl,rfl,_,rfl,?_⟩
   rw[List.length_map,decide_eq_false (show¬(B.ord.length:Int)>=8 by omega)];exact bU ⟨_,rfl,fin⟩
  ·exact bU ⟨_,rfl,fin⟩
end
abbrev Ky:=List aD
noncomputable def dH (t c:Str) (p:Nat):Ky:=[.inr t,.inr c,.inl (p:Int)]
structure kI(CF CB CT:Addr)(H:Hp)(fi bd fd lk:Addr)(nm:Str)(B:BM)(kf:List (Ky×V)):Prop where
 fin:∃dx,H fi=some (.ins CF dx (gO bd fd lk))
 bds:∃kb,H bd=some (.dK kb)/\bC kb (.inr nm:aD)=some (.ref B.b)
 B:dD CB CT H B
 fnd:H fd=some (.dT kf)
 len:kf.length<900
theorem kI.same{fd:Addr}{nm:Str}{kf:List (Ky×V)}(h:kI CF CB CT H fi bd fd lk nm B kf)(s:aB H H'):kI CF CB CT H' fi bd fd lk nm B kf:=
 ⟨let ⟨dx,e⟩:=h.fin;⟨dx,s _ _ e⟩,let ⟨kb,e1,e2⟩:=h.bds;⟨kb,s _ _ e1,e2⟩,h.B.same s,s _ _ h.fnd,h.len⟩
theorem kI.put{fd:Addr}{nm:Str}{kf kf':List (Ky×V)}(h:kI CF CB CT H fi bd fd lk nm B kf)(s:bR fd H H')(e:H' fd=some (.dT kf'))(l:kf'.length<900):kI CF CB CT H' fi bd fd lk nm B kf':=by
 have u:∀{x:Addr} {o:HO},H x=some o->(∀kvs,o≠ .dT kvs)->H' x=some o:=λz n=>s _ _ (λy=>by rw[y,h.fnd]at z;exact n _ (Option.some.inj z).symm) z
 obtain⟨dx,e1⟩:=h.fin;obtain⟨kb,e2,e3⟩:=h.bds;obtain⟨⟨d1,b1⟩,⟨⟨d2,b2⟩,b3,b4⟩,b5,b6,b7⟩:=h.B;exact⟨⟨dx,u e1 (λ_ z=>by cases z)⟩,⟨kb,u e2 (λ_ z=>by cases z),e3⟩,⟨⟨d1,u b1 (λ_ z=>by cases z)⟩,⟨⟨d2,u b2 (λ_ z=>by cases z)⟩,u b3 (λ_ z=>by cases z),u b4 (λ_ z=>by cases z)⟩,u b5 (λ_ z=>by cases z),u b6 (λ_ z=>by cases z),u b7 (λ_ z=>by cases z)⟩,e,l⟩
section
inductive a3L(CF CB CT:Addr)(vs:List V)(H:Hp)(Q:VK)(E:XK):Prop
 |mk (fi bd fd lk ce l:Addr) (nm c:Str) (p:Nat) (B:BM) (kf:List (Ky×V)) (ys:List V) (v:V):vs= [.ref fi,.ref ce] ->kI CF CB CT H fi bd fd lk nm B kf->H ce=some (.tup ((dH nm c p).map kV))->bC B.rus (.inr c:aD)=none->Nl c->bC B.kvs (.inr c:aD)=some (.ref l)->H l=some (.lst ys)->p<B.xs.length->fE ys (p:Int)=some v->(∀v',bC kf (dH nm c p)=some v'->v'=v)->kf.length<899->(∀H' kf',(kf'=kf\/ kf'=bH kf (dH nm c p) v)->bC kf' (dH nm c p)=some v->kI CF CB CT H' fi bd fd lk nm B kf'->bR fd H H'->Q (.bl true) H')->a3L CF CB CT vs H Q E
theorem a0H:bD ["self","cell","board"] ["self","cell"] (aS a2j):={}
theorem a9a(T:aX K mg)(Y:jF K mg CF)(W:cO K mg CB)(Z:dE K mg CT):aQ P w K mg af aN 4 CF "knows" ["self","cell"] (a3L CF CB CT):=by
 refine Y.m_knows.known a0H (λ_ _ _ _ _ _ us hl=>dI (λ_ _=>rfl) us hl) (λf ah A ag s H vs Q E hr h=> ?_)
 ·obtain⟨fi,bd,fd,lk,ce,l,nm,c,p,B,kf,ys,v,rfl,hF,hce,hru,hc,hv,hl,hp,ha,hcon,kl,q⟩:=h
  have hu:=eN hr
  refine⟨_,(aJ (cD (i:=2) a0H.nd rfl (Or.inl rfl) (lL hu (bB (pv 0) rfl) (cE cV (pv 1) aT (λ_ _=>rfl)) (λ_ _=>rfl)))
   (aJ (bO (PW.pt (oQ (iY (mR hu (pv 1) (bB (pv 0) rfl))) (pH (iY (mR hu (cE cV (pv 1) aT (λ_ _=>rfl)) (bB (pv 2) rfl)))))) (aI (mP hu (bB (pv 0) rfl) (pv 1) (bF (bB (pv 2) rfl) Z.cl (a9y T Z) hr aL (aA (cE cV (pv 1) aT (λ_ _=>rfl)) (aA (cE cV (pv 1) aT (λ_ _=>rfl)) aC))) rfl)) bW)
   (aI (cC (sZ (kE hu (pv 1) (bB (pv 0) rfl)) (by with_unfolding_all rfl)))))),?_⟩
  obtain⟨dx,e1⟩:=hF.fin;obtain⟨kb,e2,e3⟩:=hF.bds;obtain⟨⟨d1,b1⟩,tb,b5,_,_⟩:=id hF.B;obtain⟨⟨d2,b2⟩,b3,b4⟩:=id tb;have e4:=hF.fnd;obtain⟨a1,a2,a3⟩:=a31 bd fd lk;refine⟨_,rfl,fi,CF,dx,_,_,rfl,e1,Y.cl,Y.n_boards,a1,_,rfl,ce,_,_,_,rfl,rfl,bS.of hce,rfl,bd,_,rfl,e3▸cZ.k (k:=Sum.inr nm) e2,?_⟩;have dgf:∀{H':Hp} {kf':List (Ky×V)},H' fd=some (.dT kf')->H' ce=some (.tup ((dH nm c p).map kV))->cZ H' fd (.ref ce) (bC kf' (dH nm c p)):=λe g=> .inr ⟨_,dH nm c p,ce,.inl e,rfl,g,rfl⟩
  refine⟨_,rfl,_,rfl,fi,CF,dx,_,_,rfl,e1,Y.cl,Y.n_found,a2,fd,_,rfl,dgf e4 hce,_,rfl,?_⟩
  cases hk:bC kf (dH nm c p)with
  |some v'=>
   obtain rfl:=hcon v' hk;refine bU (bU ⟨_,rfl,_,rfl,fi,CF,dx,_,_,rfl,e1,Y.cl,Y.n_found,a2,fd,_,rfl,dgf e4 hce,?_⟩);rw[hk];exact q H kf (.inl rfl) hk hF (bR.of (aB.refl H))
  |none=>
   refine cB ⟨_,rfl,ce,_,_,_,rfl,rfl,bS.of hce,rfl,_,rfl,B.b,CB,d1,_,_,rfl,b1,W.cl,W.n_rules,(dS _ _ _ _).2.1,B.ru,_,rfl,cZ.k (k:=Sum.inr c) b5,_,rfl,?_⟩;rw[hru];refine cB ⟨_,rfl,B.b,CB,d1,_,_,rfl,b1,W.cl,W.n_given,(dS _ _ _ _).1,B.g,d2,_,rfl,b2,fF,_,rfl,ce,_,_,_,rfl,rfl,bS.of hce,rfl,_,rfl,ce,_,_,_,rfl,rfl,bS.of hce,rfl,B.g,B.r,B.e,B.xs,B.n,B.kvs,c,l,ys,p,v,rfl,tb,hc,hv,hl,hp,ha,λH1 s1=> ?_⟩;have F1:=hF.same s1;have c1:=s1 _ _ hce;have nce:ce≠fd:=λz=>by rw[z,e4]at hce;cases hce
   refine⟨_,rfl,fi,CF,dx,_,_,rfl,s1 _ _ e1,Y.cl,Y.n_found,a2,_,rfl,fd,_,rfl,.inr ⟨kf,dH nm c p,ce,F1.fnd,rfl,c1,fU (by omega),rfl⟩,?_⟩
   have vp:bC (bH kf (dH nm c p) v) (dH nm c p)=some v:=by rw[yF,if_pos rfl]
   have lp:=tJ kf (dH nm c p) v;have b2':bR fd H1 (upd H1 fd (.dT (bH kf (dH nm c p) v))):=λb o n z=>by rw[aF n];exact z
   have F2:=F1.put b2' aG (by omega);have c2:=b2' _ _ nce c1;have f2:=F2.fnd
   generalize upd H1 fd (.dT (bH kf (dH nm c p) v))=H2 at b2' F2 c2 f2|-
   obtain⟨dx2,e12⟩:=F2.fin;refine⟨_,rfl,_,rfl,fi,CF,dx2,_,_,rfl,e12,Y.cl,Y.n_found,a2,fd,_,rfl,dgf f2 c2,?_⟩;rw[vp];exact q H2 _ (.inr rfl) vp F2 ((bR.of s1).trans b2')
end
theorem Paired.imp{α β:Type}{R R':α->β->Prop}(h:∀a b,R a b->R' a b):∀{xs:List α} {ys:List β},Paired R xs ys->Paired R' xs ys
 |_,_,.nil=> .nil
 |_,_,.cons a t=> .cons (h _ _ a) (Paired.imp h t)
theorem Paired.snoc{α β:Type}{R:α->β->Prop}{x:α}{y:β}(h:R x y):∀{xs:List α} {ys:List β},Paired R xs ys->Paired R (xs++ [x]) (ys++ [y])
 |_,_,.nil=> .cons h .nil
 |_,_,.cons a t=> .cons a (Paired.snoc h t)
section
def ShAt(CS CB CT:Addr)(s bd ch fi:Addr)(kb:List (aD×V))(nm:Str)(B:BM)(H:Hp):Prop:=(∃dx,H s=some (.ins CS dx (eB bd ch fi)))/\H bd=some (.dK kb)/\Nl nm/\bC kb (.inr nm:aD)=some (.ref B.b)/\dD CB CT H B
theorem a8B:bD ["self","table","column","place"] ["self","table","column","place"] (aS vX):={}
inductive spSc(CS CF CB CT:Addr)(sp:Sp)(vs:List V)(H:Hp)(Q:VK)(E:XK):Prop
 |mk (s bd ch fi df:Addr) (kb:List (aD×V)) (nm t:Str) (p:Nat) (B:BM) (fs:List (Str×V)):vs= [.ref s,.str nm,.str t,.int (p:Int)] ->ShAt CS CB CT s bd ch fi kb nm B H->Nl t->t∈B.ord->p<B.xs.length->H fi=some (.ins CF df fs)->fs.lookup ("value_of":Str)=none->(∀H1 ce,H ce=none->aB H H1->H1 ce=some (.tup ((dH nm t p).map kV))->sp [.ref fi,.ref ce] H1 Q E0)->spSc CS CF CB CT sp vs H Q E
theorem a5z:bD ["self","table","column","place"] ["self","table","column","place"] (aS vN):={}
end
theorem b0a:mW (spTT C CB CT):=λvs H Q Q' hQ h=>by
 obtain⟨p,dx,bd,nm,m,kb,e1,e2,e3,e4,e5,q⟩:=h;exact⟨p,dx,bd,nm,m,kb,e1,e2,e3,e4,e5,λH' b g r e ru me od a1 a2 a3 a4 a5=>hQ _ _ (q H' b g r e ru me od a1 a2 a3 a4 a5)⟩
theorem a6E:mW (xC K CB CT):=λvs H Q Q' hQ h=>by
 obtain⟨B,t,a,ys,ds,e1,e2,e3,e4,e5,e6,e7,e8,e9,e10,e11,e12,q⟩:=h;exact⟨B,t,a,ys,ds,e1,e2,e3,e4,e5,e6,e7,e8,e9,e10,e11,e12,λH' l a1 a2 a3 a4=>hQ _ _ (q H' l a1 a2 a3 a4)⟩
theorem a8f:mW (wF K CB CT):=λvs H Q Q' hQ h=>by
 obtain⟨B,t,a,C,dx,fs,e1,e2,e3,e4,e5,e6,e7,e8,e9,e10,q⟩:=h;exact⟨B,t,a,C,dx,fs,e1,e2,e3,e4,e5,e6,e7,e8,e9,e10,λH' m a1 a2 a3 a4=>hQ _ _ (q H' m a1 a2 a3 a4)⟩
theorem a1i(h:mW sp):mW (sW C CB CT sp):=λvs H Q Q' hQ g=>by
 obtain⟨p,dx,a,B,t,e1,e2,e3,e4,q⟩:=g;exact⟨p,dx,a,B,t,e1,e2,e3,e4,h _ _ _ _ (λv H' z=>hQ _ _ z) q⟩
theorem fA(h:upd H a o b=none):H b=none/\b≠a:=by
 have:b≠a:=λy=>by rw[y,aG]at h;cases h
 rw[aF this]at h;exact⟨h,this⟩
section
theorem a5U(bd ch fi:Addr):aM "finder" (.ref fi) (aM "changes" (.ref ch) (aM "boards" (.ref bd) []))=eB bd ch fi:=by
 rfl
inductive spSI(CS CF:Addr)(vs:List V)(H:Hp)(Q:VK)(E:XK):Prop
 |mk (p dx:Addr):vs= [.ref p] ->H p=some (.ins CS dx [])->(∀H' bd ch fi fd lk df,(∀x∈ [bd,ch,fi,fd,lk],H x=none)->fd≠lk->H' p=some (.ins CS dx (eB bd ch fi))->H' bd=some (.dK [])->H' ch=some (.lst [])->H' fi=some (.ins CF df (gO bd fd lk))->H' fd=some (.dT [])->H' lk=some (.dT [])->bR p H H'->Q .non H')->spSI CS CF vs H Q E
theorem a6f:bD ["self"] ["self"] (aS a30):={}
theorem a7t(T:aX K mg)(Y:dA K mg CS)(Z:jF K mg CF):fX P w K mg af aN 3 CS ["self"] (spSI CS CF):=by
 refine(Y.m_init.known a6f (λ_ _ _ _ _ _ us hl=>fG (λ_=>rfl) us hl) (λf ah A ag s H vs Q E hr h=> ?_)).init Y.mks Y.kc
 ·obtain⟨p,dx,rfl,hp,q⟩:=h
  refine⟨_,(aJ (cJ (pv 0) nH rfl)
   (aJ (cJ (pv 0) (dQ aC) rfl)
   (aI (cJ (pv 0) (eX (a2u T Z) hr Z.c aL (aA (bB (pv 0) rfl) aC)) rfl)))),?_⟩
  intro bd hbd;have s1:=aB.new (o:=.dK []) hbd;have b1:upd H bd (.dK []) bd=some (.dK []):=aG;have n1:∀{b:Addr},upd H bd (.dK []) b=none->H b=none/\b≠bd:=fA
  generalize upd H bd (.dK [])=H1 at s1 b1 n1|-
  refine⟨_,rfl,p,CS,dx,[],rfl,s1 _ _ hp,Y.cl,Y.n_boards,(by show 0<1000;decide),?_⟩;have u2:bR p H1 (upd H1 p (.ins CS dx (aM "boards" (.ref bd) []))):=λb o n z=>by rw[aF n];exact z
  have p2:upd H1 p (.ins CS dx (aM "boards" (.ref bd) [])) p=some (.ins CS dx (aM "boards" (.ref bd) [])):=aG;have n2:∀{b:Addr},upd H1 p (.ins CS dx (aM "boards" (.ref bd) [])) b=none->H1 b=none/\b≠p:=fA
  generalize upd H1 p (.ins CS dx (aM "boards" (.ref bd) []))=H2 at u2 p2 n2|-
  refine⟨sl,λch hch=> ?_⟩;have s3:=aB.new (o:=.lst []) hch;have c3:upd H2 ch (.lst []) ch=some (.lst []):=aG;have n3:∀{b:Addr},upd H2 ch (.lst []) b=none->H2 b=none/\b≠ch:=fA
  generalize upd H2 ch (.lst [])=H3 at s3 c3 n3|-
  refine⟨_,rfl,p,CS,dx,_,rfl,s3 _ _ p2,Y.cl,Y.n_changes,(by show 1<1000;decide),?_⟩;have u4:bR p H3 (upd H3 p (.ins CS dx (aM "changes" (.ref ch) (aM "boards" (.ref bd) [])))):=λb o n z=>by rw[aF n];exact z
  have p4:upd H3 p (.ins CS dx (aM "changes" (.ref ch) (aM "boards" (.ref bd) []))) p=some (.ins CS dx (aM "changes" (.ref ch) (aM "boards" (.ref bd) []))):=aG;have n4:∀{b:Addr},upd H3 p (.ins CS dx (aM "changes" (.ref ch) (aM "boards" (.ref bd) []))) b=none->H3 b=none/\b≠p:=fA
  generalize upd H3 p (.ins CS dx (aM "changes" (.ref ch) (aM "boards" (.ref bd) [])))=H4 at u4 p4 n4|-
  have npb:bd≠p:=λy=>by rw[y,hp]at hbd;cases hbd
  have npc:ch≠p:=λy=>by rw[y,p2]at hch;cases hch
  refine⟨_,rfl,p,CS,dx,_,_,rfl,p4,Y.cl,Y.n_boards,(show List.lookup ("boards":Str) (aM "changes" (V.ref ch) (aM "boards" (V.ref bd) []))=some (.ref bd) from rfl),?_⟩;intro fi df hfi hdf ne;refine⟨fi,df,bd,rfl,aG,λH5 fd lk hfd hlk nfl g1 g2 g3 b5=>⟨rfl,?_⟩⟩;have s5:aB H4 H5:=λb o z=>b5 b o (bE z hfi) (by rw[aF (bE z hfi),aF (bE z hdf)];exact z)
  have fr:∀{x:Addr},upd (upd H4 df (.own fi)) fi (.ins CF df []) x=none->H4 x=none:=fun{x} z=>(fA (fA z).1).1
  refine⟨_,rfl,p,CS,dx,_,rfl,s5 _ _ p4,Y.cl,Y.n_finder,(by show 2<1000;decide),?_⟩;rw[a5U];have u6:bR p H5 (upd H5 p (.ins CS dx (eB bd ch fi))):=λb o n z=>by rw[aF n];exact z
  have dn:∀{x:Addr},H4 x=none->H x=none/\x≠p:=λz=>⟨(n1 (n2 (n3 (n4 z).1).1).1).1,(n4 z).2⟩
  have eT:=dn (fr hfd);have frl:=dn (fr hlk);have frf:=dn hfi;have hc0:H ch=none:=(n1 (n2 hch).1).1;refine q _ bd ch fi fd lk df (λx hx=> ?_) nfl aG (u6 _ _ npb (s5 _ _ (u4 _ _ npb (s3 _ _ (u2 _ _ npb b1))))) (u6 _ _ npc (s5 _ _ (u4 _ _ npc c3))) (u6 _ _ frf.2 g1) (u6 _ _ eT.2 g2) (u6 _ _ frl.2 g3) (λb o n z=>u6 _ _ n (s5 _ _ (u4 _ _ n (s3 _ _ (u2 _ _ n (s1 _ _ z))))));simp only[List.mem_cons,List.not_mem_nil,or_false]at hx
  rcases hx with rfl|rfl|rfl|rfl|rfl
  ·exact hbd
  ·exact hc0
  ·exact frf.1
  ·exact eT.1
  ·exact frl.1
def wD(CS:Addr)(s bd ch:Addr)(cs:List V)(kb:List (aD×V))(H:Hp):Prop:=(∃dx fi,H s=some (.ins CS dx (eB bd ch fi)))/\H ch=some (.lst cs)/\H bd=some (.dK kb)
inductive xP(CS CF:Addr)(s bd ch fi fd lk:Addr)(cs:List V)(kb:List (aD×V))(H0 H:Hp):Prop
 |mk:(∃dx,H s=some (.ins CS dx (eB bd ch fi)))->H ch=some (.lst cs)->H bd=some (.dK kb)->(∃df,H fi=some (.ins CF df (gO bd fd lk)))->H fd=some (.dT [])->H lk=some (.dT [])->fd≠lk->H0 fi=none->H0 fd=none->H0 lk=none->xP CS CF s bd ch fi fd lk cs kb H0 H
inductive oU(CS CF CB CT:Addr)(vs:List V)(H:Hp)(Q:VK)(E:XK):Prop
 |mk (s bd ch:Addr) (cs:List V) (kb:List (aD×V)) (nm:Str) (m:Nat):vs= [.ref s,.str nm,.int (m:Int)] ->wD CS s bd ch cs kb H->cs.length<900->kb.length<4->Nl nm->bC kb (.inr nm:aD)=none->m<=30->(∀H' fi fd lk c b g r e ru me od,xP CS CF s bd ch fi fd lk (cs++ [.ref c]) (bH kb (.inr nm:aD) (.ref b)) H H'->dD CB CT H' ⟨b,g,r,e,ru,me,od,eM 0 m,(m:Int),[],[],[],[]⟩ ->BM.sep ⟨b,g,r,e,ru,me,od,eM 0 m,(m:Int),[],[],[],[]⟩ ->(∀x∈ [b,g,r,e,ru,me,od],H x=none)->(∀x o,x≠s->x≠ch->x≠bd->H x=some o->H' x=some o)->Q .non H')->oU CS CF CB CT vs H Q E
theorem a4b:bD ["self","name","many"] ["self","name","many"] (aS a5i):={}
theorem a43(T:aX K mg)(Y:dA K mg CS)(Z:jF K mg CF)(W:cO K mg CB)(U:dE K mg CT)(C:sC K mg CC):aQ P w K mg af aN 9 CS "table" ["self","name","many"] (oU CS CF CB CT):=by
 refine Y.m_table.known a4b (λ_ _ _ _ _ _ us hl=>eQ (λ_ _ _=>rfl) us hl) (λf ah A ag s H vs Q E hr h=> ?_)
 ·obtain⟨s',bd,ch,cs,kb,nm,m,rfl,hS,cl,kl,hn,hv,hm,q⟩:=h
  have hu:=eN hr
  refine⟨_,(aJ (bO (PW.pt (fB (cU (cY (bI (iG T) hr.mn aL (aA (pv 1) aC)) (λ_=>rfl))) (fY (iY (kE hu (pv 1) (bB (pv 0) rfl)))))) (aI bP) bW)
   (aJ (bT (bI (a1v T) hr.mn aL (aA (pv 2) aC)))
   (aJ (bO (cK oK (cM wP rfl T.len fS (aA (bB (pv 0) rfl) aC)) (kN T.g_MOST_TABLES) (cN _)) (aI bP) bW)
   (aI (bT (bF (pv 0) Y.cl (yD T Y Z C.cl b0a (a9N T C W U)) hr aL (aA (eX (a8x T C) hr.mn C.c aL (aA (bB (pv 0) rfl) (aA (pv 1) (aA (pv 2) aC)))) aC))))))),?_⟩
  have h8:=hn.2.1;obtain⟨⟨dx,fi0,h1⟩,h2,h3⟩:=hS;obtain⟨a1,a2,a3,a4⟩:=iN bd ch fi0;refine⟨_,rfl,_,.str nm,rfl,.str nm,fD (by omega),λH0 s9=>⟨_,rfl,?_⟩⟩;rw[show dZ (.str nm)=true from hn.name];have h1:=s9 _ _ h1;have h2':=s9 _ _ h2;have h3':=s9 _ _ h3;refine bU ⟨_,rfl,_,rfl,s',CS,dx,_,_,rfl,h1,Y.cl,Y.n_boards,a1,bd,_,rfl,cZ.k (k:=Sum.inr nm) h3',_,rfl,?_⟩;rw[hv];refine bU ⟨_,rfl,m,rfl,hm,?_⟩;refine⟨_,rfl,s',CS,dx,_,_,rfl,h1,Y.cl,Y.n_boards,a1,bd,kb,rfl,h3',_,_,rfl,rfl,_,rfl,?_⟩;refine dJ (λg=>absurd (of_decide_eq_true g) (by omega)) (λg=> ?_);refine⟨_,rfl,s',dx,_,rfl,h1,bY,_,rfl,s',CS,dx,_,_,rfl,h1,Y.cl,Y.n_boards,a1,_,rfl,_,rfl,?_⟩;intro c dc hc hdc ne;refine⟨c,dc,bd,nm,m,rfl,aG,λH1 b1 c1=>⟨rfl,?_⟩⟩;have s1:aB H0 H1:=λb o z=>b1 b o (bE z hc) (by rw[aF (bE z hc),aF (bE z hdc)];exact z)
  refine⟨s',c,bd,ch,fi0,dx,dc,cs,_,rfl,c1,(uP _ _ _).2.2.2,c,dc,bd,nm,m,kb,rfl,c1,s1 _ _ h3',by omega,hm,λH2 b g r e ru me od B2 sp2 fr2 bd2 u2=> ?_⟩;have ns:s'≠bd:=λy=>by rw[y,h3']at h1;cases h1
  have nc:ch≠bd:=λy=>by rw[y,h3']at h2';cases h2'
  have nsc:s'≠ch:=λy=>by rw[y,h2']at h1;cases h1
  refine⟨u2 _ _ ns (s1 _ _ h1),u2 _ _ nc (s1 _ _ h2'),cl,λH3 fi fd lk df f1 f2 f3 nfl g1 g2 g3 g4 g5 u3=> ?_⟩;have n0:∀{x:Addr},H2 x=none->H x=none:=fun{x} e=>by
   cases e2:H x with
   |none=>rfl
   |some o=>
    by_cases y:x=bd
    ·rw[y,bd2]at e;cases e
    ·rw[u2 _ _ y (s1 _ _ (s9 _ _ e2))]at e;cases e
  have k3:∀{x:Addr} {o:HO},H2 x=some o->x≠s'->x≠ch->H3 x=some o:=λe n m=>u3 _ _ n m e
  have fr:∀x∈ [b,g,r,e,ru,me,od],H x=none:=λx hx=>kG (s9.trans s1) (fr2 x hx)
  have nb:∀{x:Addr},x∈ [b,g,r,e,ru,me,od] ->x≠s'/\x≠ch:=λhx=>⟨λy=>by{have:=s1 _ _ h1;rw[<- y,fr2 _ hx]at this;cases this},λy=>by{have:=s1 _ _ h2';rw[<- y,fr2 _ hx]at this;cases this}⟩
  obtain⟨⟨d1,e1⟩,⟨⟨d2,e2⟩,e3,e4⟩,e5,e6,e7⟩:=B2;have kb2:∀{x:Addr} {o:HO},x∈ [b,g,r,e,ru,me,od] ->H2 x=some o->H3 x=some o:=λhx e=>k3 e (nb hx).1 (nb hx).2
  exact q H3 fi fd lk c b g r e ru me od ⟨⟨dx,g1⟩,g2,k3 bd2 ns.symm nc.symm,⟨df,g3⟩,g4,g5,nfl,n0 f1,n0 f2,n0 f3⟩ ⟨⟨d1,kb2 (by simp) e1⟩,⟨⟨d2,kb2 (by simp) e2⟩,kb2 (by simp) e3,kb2 (by simp) e4⟩,kb2 (by simp) e5,kb2 (by simp) e6,kb2 (by simp) e7⟩ sp2 fr (λx o n1 n2 n3 e=>k3 (u2 _ _ n3 (s1 _ _ (s9 _ _ e))) n1 n2)
theorem dD.off{s:Addr}{cs:List V}(h:dD CB CT H B)(hs:∃dx bd ch' fi,H s=some (.ins CS dx (eB bd ch' fi)))(hc:H ch=some (.lst cs))(n1:ch≠B.r)(n2:ch≠B.od)(u:∀x o,x≠s->x≠ch->H x=some o->H' x=some o):dD CB CT H' B:=by
 obtain⟨dx,bd,ch',fi,hs⟩:=hs;obtain⟨⟨d1,e1⟩,⟨⟨d2,e2⟩,e3,e4⟩,e5,e6,e7⟩:=h;have k:∀{x:Addr} {o:HO},H x=some o->(∀a b c,o≠ .ins a b c)->x≠ch->H' x=some o:=λe n m=>u _ _ (λy=>by rw[y,hs]at e;exact n _ _ _ (Option.some.inj e).symm) m e
 have nc:∀{x:Addr} {o:HO},H x=some o->(∀a,o≠ .lst a)->x≠ch:=λe n y=>by rw[y,hc]at e;exact n _ (Option.some.inj e).symm
 refine⟨⟨d1,u _ _ (a03 e1 hs (show 4≠3 by decide)) (nc e1 nk) e1⟩,⟨⟨d2,u _ _ (λy=> ?_) (nc e2 nk) e2⟩,k e3 (λ_ _ _ y=>by cases y) n1.symm,k e4 (λ_ _ _ y=>by cases y) (nc e4 nk)⟩,k e5 (λ_ _ _ y=>by cases y) (nc e5 nk),k e6 (λ_ _ _ y=>by cases y) (nc e6 nk),k e7 (λ_ _ _ y=>by cases y) n2.symm⟩;rw[y,hs]at e2;cases e2
structure rR(bd ch:Addr)(B:BM):Prop where
 r:ch≠B.r
 o:ch≠B.od
 e:bd≠B.e
 u:bd≠B.ru
 m:bd≠B.me
inductive sH(K:Fg)(CS CF CB CT:Addr)(vs:List V)(H:Hp)(Q:VK)(E:XK):Prop
 |mk (s bd ch a:Addr) (cs:List V) (kb:List (aD×V)) (nm t:Str) (ys:List V) (ds:List PyData) (B:BM):vs= [.ref s,.str nm,.str t,.ref a] ->wD CS s bd ch cs kb H->cs.length<900->Nl nm->bC kb (.inr nm:aD)=some (.ref B.b)->dD CB CT H B->B.sep->rR bd ch B->oS B t->Nl t->H a=some (.lst ys)->a≠B.od->iP K H ys ds->ys.length=B.xs.length->ys.length<=30->B.kvs.length<8->B.ord.length<8->(∀H' fi fd lk c l,xP CS CF s bd ch fi fd lk (cs++ [.ref c]) kb H H'->H l=none->dD CB CT H' {B with kvs:=bH B.kvs (.inr t:aD) (.ref l),ord:=B.ord++ [t]} ->H' l=some (.lst ys)->(∀x o,x≠s->x≠ch->x≠B.od->x≠B.e->H x=some o->H' x=some o)->Q .non H')->sH K CS CF CB CT vs H Q E
theorem tO:bD ["self","table","column","values","board"] ["self","table","column","values"] (aS xR):={}
theorem b0B(T:aX K mg)(Y:dA K mg CS)(Z:jF K mg CF)(W:cO K mg CB)(U:dE K mg CT)(C:qO K mg CC):aQ P w K mg af aN 9 CS "give" ["self","table","column","values"] (sH K CS CF CB CT):=by
 have G_for:aQ P w K mg af aN 3 CS "board_for" ["self","table","column"] (wZ CS CB CT):=a3k T Y W;have G_make:aQ P w K mg af aN 8 CS "make" ["self","change"] (xL CS CF CC (sW CC CB CT (xC K CB CT))):=yD T Y Z C.cl (a1i a6E) (a2V T C W (b0r T W U));refine Y.m_give.known tO (λ_ _ _ _ _ _ us hl=>iH (λ_ _ _ _=>rfl) us hl) (λf ah A ag s H vs Q E hr h=> ?_)
 ·obtain⟨s',bd,ch,a,cs,kb,nm,t,ys,ds,B,rfl,hS,cl,hn,hv,hB,sep,ss,new,ht,ha,nao,hp,ly,l30,k8,o8,q⟩:=h
  refine⟨_,(aJ (cD (i:=4) tO.nd rfl (Or.inl rfl) (bF (pv 0) Y.cl G_for hr.mn aL (aA (pv 1) (aA (pv 2) aC))))
   (aJ (bT (bI (a2Q T) hr.mn aL (aA (pv 3) (aA (fQ (bB (pv 4) rfl) U.cl (gZ T U) hr.mn aL) aC))))
   (aI (bT (bF (pv 0) Y.cl G_make hr aL (aA (eX (a4M T C) hr.mn C.c aL (aA (pv 4) (aA (pv 2) (aA (pv 3) aC)))) aC)))))),?_⟩
  obtain⟨⟨dx,fi0,h1⟩,h2,h3⟩:=hS;refine⟨_,rfl,s',dx,_,rfl,h1,bY,_,rfl,_,rfl,s',bd,ch,fi0,dx,kb,nm,t,B,rfl,h1,h3,hn,hv,hB,ht,o8,λH1 s1=> ?_⟩;obtain⟨dB,b1⟩:=(hB.same s1).at_;obtain⟨dT,t1⟩:=(hB.same s1).tab.at_;refine⟨_,rfl,_,rfl,B.b,CB,dB,_,_,rfl,b1,W.cl,W.n_given,(dS _ _ _ _).1,B.g,dT,_,rfl,t1,fF,B.g,B.r,B.e,B.xs,B.n,B.kvs,rfl,(hB.same s1).tab,?_⟩;refine⟨a,ys,ds,by rw[ly];rfl,aU.of (s1 _ _ ha),hp.keep (kW.of s1),by omega,λH2 s2=> ?_⟩;have s12:=s1.trans s2;refine⟨_,rfl,s',dx,_,rfl,s12 _ _ h1,bY,_,rfl,_,rfl,_,rfl,?_⟩;intro c dc hc hdc ne;refine⟨c,dc,B.b,a,t,rfl,aG,λH3 b3 c3=>⟨rfl,?_⟩⟩;have s3:aB H H3:=λb o z=>b3 b o (bE (s12 _ _ z) hc) (by rw[aF (bE (s12 _ _ z) hc),aF (bE (s12 _ _ z) hdc)];exact s12 _ _ z)
  have hB3:=hB.same s3;refine⟨s',c,bd,ch,fi0,dx,dc,cs,_,rfl,c3,(a0C _ _ _).2.2.2.1,c,dc,a,B,t,rfl,c3,hB3,new,B,t,a,ys,ds,rfl,hB3,sep,new,ht,s3 _ _ ha,nao,hp.keep (kW.of s3),ly,l30,k8,by omega,λH4 l hl B4 l4 u4=> ?_⟩;have hB0:=hB.ord;have he0:=hB.tab.kept;have k4:∀{x:Addr} {o:HO},H x=some o->x≠B.od->x≠B.e->H4 x=some o:=λe n m=>u4 _ _ n m (s3 _ _ e)
  have ns:s'≠B.od/\s'≠B.e:=⟨λy=>by{rw[y,hB0]at h1;cases h1},λy=>by{rw[y,he0]at h1;cases h1}⟩;have nce:ch≠B.e:=λy=>by rw[y,he0]at h2;cases h2
  have nbo:bd≠B.od:=λy=>by rw[y,hB0]at h3;cases h3
  have ns4:=k4 h1 ns.1 ns.2;have ch4:=k4 h2 ss.o nce;refine⟨ns4,ch4,cl,λH5 fi fd lk df f1 f2 f3 nfl g1 g2 g3 g4 g5 u5=> ?_⟩;have nn:∀{x:Addr},H4 x=none->H x=none:=fun{x} e=>by
   cases e2:H x with
   |none=>rfl
   |some o=>
    by_cases y:x=B.od
    ·rw[y,B4.ord]at e;cases e
    ·by_cases y2:x=B.e
     ·rw[y2,B4.tab.kept]at e;cases e
     ·rw[k4 e2 y y2]at e;cases e
  have hl0:H l=none:=kG s3 hl;have nl:l≠s'/\l≠ch:=⟨λy=>by{rw[y,h1]at hl0;cases hl0},λy=>by{rw[y,h2]at hl0;cases hl0}⟩;have nb:bd≠s'/\bd≠ch:=⟨λy=>by{rw[y,h1]at h3;cases h3},λy=>by{rw[y,h2]at h3;cases h3}⟩;exact q H5 fi fd lk c l ⟨⟨dx,g1⟩,g2,u5 _ _ nb.1 nb.2 (k4 h3 nbo ss.e),⟨df,g3⟩,g4,g5,nfl,nn f1,nn f2,nn f3⟩ hl0 (B4.off ⟨dx,bd,ch,fi0,ns4⟩ ch4 ss.r ss.o u5) (u5 _ _ nl.1 nl.2 l4) (λx o n1 n2 n3 n4 e=>u5 _ _ n1 n2 (k4 e n3 n4))
theorem vZ:bD ["self","table","column","place","value","board"] ["self","table","column","place","value"] (aS vH):={}
end
structure TCol where
 nm:Str
 l:Addr
 ys:List V
def tk(ts:List TCol):List (aD×V):=ts.map λc=>((Sum.inr c.nm:aD),V.ref c.l)
section
inductive a5l(C:Addr)(vs:List V)(H:Hp)(Q:VK)(E:XK):Prop
 |mk (p:_) (r:_) (d:_) (xs:_) (n:_) (kvs:_):vs= [.ref p] ->hV C H p r d xs n kvs->(∀l,H l=none->Q (.ref l) (upd H l (.lst (kvs.map λp=>kV p.1))))->a5l C vs H Q E
theorem b0V:bD ["self"] ["self"] (aS a2m):={}
theorem a97(T:aX K mg)(Y:dE K mg C):aQ P w K mg af aN 1 C "columns" ["self"] (a5l C):=by
 refine Y.m_columns.known b0V (λ_ _ _ _ _ _ us hl=>fG (λ_=>rfl) us hl) (λf ah A ag s H vs Q E hr h=> ?_)
 ·obtain⟨p,r,d,xs,n,kvs,rfl,⟨⟨dx,hp⟩,hr',hd⟩,q⟩:=h
  refine⟨_,(aI (cC (jZ (a2D rfl) rfl T.list jC (aA (bB (pv 0) rfl) aC)))),?_⟩;exact⟨_,rfl,p,C,dx,_,_,rfl,hp,Y.cl,Y.n_kept,lW _ _ _,_,_,rfl,hd,q⟩
theorem a0m:bD ["values","columns","column","value"] ["values","columns"] (aS a1s):={}
theorem a85:bD ["self","place","values"] ["self","place","values"] (aS a22):={}
inductive pN(CF:Addr)(sp:Sp)(vs:List V)(H:Hp)(Q:VK)(E:XK):Prop
 |mk (fi ce bd fd lk d0:Addr) (ky:Ky):vs= [.ref fi,.ref ce] ->H fi=some (.ins CF d0 (gO bd fd lk))->(∀H1 wl,H wl=none->aB H H1->H1 wl=some (.lst [.ref ce])->sp [.ref fi,.ref ce] H1 (λv H2=>v= .non/\∃d2 kf v2,H2 wl=some (.lst [.ref ce])/\H2 fi=some (.ins CF d2 (gO bd fd lk))/\H2 fd=some (.dT kf)/\H2 ce=some (.tup (ky.map kV))/\bC kf ky=some v2/\∀H3,bR wl H2 H3->Q v2 H3) E0)->pN CF sp vs H Q E
abbrev Nvo:List Str:=["self","cell","waiting","lacking"]
theorem yN:bD Nvo ["self","cell"] (aS a2E):={}
theorem a9o(T:aX K mg)(Y:jF K mg CF){k:Nat}(mono:mW sp)(G:aQ P w K mg af aN k CF "attempt" ["self","cell"] sp):aQ P w K mg af aN (k+ 1) CF "value_of" ["self","cell"] (pN CF sp):=by
 refine Y.m_value_of.known yN (λ_ _ _ _ _ _ us hl=>dI (λ_ _=>rfl) us hl) (λf ah A ag s H vs Q E hr h=> ?_)
 ·obtain⟨fi,ce,bd,fd,lk,d0,ky,rfl,hfi,q⟩:=h
  have hu:=eN hr
  refine⟨_,(aJ (cD (i:=2) yN.nd rfl (Or.inl rfl) (dQ (aA (pv 1) aC)))
   (aJ (a5h PassesOwn.never (a2W (pv 2) (λ_=>rfl)) (aJ (cD (i:=3) yN.nd rfl (Or.inl rfl) (bF (pv 0) Y.cl G hr aL (aA (cE fM (pv 2) (qS rB aT) (λ_ _=>rfl)) aC)))
   (aI (bO (cK a0i (pv 3) iD (cN _)) (aI (bT (a7A F.plainAttrs_list F.slot_list_pop F.type_list_pop a7O (pv 2)))) (aI bP)))))
   (aI (cC (lL hu (bB (pv 0) rfl) (pv 1) (λ_ _=>rfl)))))),?_⟩
  refine⟨_,rfl,sl,λwl hwl=> ?_⟩;have s1:=aB.new (o:=.lst [.ref ce]) hwl;have w1:upd H wl (.lst [.ref ce]) wl=some (.lst [.ref ce]):=aG
  generalize upd H wl (.lst [.ref ce])=H1 at s1 w1|-
  have q1:=q H1 wl hwl s1 w1
  let Wf:Nat->St->Hp->Prop:=λm σ H2=>(m=1/\σ= [some (.ref fi),some (.ref ce),some (.ref wl),none] /\H2=H1)\/ (m=0/\σ= [some (.ref fi),some (.ref ce),some (.ref wl),some .non] /\∃d2 kf v2,H2 wl=some (.lst [])/\H2 fi=some (.ins CF d2 (gO bd fd lk))/\H2 fd=some (.dT kf)/\H2 ce=some (.tup (ky.map kV))/\bC kf ky=some v2/\Q v2 H2)
  refine⟨Wf,⟨1,.inl ⟨rfl,rfl,rfl⟩⟩,?_⟩;rintro m σ H2 (⟨rfl,rfl,rfl⟩|⟨rfl,rfl,d2,kf,v2,h1,h2,h3,h4,h5,h6⟩)
  ·refine⟨_,rfl,_,.inl ⟨_,aU.of w1,rfl⟩,?_⟩
   refine dJ (λg=> ?_) (λg=>absurd rfl g);refine⟨λσ' H'=>∃m',m'<1/\Wf m' σ' H',λσ' H' h=>h,?_⟩;refine⟨_,rfl,fi,d0,_,rfl,s1 _ _ hfi,yI,_,rfl,_,rfl,wl,_,_,_,rfl,rfl,aU.of w1,rfl,?_⟩;refine mono _ _ _ _ (λv H3 hQ=> ?_) q1;obtain⟨rfl,d2,kf,v2,h1,h2,h3,h4,h5,h6⟩:=hQ;refine⟨_,rfl,rfl,_,rfl,cB ?_⟩;refine⟨_,rfl,.inl ⟨rfl,_,aU.of h1⟩,wl,_,_,rfl,rfl,h1,rfl,?_⟩;have u:bR wl H3 (upd H3 wl (.lst [])):=λb o n e=>by rw[aF n];exact e
   refine⟨0,by decide,.inr ⟨rfl,rfl,d2,kf,v2,aG,u _ _ (λy=>by rw[y,h1]at h2;cases h2) h2,u _ _ (λy=>by rw[y,h1]at h3;cases h3) h3,u _ _ (λy=>by rw[y,h1]at h4;cases h4) h4,h5,h6 _ u⟩⟩
  ·refine⟨_,rfl,_,.inl ⟨_,aU.of h1,rfl⟩,?_⟩
   refine dJ (λg=>by cases g) (λg=> ?_);refine⟨_,rfl,fi,CF,d2,_,_,rfl,h2,Y.cl,Y.n_found,(a31 _ _ _).2.1,_,rfl,fd,v2,rfl,.inr ⟨kf,ky,ce,.inl h3,rfl,h4,h5.symm⟩,h6⟩
inductive oX(CF CB CT:Addr)(vs:List V)(H:Hp)(Q:VK)(E:XK):Prop
 |mk (fi bd fd lk ce l:Addr) (nm c:Str) (p:Nat) (B:BM) (kf:List (Ky×V)) (ys:List V) (v:V):vs= [.ref fi,.ref ce] ->kI CF CB CT H fi bd fd lk nm B kf->H ce=some (.tup ((dH nm c p).map kV))->bC B.rus (.inr c:aD)=none->Nl c->bC B.kvs (.inr c:aD)=some (.ref l)->H l=some (.lst ys)->p<B.xs.length->fE ys (p:Int)=some v->(∀v',bC kf (dH nm c p)=some v'->v'=v)->kf.length<899->(∀H' kf',(kf'=kf\/ kf'=bH kf (dH nm c p) v)->bC kf' (dH nm c p)=some v->kI CF CB CT H' fi bd fd lk nm B kf'->bR fd H H'->Q .non H')->oX CF CB CT vs H Q E
abbrev NatG:List Str:=["self","cell","trial","told"]
theorem a8q:bD NatG ["self","cell"] (aS a39):={}
theorem a9h(T:aX K mg)(Y:jF K mg CF)(Wb:cO K mg CB)(U:dE K mg CT):aQ P w K mg af aN 5 CF "attempt" ["self","cell"] (oX CF CB CT):=by
 refine Y.m_attempt.known a8q (λ_ _ _ _ _ _ us hl=>dI (λ_ _=>rfl) us hl) (λf ah A ag s H vs Q E hr h=> ?_)
 ·obtain⟨fi,bd,fd,lk,ce,l,nm,c,p,B,kf,ys,v,rfl,F,a1,a2,a3,a4,a5,a6,a7,a8,a9,q⟩:=h
  refine⟨_,(aJ (bO (cY (bF (pv 0) Y.cl (a9a T Y Wb U) hr aL (aA (pv 1) aC)) (λ_=>rfl)) (aI (cC iD)) bW)
   (aJ bP (aJ bP (aJ bP (aI bP))))),?_⟩
  obtain⟨d0,e1⟩:=F.fin;exact⟨_,rfl,fi,d0,_,rfl,e1,yI,_,rfl,fi,bd,fd,lk,ce,l,nm,c,p,B,kf,ys,v,rfl,F,a1,a2,a3,a4,a5,a6,a7,a8,a9,λH' kf' h1 h2 h3 h4=>⟨_,rfl,cB (q H' kf' h1 h2 h3 h4)⟩⟩
theorem a7Y:mW (oX CF CB CT):=λvs H Q Q' hQ h=>by
 obtain⟨fi,bd,fd,lk,ce,l,nm,c,p,B,kf,ys,v,a0,F,a1,a2,a3,a4,a5,a6,a7,a8,a9,q⟩:=h;exact⟨fi,bd,fd,lk,ce,l,nm,c,p,B,kf,ys,v,a0,F,a1,a2,a3,a4,a5,a6,a7,a8,a9,λH' kf' h1 h2 h3 h4=>hQ _ _ (q H' kf' h1 h2 h3 h4)⟩
theorem b0u{s fd l:Addr}{nm c:Str}{p:Nat}{kf:List (Ky×V)}(F:kI CF CB CT H fi bd fd lk nm B kf)(hS:ShAt CS CB CT s bd ch fi kb nm B H)(nc:Nl c)(co:c∈B.ord)(ru:bC B.rus (.inr c:aD)=none)(kv:bC B.kvs (.inr c:aD)=some (.ref l))(hl:H l=some (.lst ys))(hp:p<B.xs.length)(ha:fE ys (p:Int)=some v)(hcon:∀v',bC kf (dH nm c p)=some v'->v'=v)(kl:kf.length<899)
 (q:∀H' kf',(kf'=kf\/ kf'=bH kf (dH nm c p) v)->H' fd=some (.dT kf')->bR fd H H'->Q v H'):
 spSc CS CF CB CT (pN CF (oX CF CB CT)) [.ref s,.str nm,.str c,.int (p:Int)] H Q E0:=by
 obtain⟨df,hfi⟩:=F.fin;refine⟨s,bd,ch,fi,df,kb,nm,c,p,B,_,rfl,hS,nc,co,hp,hfi,yI,λH1 ce hce s1 c1=> ?_⟩;refine⟨fi,ce,bd,fd,lk,df,dH nm c p,rfl,s1 _ _ hfi,λH2 wl hwl s2 w2=> ?_⟩;have F2:=(F.same s1).same s2;have nfd:∀{x:Addr} {o:HO},H2 x=some o->(∀y,o≠ .dT y)->x≠fd:=λe n y=>by rw[y,F2.fnd]at e;exact n _ (Option.some.inj e).symm
 refine⟨fi,bd,fd,lk,ce,l,nm,c,p,B,kf,ys,v,rfl,F2,s2 _ _ c1,ru,nc,kv,s2 _ _ (s1 _ _ hl),hp,ha,hcon,kl,λH3 kf' hk hv F3 b3=>⟨rfl,?_⟩⟩;obtain⟨d3,f3⟩:=F3.fin;have w3:=b3 _ _ (nfd w2 nk) w2;refine⟨d3,kf',v,w3,f3,F3.fnd,b3 _ _ (nfd (s2 _ _ c1) nk) (s2 _ _ c1),hv,λH4 b4=>q H4 kf' hk (b4 _ _ (λy=>by rw[<- y,F3.fnd]at w3;cases w3) F3.fnd) λx o n e=>b4 _ _ (λy=>by rw[y]at e;rw[s1 _ _ e]at hwl;cases hwl) (b3 _ _ n (s2 _ _ (s1 _ _ e)))⟩
inductive a33(CS CB CT:Addr)(vs:List V)(H:Hp)(Q:VK)(E:XK):Prop
 |mk (s bd ch fi dx:Addr) (kb:List (aD×V)) (nm:Str) (B:BM):vs= [.ref s,.str nm] ->H s=some (.ins CS dx (eB bd ch fi))->H bd=some (.dK kb)->Nl nm->bC kb (.inr nm:aD)=some (.ref B.b)->dD CB CT H B->(∀H',aB H H'->Q (.int B.xs.length) H')->a33 CS CB CT vs H Q E
theorem a4Q:bD ["self","table"] ["self","table"] (aS a1q):={}
theorem b1g(T:aX K mg)(Y:dA K mg CS)(W:cO K mg CB)(Z:dE K mg CT):aQ P w K mg af aN 3 CS "many" ["self","table"] (a33 CS CB CT):=by
 have G_of:aQ P w K mg af aN 2 CS "board_of" ["self","table"] (kH CS CB CT):=lV T Y;refine Y.m_many.known a4Q (λ_ _ _ _ _ _ us hl=>dI (λ_ _=>rfl) us hl) (λf ah A ag s H vs Q E hr h=> ?_)
 ·obtain⟨s',bd,ch,fi,dx,kb,nm,B,rfl,h1,h2,hn,hv,hB,q⟩:=h
  refine⟨_,(aI (cC (fQ (bB (bF (pv 0) Y.cl G_of hr aL (aA (pv 1) aC)) rfl) Z.cl (gZ T Z) hr.mn aL))),?_⟩;refine⟨_,rfl,s',dx,_,rfl,h1,bY,_,rfl,s',bd,ch,fi,dx,kb,nm,_,rfl,h1,h2,hn,hv,λH1 s1=> ?_⟩;have hB1:=hB.same s1;obtain⟨dB,b1⟩:=hB1.at_;obtain⟨dT,t1⟩:=hB1.tab.at_;exact⟨B.b,CB,dB,_,_,rfl,b1,W.cl,W.n_given,(dS _ _ _ _).1,B.g,dT,_,rfl,t1,fF,B.g,B.r,B.e,B.xs,B.n,B.kvs,rfl,hB1.tab,q H1 s1⟩
inductive a0j(CS CB CT:Addr)(vs:List V)(H:Hp)(Q:VK)(E:XK):Prop
 |mk (s bd ch fi dx:Addr) (kb:List (aD×V)) (nm:Str) (B:BM):vs= [.ref s,.str nm] ->H s=some (.ins CS dx (eB bd ch fi))->H bd=some (.dK kb)->Nl nm->bC kb (.inr nm:aD)=some (.ref B.b)->dD CB CT H B->(∀H' l,aB H H'->H l=none->H' l=some (.lst (B.ord.map V.str))->Q (.ref l) H')->a0j CS CB CT vs H Q E
theorem a4y:bD ["self","table"] ["self","table"] (aS a04):={}
theorem b00(T:aX K mg)(Y:dA K mg CS)(W:cO K mg CB):aQ P w K mg af aN 3 CS "columns" ["self","table"] (a0j CS CB CT):=by
 have G_of:aQ P w K mg af aN 2 CS "board_of" ["self","table"] (kH CS CB CT):=lV T Y;refine Y.m_columns.known a4y (λ_ _ _ _ _ _ us hl=>dI (λ_ _=>rfl) us hl) (λf ah A ag s H vs Q E hr h=> ?_)
 ·obtain⟨s',bd,ch,fi,dx,kb,nm,B,rfl,h1,h2,hn,hv,hB,q⟩:=h
  refine⟨_,(aI (cC (jZ vA rfl T.list jC (aA (bB (bF (pv 0) Y.cl G_of hr aL (aA (pv 1) aC)) rfl) aC)))),?_⟩;refine⟨_,rfl,s',dx,_,rfl,h1,bY,_,rfl,s',bd,ch,fi,dx,kb,nm,_,rfl,h1,h2,hn,hv,λH1 s1=> ?_⟩;obtain⟨dB,b1⟩:=(hB.same s1).at_;exact⟨B.b,CB,dB,_,_,rfl,b1,W.cl,W.n_order,(dS _ _ _ _).2.2.2,B.od,_,rfl,.inl (aU.of (hB.same s1).ord),λl hl=>q _ l (s1.trans (aB.new hl)) (kG s1 hl) aG⟩
inductive zT(CS CB CT:Addr)(vs:List V)(H:Hp)(Q:VK)(E:XK):Prop
 |mk (s bd ch fi dx:Addr) (kb:List (aD×V)) (nm t:Str) (B:BM):vs= [.ref s,.str nm,.str t] ->H s=some (.ins CS dx (eB bd ch fi))->H bd=some (.dK kb)->Nl nm->bC kb (.inr nm:aD)=some (.ref B.b)->dD CB CT H B->Nl t->t∈B.ord->(∀H',aB H H'->Q (.bl (bC B.rus (.inr t:aD)).isSome) H')->zT CS CB CT vs H Q E
theorem a0S:bD ["self","table","column"] ["self","table","column"] (aS vF):={}
theorem b07(T:aX K mg)(Y:dA K mg CS)(W:cO K mg CB):aQ P w K mg af aN 4 CS "is_ruled" ["self","table","column"] (zT CS CB CT):=by
 have G_with:aQ P w K mg af aN 3 CS "board_with" ["self","table","column"] (oB CS CB CT):=sO T Y W;refine Y.m_is_ruled.known a0S (λ_ _ _ _ _ _ us hl=>eQ (λ_ _ _=>rfl) us hl) (λf ah A ag s H vs Q E hr h=> ?_)
 ·obtain⟨s',bd,ch,fi,dx,kb,nm,t,B,rfl,h1,h2,hn,hv,hB,ht,ho,q⟩:=h
  have hu:=eN hr;refine⟨_,(aI (cC (sZ (kE hu (pv 2) (bB (bF (pv 0) Y.cl G_with hr aL (aA (pv 1) (aA (pv 2) aC))) rfl))))),?_⟩;refine⟨_,rfl,_,rfl,s',dx,_,rfl,h1,bY,_,rfl,_,rfl,s',bd,ch,fi,dx,kb,nm,t,B,rfl,h1,h2,hn,hv,hB,ht,ho,λH1 s1=> ?_⟩;obtain⟨dB,b1⟩:=(hB.same s1).at_;exact⟨B.b,CB,dB,_,_,rfl,b1,W.cl,W.n_rules,(dS _ _ _ _).2.1,B.ru,_,rfl,cZ.k (k:=Sum.inr t) (hB.same s1).rul,q H1 s1⟩
end
abbrev bZ:=Str×Str
variable{gl:List My.bZ}
def N2(z:bZ):Prop:=Nl z.1/\Nl z.2
theorem N2.lay{z:bZ}(h:N2 z):(iW z).canLay0=true:=a0a h.1 h.2
theorem bR.upd:bR p H (upd H p o):=λb u n e=>by rw[aF n];exact e
def kS(z:bZ):List aD:=[.inr z.1,.inr z.2]
theorem b0H{z u:bZ}(h:kS z=kS u):z=u:=by
 obtain⟨a,b⟩:=z;obtain⟨c,d⟩:=u;simp only[kS,List.cons.injEq,Sum.inr.injEq,and_true]at h;rw[h.1,h.2]
def iJ(H:Hp)(v:V)(z:bZ):Prop:=∃a,v= .ref a/\H a=some (.tup [.str z.1,.str z.2])
theorem iJ.mapT{z:bZ}(k:∀a xs,H a=some (.tup xs)->H' a=some (.tup xs))(h:iJ H v z):iJ H' v z:=let ⟨a,e,g⟩:=h;⟨a,e,k _ _ g⟩
theorem iJ.same{z:bZ}(s:aB H H')(h:iJ H v z):iJ H' v z:=h.mapT λa xs e=>s _ _ e
theorem iJ.dt{z:bZ}(h:iJ H v z):Dt K H v (iW z):=by
 obtain⟨a,rfl,g⟩:=h;exact .tup (bS.of g) (.cons (.str _) (.cons (.str _) .nil))
def cS(H:Hp):List V->List bZ->Prop:=Paired (iJ H)
theorem cS.mapT{H H':Hp}(k:∀a xs,H a=some (.tup xs)->H' a=some (.tup xs)):∀{vs:List V} {zs:List bZ},cS H vs zs->cS H' vs zs
 |_,_,.nil=> .nil
 |_,_,.cons r t=> .cons (r.mapT k) (cS.mapT k t)
theorem cS.same{zs:List bZ}(s:aB H H')(h:cS H vs zs):cS H' vs zs:=h.mapT λa xs e=>s _ _ e
theorem cS.length{zs:List bZ}(h:cS H vs zs):vs.length=zs.length:=Paired.length h
theorem cS.at{H:Hp}:∀{vs:List V} {zs:List bZ} {i:Nat} {v:V},cS H vs zs->vs[i]?=some v->∃z,zs[i]?=some z/\iJ H v z
 |_,_,_,_,.nil,e=>by simp at e
 |_,_,0,_,.cons r _,e=>by simp at e;subst e;exact⟨_,rfl,r⟩
 |_,_,i+ 1,v,.cons _ t,e=>by
  obtain⟨z,h1,h2⟩:=cS.at (i:=i) (v:=v) t (by simpa using e);exact⟨z,by simpa using h1,h2⟩
theorem cS.snoc{H:Hp}{v:V}{z:bZ}(h:iJ H v z):∀{vs:List V} {zs:List bZ},cS H vs zs->cS H (vs++ [v]) (zs++ [z])
 |_,_,.nil=> .cons h .nil
 |_,_,.cons r t=> .cons r (cS.snoc h t)
theorem cS.dt{K:Fg}{H:Hp}:∀{vs:List V} {zs:List bZ},cS H vs zs->cL K H vs (zs.map iW)
 |_,_,.nil=> .nil
 |_,_,.cons r t=> .cons r.dt (cS.dt t)
theorem a9l(h:n<3000):n<sizeLine:=Nat.lt_trans h (by decide)
def gB(p q:Addr)(H H':Hp):Prop:=∀b o,b≠p->b≠q->H b=some o->H' b=some o
theorem gB.of(s:aB H H'):gB p q H H':=λb o _ _ e=>s b o e
theorem gB.trans(a:gB p q H H1)(b:gB p q H1 H2):gB p q H H2:=λc o n m e=>b c o n m (a c o n m e)
theorem gB.u1:gB p q H (upd H p o):=λb u n _ e=>by rw[aF n];exact e
theorem gB.u2:gB p q H (upd H q o):=λb u _ n e=>by rw[aF n];exact e
theorem a1Y{l:Addr}(s:aB H H')(h:H' l=none):H l=none:=by
 cases e:H l with
 |none=>rfl
 |some o=>rw[s l o e]at h;cases h
theorem a6K{κ:Type} [DecidableEq κ](kvs:List (κ×V))(k:κ)(y:V):(bH kvs k y).length<=kvs.length+ 1:=by
 unfold bH;split
 ·rw[List.length_map];omega
 ·rw[List.length_append];exact Nat.le_refl _
structure qG(H:Hp)(gd:Addr)(kvs:List (List aD×V))(adj:bZ->List bZ):Prop where
 d:H gd=some (.dT kvs)
 a:∀z,(bC kvs (kS z)=none/\adj z= [])\/ ∃l vs,bC kvs (kS z)=some (.ref l)/\H l=some (.lst vs)/\cS H vs (adj z)
 n:∀z,∀y∈adj z,N2 y
 l:∀z,(adj z).length<=100
theorem qG.same{gd:Addr}{kvs:List (List aD×V)}{adj:bZ->List bZ}(s:aB H H')(h:qG H gd kvs adj):qG H' gd kvs adj:=
 ⟨s _ _ h.d,λz=>(h.a z).imp id fun⟨l,vs,e1,e2,e3⟩=>⟨l,vs,e1,s _ _ e2,e3.same s⟩,h.n,h.l⟩
theorem a1M{α:Type} [DecidableEq α]:∀{l m:List α},l.Nodup->(∀x∈l,x∈m)->l.length<=m.length
 | [],_,_,_=>Nat.zero_le _
 |a::l,m,nd,h=>by
  rw[List.nodup_cons]at nd;have ih:=a1M (l:=l) (m:=m.erase a) nd.2 λx hx=>(List.mem_erase_of_ne (fun(e:x=a)=>nd.1 (e▸hx))).mpr (h x (List.mem_cons_of_mem _ hx))
  have:=List.length_erase_of_mem (h a aa);have:=List.length_pos_of_mem (h a aa);rw[List.length_cons];omega
def oW(nodes:List bZ)(cvs:List (List aD×V)):Prop:=(cvs.map (·.1)).Nodup/\∀k∈cvs.map (·.1),k∈nodes.map kS
theorem oW.len{nodes:List bZ}{cvs:List (List aD×V)}(h:oW nodes cvs):cvs.length<=nodes.length:=by
 have:=a1M h.1 h.2
 rwa [List.length_map,List.length_map]at this
theorem a2l{κ:Type} [DecidableEq κ]{k:κ}:∀{kvs:List (κ×V)},bC kvs k=none->k∉kvs.map (·.1)
 | [],_,h=>by cases h
 |x::r,e,h=>by
  by_cases y:x.1=k
  ·rw[iX y]at e;cases e
  ·rw[jI y]at e
   rw[List.map_cons]at h
   rcases List.mem_cons.mp h with h|h
   ·exact y h.symm
   ·exact a2l e h
theorem oW.put{nodes:List bZ}{cvs:List (List aD×V)}{y:bZ}(h:oW nodes cvs)(hy:y∈nodes)(e:bC cvs (kS y)=none):oW nodes (bH cvs (kS y) v)/\(bH cvs (kS y) v).length=cvs.length+ 1:=by
 rw[qU _ e];refine⟨⟨?_,λk hk=> ?_⟩,by rw[List.length_append];rfl⟩
 ·rw[List.map_append,List.nodup_append]
  exact⟨h.1,List.nodup_cons.mpr ⟨λh=>(by cases h),List.nodup_nil⟩,λa ha b hb z=>a2l e (by rw[<- show b=kS y from List.mem_singleton.mp hb,<- z];exact ha)⟩
 ·rw[List.map_append]at hk
  rcases List.mem_append.mp hk with hk|hk
  ·exact h.2 k hk
  ·rw[List.mem_singleton.mp hk]
   exact List.mem_map.mpr ⟨y,hy,rfl⟩
section
inductive a3q(K:Fg)(vs:List V)(H:Hp)(Q:VK)(E:XK):Prop
 |mk (gd:Addr) (v0:V) (kvs:List (List aD×V)) (adj:bZ->List bZ) (s:bZ) (nodes:List bZ):vs= [.ref gd,v0] ->qG H gd kvs adj->iJ H v0 s->N2 s->(∀x,∀y∈adj x,y∈nodes)->nodes.length<=100->s∉nodes->(∀H',aB H H'->Q .non H')->a3q K vs H Q E
structure rH(H0 H:Hp)(cd fl:Addr)(nodes:List bZ)(n:Nat)(cvs:List (List aD×V))(fvs:List V)(fz:List bZ):Prop where
 s:aB H0 H
 c:H cd=some (.dT cvs)
 f:H fl=some (.lst fvs)
 z:cS H fvs fz
 k:oW nodes cvs
 n:cvs.length=n+ fvs.length
theorem rH.same{cd fl:Addr}{nodes:List bZ}{cvs:List (List aD×V)}{fvs:List V}{fz:List bZ}(s:aB H H')(h:rH H0 H cd fl nodes n cvs fvs fz):rH H0 H' cd fl nodes n cvs fvs fz:=⟨h.s.trans s,s _ _ h.c,s _ _ h.f,h.z.same s,h.k,h.n⟩
theorem pB:bD ["leanings","spot","came_from","waiting","farther","leaning","leant"] ["leanings","spot"] (aS a4w):={}
theorem a7I(T:aX K mg):cT P w K mg af aN 2 "ring_from" ["leanings","spot"] (a3q K):=by
 refine T.d_ring_from.known pB (λ_ _ _ _ _ _ us hl=>dI (λ_ _=>rfl) us hl) (λf ah A ag s H vs Q E hr h=> ?_)
 ·obtain⟨gd,v0,kvs,adj,z,nodes,rfl,hG,h0,hzN,hnodes,h100,hns,q⟩:=h
  have hu:=eN hr
  refine⟨_,(aJ (cD (i:=2) pB.nd rfl (Or.inl rfl) uZ)
   (aJ (cD (i:=3) pB.nd rfl (Or.inl rfl) (dQ (aA (pv 1) aC)))
   (aJ (a5h PassesOwn.never (a2W (pv 3) (λ_=>rfl)) (aJ (cD (i:=4) pB.nd rfl (Or.inl rfl) (dQ aC))
   (aJ (jQ PassesOwn.never rfl (kB (pv 3)) (fO (i:=5) pB.nd rfl (Or.inl rfl)) (aI (jQ PassesOwn.never rfl (kB (a7z hu (pv 0) (pv 5) (dQ aC) ⟨rfl,rfl,rfl,rfl⟩)) (fO (i:=6) pB.nd rfl (Or.inl rfl))
   (aJ (bO (cK (wU hr.units) (pv 6) (pv 1) (cN _)) (aI bP) bW)
   (aI (bO (iY (mR hu (pv 6) (pv 2))) (aJ (mP hu (pv 2) (pv 6) (pv 5) rfl) (aI (bT (jS F.plainAttrs_list F.slot_list_append F.type_list_append jJ (pv 4) (aA (pv 6) aC))))) bW))))))
   (aI (cD (i:=3) pB.nd rfl (Or.inl rfl) (pv 4))))))
   (aI (cC iD))))),?_⟩
  intro cd hcd;have s1:=aB.new (o:=.dT []) hcd;have hc1:=aG (H:=H) (a:=cd) (o:=.dT [])
  generalize upd H cd (.dT [])=H1 at s1 hc1|-
  refine⟨_,rfl,sl,λwl hwl=> ?_⟩;have s2:=aB.new (o:=.lst [v0]) hwl
  let Wf:Nat->St->Hp->Prop:=λm σ H2=>∃(wz:List bZ) (cvs:List (List aD×V)) (wl:Addr) (wvs:List V) (o4 o5 o6:Option V),σ= [some (.ref gd),some v0,some (.ref cd),some (.ref wl),o4,o5,o6] /\m=2* (nodes.length- cvs.length)+ (if wvs= [] then 0 else 1)/\aB H H2/\H2 cd=some (.dT cvs)/\oW nodes cvs/\H2 wl=some (.lst wvs)/\cS H2 wvs wz/\H wl=none
  refine⟨Wf,⟨_,[z],[],wl,[v0],_,_,_,rfl,rfl,s1.trans s2,s2 _ _ hc1,⟨List.nodup_nil,λk hk=>by cases hk⟩,aG,.cons (h0.same (s1.trans s2)) .nil,a1Y s1 hwl⟩,?_⟩;clear hwl s2 wl;rintro m σ H2 ⟨wz,cvs,wl,wvs,o4,o5,o6,rfl,hm,sH2,hc2,ck,hw2,hz2,hwl⟩;refine⟨_,rfl,_,.inl ⟨wvs,aU.of hw2,rfl⟩,?_⟩;refine dJ (λg=> ?_) (λg=> ?_)
  rotate_left
  ·exact q H2 sH2
  have hwz:wvs≠ []:=λe=>by
   rw[e]at g;cases g
  rw[if_neg hwz]at hm;refine⟨λσ' H'=>∃m',m'<m/\Wf m' σ' H',λσ' H' h=>h,?_⟩;refine⟨sl,λfl hfl=> ?_⟩;have s3:=aB.new (o:=.lst []) hfl;have A3:rH H (upd H2 fl (.lst [])) cd fl nodes cvs.length cvs [] []:=⟨sH2.trans s3,s3 _ _ hc2,aG,.nil,ck,rfl⟩;have hw3:=s3 _ _ hw2;have hz3:=hz2.same s3;have ncf:cd≠fl:=bE hc2 hfl;have nwf:wl≠fl:=bE hw2 hfl;have nwc:wl≠cd:=jG hw2 hc2 (λz=>by cases z);have hfl0:H fl=none:=a1Y sH2 hfl
  generalize upd H2 fl (.lst [])=H3 at A3 hw3 hz3|-
  refine⟨_,rfl,wl,rfl,⟨_,aU.of hw3⟩,?_⟩;refine pZ (K:=K) (a:=wl) (xs:=wvs) (λi σ H4=>∃(fz:List bZ) (cvs':List (List aD×V)) (fvs:List V) (o5 o6:Option V),σ= [some (.ref gd),some v0,some (.ref cd),some (.ref wl),some (.ref fl),o5,o6] /\gB cd fl H3 H4/\rH H H4 cd fl nodes cvs.length cvs' fvs fz)
   ⟨[],cvs,[],_,_,rfl,gB.of (aB.refl _),A3⟩ (by rintro i σ H4 _ ⟨_,_,_,_,_,_,b4,_⟩;exact aU.of (b4 _ _ nwc nwf hw3)) ?_ ?_
  ·rintro i x σ H4 hx ⟨fz,cvs',fvs,o5,o6,rfl,b4,A4⟩
   obtain⟨xz,hxz,hxs⟩:=hz3.at hx;have tup34:∀a xs,H3 a=some (.tup xs)->H4 a=some (.tup xs):=λa xs e=>b4 _ _ (jG e A3.c (λz=>by cases z)) (jG e A3.f (λz=>by cases z)) e
   have hx4:=hxs.mapT tup34;have hG4:=hG.same A4.s;obtain⟨ax,rfl,hax⟩:=hx4;refine⟨_,rfl,gd,rfl,.inr ⟨kvs,.inl hG4.d⟩,_,rfl,sl,λdl hdl=> ?_⟩;have s5:=aB.new (o:=.lst []) hdl;have hdl5:=aG (H:=H4) (a:=dl) (o:=.lst []);have A5:=A4.same s5;have b5:gB cd fl H3 (upd H4 dl (.lst [])):=b4.trans (gB.of s5);have ndc:dl≠cd:=λe=>by rw[e,A4.c]at hdl;cases hdl
   have ndf:dl≠fl:=λe=>by rw[e,A4.f]at hdl;cases hdl
   have hG5:=hG4.same s5;have hax5:=s5 _ _ hax
   generalize upd H4 dl (.lst [])=H5 at s5 hdl5 A5 b5 hG5 hax5|-
   obtain⟨la,avs,hget,hla,hSa,nlc,nlf⟩:∃(la:Addr) (avs:List V),(bC kvs (kS xz)).getD (.ref dl)= .ref la/\H5 la=some (.lst avs)/\cS H5 avs (adj xz)/\la≠cd/\la≠fl:=by
    rcases hG.a xz with⟨e1,e2⟩|⟨l,vs,e1,e2,e3⟩
    ·exact⟨dl,[],by rw[e1];rfl,hdl5,by rw[e2];exact .nil,ndc,ndf⟩
    ·have hs:=A5.s
     exact⟨l,vs,by rw[e1];rfl,hs _ _ e2,e3.same hs,bE e2 hcd,bE e2 hfl0⟩
   refine⟨_,cZ.t (k:=kS xz) hG5.d hax5,?_⟩;refine⟨la,hget,⟨_,aU.of hla⟩,?_⟩;refine pZ (K:=K) (a:=la) (xs:=avs) (λj σ H6=>∃(fz2:List bZ) (cvs2:List (List aD×V)) (fvs2:List V) (o6:Option V),σ= [some (.ref gd),some v0,some (.ref cd),some (.ref wl),some (.ref fl),some (.ref ax),o6] /\gB cd fl H5 H6/\rH H H6 cd fl nodes cvs.length cvs2 fvs2 fz2)
    ⟨fz,cvs',fvs,_,rfl,gB.of (aB.refl _),A5⟩ (by rintro j σ H6 _ ⟨_,_,_,_,_,b6,_⟩;exact aU.of (b6 _ _ nlc nlf hla)) ?_ ?_
   ·have hc5:=A5.c
    have hf5:=A5.f;clear A4 A5;rintro j y σ H6 hy ⟨fz2,cvs2,fvs2,o6,rfl,b6,A6⟩;obtain⟨yz,hyz,hys⟩:=hSa.at hy;have tup56:∀a xs,H5 a=some (.tup xs)->H6 a=some (.tup xs):=λa xs e=>b6 _ _ (jG e hc5 (λz=>by cases z)) (jG e hf5 (λz=>by cases z)) e
    have hy6:=hys.mapT tup56;have h06:=h0.same A6.s;have hyz':yz∈adj xz:=List.mem_of_getElem? hyz;have hya:yz∈nodes:=hnodes xz yz hyz';have hyN:=hG.n xz yz hyz';refine⟨_,rfl,_,rfl,_,_,hy6.dt,h06.dt,hyN.lay,hzN.lay,(show max 0 (max 0 0)+ 1<=64 by decide),_,rfl,?_⟩;rw[a3P];refine dJ (λg1=> ?_) (λg1=> ?_)
    ·have g1:yz=z:=by simpa using g1
     exact absurd (g1▸hya) hns
    ·obtain⟨ay,rfl,hay⟩:=hy6
     refine⟨_,rfl,_,rfl,cd,_,rfl,cZ.t (k:=kS yz) A6.c hay,_,rfl,?_⟩;have l6:=A6.k.len;have n6:=A6.n
     cases hv:bC cvs2 (kS yz)with
     |none=>
      refine cB ⟨_,rfl,_,rfl,_,rfl,cd,_,rfl,kP.t (k:=kS yz) A6.c hay (a9l (by omega)),?_⟩;have s7:aB H (upd H6 cd (.dT (bH cvs2 (kS yz) (.ref ax)))):=A6.s.on hcd
      have hf7:upd H6 cd (.dT (bH cvs2 (kS yz) (.ref ax))) fl=some (.lst fvs2):=by rw[aF ncf.symm];exact A6.f
      have tup67:∀a xs,H6 a=some (.tup xs)->upd H6 cd (.dT (bH cvs2 (kS yz) (.ref ax))) a=some (.tup xs):=λa xs e=>by rw[aF (jG e A6.c (λz=>by cases z))];exact e
      have hc7:=aG (H:=H6) (a:=cd) (o:=.dT (bH cvs2 (kS yz) (.ref ax)));have b7:gB cd fl H5 (upd H6 cd (.dT (bH cvs2 (kS yz) (.ref ax)))):=b6.trans gB.u1
      generalize upd H6 cd (.dT (bH cvs2 (kS yz) (.ref ax)))=H7 at s7 hf7 tup67 hc7 b7|-
      refine⟨_,rfl,.inl ⟨rfl,_,aU.of hf7⟩,_,rfl,fl,_,_,rfl,rfl,hf7,fU (by omega),?_⟩;have tup78:∀a xs,H7 a=some (.tup xs)->upd H7 fl (.lst (fvs2++ [.ref ay])) a=some (.tup xs):=λa xs e=>by rw[aF (jG e hf7 (λz=>by cases z))];exact e
      have tup68:=λa xs e=>tup78 a xs (tup67 a xs e)
      obtain⟨ck8,l8⟩:=A6.k.put (v:=.ref ax) hya hv;exact⟨fz2++ [yz],bH cvs2 (kS yz) (.ref ax),fvs2++ [.ref ay],_,rfl,b7.trans gB.u2,⟨s7.on hfl0,by rw[aF ncf];exact hc7,aG,(A6.z.mapT tup68).snoc ⟨ay,rfl,tup68 _ _ hay⟩,ck8,by rw[List.length_append,l8];show _=_+ (fvs2.length+ 1);omega⟩⟩
     |some u=>exact bU ⟨fz2,cvs2,fvs2,_,rfl,b6,A6⟩
   ·rintro σ H6 ⟨fz2,cvs2,fvs2,o6,rfl,b6,A6⟩
    exact⟨fz2,cvs2,fvs2,_,_,rfl,b5.trans b6,A6⟩
  ·rintro σ H4 ⟨fz,cvs',fvs,o5,o6,rfl,b4,A4⟩
   refine⟨_,rfl,_,?_,fz,cvs',fl,fvs,_,_,_,rfl,rfl,A4.s,A4.c,A4.k,A4.f,A4.z,hfl0⟩;have l4:=A4.k.len;have n4:=A4.n;rw[hm];by_cases e:fvs= []
   ·rw[if_pos e]
    rw[e]at n4;have n4:cvs'.length=cvs.length+ 0:=n4;omega
   ·rw[if_neg e]
    have:0<fvs.length:=List.length_pos_iff.mpr e;omega
inductive a4i(K:Fg)(vs:List V)(H:Hp)(Q:VK)(E:XK):Prop
 |mk (p C dx:Addr) (fs:List (Str×V)) (v:V):vs= [.ref p,v] ->H p=some (.ins C dx fs)->dC K C->cA K C "function" ->fs.length<1000->Q .non (upd H p (.ins C dx (aM "function" v fs)))->a4i K vs H Q E
theorem a5O:bD ["self","function"] ["self","function"] (aS a4x):={}
theorem tI(T:aX K mg)(Y:lB K mg C):aQ P w K mg af aN 1 C "__init__" ["self","function"] (a4i K):=by
 refine Y.m_init.known a5O (λ_ _ _ _ _ _ us hl=>dI (λ_ _=>rfl) us hl) (λf ah A ag s H vs Q E hr h=> ?_)
 ·obtain⟨p,C',dx,fs,v,rfl,hp,hC,hN,hl,q⟩:=h
  refine⟨_,(aI (cJ (pv 0) (pv 1) rfl)),?_⟩;exact⟨_,rfl,_,rfl,p,C',dx,fs,rfl,hp,hC,hN,hl,q⟩
def kZ(nl fa:Addr):List (Str×V):=[("function",V.ref fa),("names",V.ref nl)]
theorem a8z(nl fa:Addr):(kZ nl fa).lookup ("function":Str)=some (.ref fa)/\(kZ nl fa).lookup ("names":Str)=some (.ref nl)/\(kZ nl fa).lookup ("leans":Str)=none/\(kZ nl fa).lookup ("gather":Str)=none/\(kZ nl fa).lookup ("reckon":Str)=none:=⟨rfl,rfl,rfl,rfl,rfl⟩
inductive sV(K:Fg)(C:Addr)(vs:List V)(H:Hp)(Q:VK)(E:XK):Prop
 |mk (p dx a fa:Addr) (zs:List Str):vs= [.ref p,.ref a,.ref fa] ->H p=some (.ins C dx [])->aU K H a (zs.map V.str)->a≠p->zs.length<=6->(∀z∈zs,Nl z)->(∀H' nl,bR p H H'->H nl=none->H' p=some (.ins C dx (kZ nl fa))->H' nl=some (.lst (zs.map V.str))->Q .non H')->sV K C vs H Q E
theorem a9D:bD ["self","names","function"] ["self","names","function"] (aS a2p):={}
theorem rZ(T:aX K mg)(Z:lB K mg R)(Y:nM K mg C):fX P w K mg af aN 4 C ["self","names","function"] (sV K C):=by
 refine(Y.m_init.known a9D (λ_ _ _ _ _ _ us hl=>eQ (λ_ _ _=>rfl) us hl) (λf ah A ag s H vs Q E hr h=> ?_)).init Y.mks Y.kc
 ·obtain⟨p,dx,a,fa,zs,rfl,hp,hS,nap,z6,hz,q⟩:=h
  refine⟨_,(aJ (bT (rW (gC Z.c) Z.v_init (tI T Z) hr.mn aL (aA (pv 0) (aA (pv 2) aC))))
   (aI (cJ (pv 0) (bI (a0l T) hr aL (aA (pv 1) aC)) rfl))),?_⟩
  refine⟨_,rfl,_,rfl,p,C,dx,[],.ref fa,rfl,hp,Y.cl,Y.n_function,by decide,?_⟩;have b1:bR p H (upd H p (.ins C dx (aM "function" (.ref fa) []))):=bR.upd;have p1:upd H p (.ins C dx (aM "function" (.ref fa) [])) p=some (.ins C dx (aM "function" (.ref fa) [])):=aG;have n1:∀{b:Addr},upd H p (.ins C dx (aM "function" (.ref fa) [])) b=none->H b=none/\b≠p:=fA
  generalize upd H p (.ins C dx (aM "function" (.ref fa) []))=H1 at b1 p1 n1|-
  have hS1:aU K H1 a (zs.map V.str):=by
   rcases hS with(h|⟨o,h⟩)|h
   ·exact .inl (.inl (b1 _ _ nap h))
   ·exact .inl (.inr ⟨o,b1 _ _ nap h⟩)
   ·exact .inr h
  refine⟨_,rfl,a,zs,rfl,hS1,z6,hz,λH2 nl s2 hnl h2=> ?_⟩;obtain⟨hn0,nnp⟩:=n1 hnl;refine⟨_,rfl,p,C,dx,_,rfl,s2 _ _ p1,Y.cl,Y.n_names,(by show 1<1000;decide),?_⟩;exact q _ nl ((b1.trans (bR.of s2)).trans bR.upd) hn0 aG (by rw[aF nnp];exact h2)
inductive a4k(vs:List V)(H:Hp)(Q:VK)(E:XK):Prop
 |mk (a:Addr) (xs:List V) (zs:List bZ):vs= [.ref a] ->H a=some (.lst xs)->cS H xs zs->(∀z∈zs,N2 z)->zs.length<=100->(∀H' l ys,aB H H'->H l=none->H' l=some (.lst ys)->cS H' ys (eF zs)->Q (.ref l) H')->a4k vs H Q E
theorem vD(T:aX K mg):cT P w K mg af aN 2 "each_once" ["spots"] a4k:=by
 refine T.d_each_once.known a0F (λ_ _ _ _ _ _ us hl=>fG (λ_=>rfl) us hl) (λf ah A ag s H vs Q E hr h=> ?_)
 ·obtain⟨a,xs,ps,rfl,ha,hsp,hN,h100,q⟩:=h
  refine⟨_,(aJ (cD (i:=1) a0F.nd rfl (Or.inl rfl) (dQ aC))
   (aJ (jQ PassesOwn.never rfl (kB (pv 0)) (fO (i:=2) a0F.nd rfl (Or.inl rfl)) (aI (bO (cK (b1e hr.units) (pv 2) (pv 1) (by with_unfolding_all rfl)) (aI (bT (jS F.plainAttrs_list F.slot_list_append F.type_list_append jJ (pv 1) (aA (pv 2) aC)))) bW)))
   (aI (cC (pv 1))))),?_⟩
  have hq:aU K H a xs:=aU.of ha;have hlx:xs.length=ps.length:=hsp.length;refine⟨sl,λl hl=> ?_⟩;refine⟨_,rfl,a,rfl,⟨_,(aB.new hl).seq hq⟩,?_⟩;refine pZ (K:=K) (a:=a) (xs:=xs) (λi σ H2=>∃o ys,σ= [some (.ref a),some (.ref l),o] /\aB H H2/\H2 l=some (.lst ys)/\cS H ys (eF (ps.take i))) ⟨_,[],rfl,aB.new hl,aG,.nil⟩ (λi σ H2 _ ⟨_,_,_,s2,_⟩=>s2.seq hq) ?_ ?_
  ·rintro i x σ H2 hx ⟨o,ys,rfl,s2,h2,hd⟩
   obtain⟨p,e,hp2⟩:=hsp.at hx;have hp:=List.mem_of_getElem? e;have hle:=hd.length
   have hyl:ys.length<=100:=by
    have h3:=a5N (ps.take i);rw[List.length_take]at h3;omega
   have lay2:(PyData.list ((eF (ps.take i)).map iW)).canLay0=true:=a45 λp' hp'=>hN p' (List.mem_of_mem_take (a8J hp'))
   have et:eF (ps.take (i+ 1))=if p∈eF (ps.take i) then eF (ps.take i) else eF (ps.take i)++ [p]:=by
    rw[List.take_add_one,e];exact a7n _ _
   refine⟨_,rfl,_,rfl,iW p,_,(iJ.dt hp2).same s2,Dt.lst (aU.of h2) (cL.same s2 (cS.dt hd)),a0a (hN p hp).1 (hN p hp).2,lay2,(show max 0 (max 0 0)+ 1<=62 by decide),_,rfl,?_⟩;rw[a3S];by_cases hm:p∈eF (ps.take i)
   ·rw[decide_eq_true hm]
    rw[if_pos hm]at et;exact bU ⟨_,ys,rfl,s2,h2,by rw[et];exact hd⟩
   ·rw[decide_eq_false hm]
    rw[if_neg hm]at et;refine cB ?_;refine⟨_,rfl,.inl ⟨rfl,_,aU.of h2⟩,_,rfl,l,_,_,rfl,rfl,h2,fU (by omega),?_⟩;have s3:aB H (upd H2 l (.lst (ys++ [x]))):=s2.on hl;refine⟨_,ys++ [x],rfl,s3,aG,?_⟩;rw[et];exact hd.snoc hp2
  ·rintro σ H2 ⟨o,ys,rfl,s2,h2,hd⟩
   refine⟨_,rfl,q H2 l ys s2 hl h2 ?_⟩;rw[hlx,List.take_length]at hd;exact hd.same s2
inductive pC(C:Addr)(vs:List V)(H:Hp)(Q:VK)(E:XK):Prop
 |mk (p dx nl fa:Addr) (t:Str) (zs:List Str):vs= [.ref p,.str t] ->H p=some (.ins C dx (kZ nl fa))->H nl=some (.lst (zs.map V.str))->zs.length<=6->(∀z∈zs,Nl z)->Nl t->(∀H' l ys,aB H H'->H l=none->H' l=some (.lst ys)->cS H' ys (eF (zs.map λz=>(t,z)))->Q (.ref l) H')->pC C vs H Q E
theorem a9X:bD ["self","table"] ["self","table"] (aS tD):={}
theorem xY(T:aX K mg)(Y:nM K mg C):aQ P w K mg af aN 3 C "leans" ["self","table"] (pC C):=by
 refine Y.m_leans.known a9X (λ_ _ _ _ _ _ us hl=>dI (λ_ _=>rfl) us hl) (λf ah A ag s H vs Q E hr h=> ?_)
 ·obtain⟨p,dx,nl,fa,t,zs,rfl,h1,h4,h6,h5,ht,q⟩:=h
  have hcl:∀x,(fV aN P w K mg af ["self","table"] "Cells.leans" (aS tD) f ah A ag s H E).nox.env.scope.names.lookup x=some .cell->∃c,(fV aN P w K mg af ["self","table"] "Cells.leans" (aS tD) f ah A ag s H E).nox.env.cells.lookup x=some c:=λx hx=>Option.isSome_iff_exists.mp (W.cellsFrom_some _ _ _ (.inl hx))
  refine⟨_,(aI (cC (bI (vD T) hr.mn aL (aA (rD (rY (sc:=aS tD) (N:=["self","table"]) (cp:=[(1,"table")]) hcl) rfl rfl (by decide) (kB (bB (pv 0) rfl)) (λ_ _ _ _ _=>oM) (λ_ _ _ _ _=>(dU (aA (pv 1) (aA (pv 0) aC))))) aC)))),?_⟩;refine⟨_,rfl,p,C,dx,_,_,rfl,h1,Y.cl,Y.n_names,(a8z nl fa).2.1,nl,rfl,⟨_,aU.of h4⟩,λD hD=> ?_⟩;refine tW (K:=K) (a:=nl) (xs:=zs.map V.str) (λi ys H2=>aB H H2/\cS H2 ys ((zs.take i).map λz=>(t,z))) ⟨aB.new hD,.nil⟩ (by rintro i ys H2 _ ⟨s2,_⟩;exact aU.of (s2 _ _ h4)) ?_ ?_
  ·rintro i x ys H2 hx h2D ⟨s2,hd⟩
   rw[List.getElem?_map]at hx
   cases e:zs[i]? with
   |none=>rw[e]at hx;cases hx
   |some z=>
    rw[e]at hx;cases hx;have hi:i<zs.length:=(List.getElem?_eq_some_iff.mp e).1
    have hyl:ys.length<=6:=by
     have:=hd.length;rw[List.length_map,List.length_take]at this;omega
    refine⟨_,rfl,_,rfl,sl,λtp htp=> ?_⟩;have s3:aB H2 (upd H2 tp (.tup [.str t,.str z])):=aB.new htp;have t3:upd H2 tp (.tup [.str t,.str z]) tp=some (.tup [.str t,.str z]):=aG
    generalize upd H2 tp (.tup [.str t,.str z])=H3 at s3 t3|-
    have h3D:=s3 _ _ h2D;refine⟨h3D,fU (by omega),(s2.trans s3).on hD,?_⟩;have kt:∀a xs,H3 a=some (.tup xs)->upd H3 D (.lst (ys++ [.ref tp])) a=some (.tup xs):=λa xs e=>by
     rw[aF (λy=>by rw[y,h3D]at e;cases e)];exact e
    have et:((zs.take (i+ 1)).map λz=>(t,z))=((zs.take i).map λz=>(t,z))++ [(t,z)]:=by
     rw[List.take_add_one,e,List.map_append];rfl
    rw[et];exact((hd.same s3).mapT kt).snoc ⟨tp,rfl,kt _ _ t3⟩
  ·rintro ys H2 h2D ⟨s2,hd⟩
   rw[List.length_map,List.take_length]at hd;refine⟨D,ys,_,rfl,h2D,hd,λz hz=> ?_,by rw[List.length_map];omega,λH4 l' ys' s4 hl' h4' hs=> ?_⟩
   ·obtain⟨y,hy,rfl⟩:=List.mem_map.mp hz
    exact⟨ht,h5 y hy⟩
   ·exact q H4 l' ys' (s2.trans s4) (kG s2 hl') h4' hs
inductive xZ(CS CB CT:Addr)(vs:List V)(H:Hp)(Q:VK)(E:XK):Prop
 |mk (s bd ch fi dx l:Addr) (sv:V) (kb:List (aD×V)) (ys:List V) (zs:List bZ):vs= [.ref s,sv,.ref l] ->H s=some (.ins CS dx (eB bd ch fi))->H bd=some (.dK kb)->H l=some (.lst ys)->cS H ys zs->(∀z∈zs,N2 z/\∃B:BM,bC kb (.inr z.1:aD)=some (.ref B.b)/\dD CB CT H B/\z.2∈B.ord)->(∀H',aB H H'->Q .non H')->xZ CS CB CT vs H Q E
theorem nF:bD ["self","spot","leans","table","column","there"] ["self","spot","leans"] (aS a3e):={}
theorem a98(T:aX K mg)(Y:dA K mg CS)(W:cO K mg CB):aQ P w K mg af aN 3 CS "check_leans" ["self","spot","leans"] (xZ CS CB CT):=by
 have G_has:aQ P w K mg af aN 2 CB "has_column" ["self","column"] (sE CB CT):=zS T W;refine Y.m_check_leans.known nF (λ_ _ _ _ _ _ us hl=>eQ (λ_ _ _=>rfl) us hl) (λf ah A ag s H vs Q E hr h=> ?_)
 ·obtain⟨s',bd,ch,fi,dx,l,sv,kb,ys,zs,rfl,h1,h2,h3,hz,hb,q⟩:=h
  have hu:=eN hr
  refine⟨_,(aI (jQ PassesOwn.never rfl (kB (pv 2)) (sK rfl (lD (fO (i:=3) nF.nd rfl (Or.inl rfl)) (lD (fO (i:=4) nF.nd rfl (Or.inl rfl)) uB)))
   (aJ (cD (i:=5) nF.nd rfl (Or.inl rfl) (lM (sZ (kE hu (pv 3) (bB (pv 0) rfl))) (lE (bF (lL hu (bB (pv 0) rfl) (pv 3) (λ_ _=>rfl)) W.cl G_has hr aL (aA (pv 4) aC)))))
   (aI (bO (PW.pt (oQ (cU (cY (pv 5) (λ_=>rfl))) (pH (cK (a4R hr.units) (dU (aA (pv 3) (aA (pv 4) aC))) (pv 1) (cN _))))) (aI bP) bW))))),?_⟩
  refine⟨_,rfl,l,rfl,⟨_,aU.of h3⟩,?_⟩;refine pZ (K:=K) (a:=l) (xs:=ys) (λi σ H2=>∃o3 o4 o5,σ= [some (.ref s'),some sv,some (.ref l),o3,o4,o5] /\aB H H2) ⟨_,_,_,rfl,aB.refl _⟩ (by rintro i σ H2 _ ⟨_,_,_,_,s2⟩;exact aU.of (s2 _ _ h3)) ?_ ?_
  ·rintro i x σ H2 hx ⟨o3,o4,o5,rfl,s2⟩
   obtain⟨z,e,hz2⟩:=hz.at hx;obtain⟨a,rfl,ha⟩:=hz2.same s2;obtain⟨nz,B,b1,b2,b3⟩:=hb z (List.mem_of_getElem? e);have hB2:=b2.same s2;obtain⟨dB,hB⟩:=hB2.at_;refine⟨a,_,rfl,bS.of ha,rfl,_,_,rfl,_,_,rfl,rfl,?_⟩;refine⟨_,rfl,_,rfl,s',CS,dx,_,_,rfl,s2 _ _ h1,Y.cl,Y.n_boards,(iN _ _ _).1,bd,_,rfl,cZ.k (k:=Sum.inr z.1) (s2 _ _ h2),?_⟩;rw[b1];refine⟨_,rfl,cB ?_⟩;refine⟨_,rfl,s',CS,dx,_,_,rfl,s2 _ _ h1,Y.cl,Y.n_boards,(iN _ _ _).1,_,rfl,bd,_,rfl,b1▸cZ.k (k:=Sum.inr z.1) (s2 _ _ h2),B.b,dB,_,rfl,hB,mK,_,rfl,B,z.2,rfl,hB2,nz.2,λH3 s3=> ?_⟩;rw[decide_eq_true b3];exact⟨_,rfl,_,rfl,bU ⟨_,_,_,rfl,s2.trans s3⟩⟩
  ·rintro σ H2 ⟨o3,o4,o5,rfl,s2⟩
   exact q H2 s2
theorem tX{κ:Type} [DecidableEq κ]:∀{kvs:List (κ×V)} {kv:κ×V},(kvs.map (·.1)).Nodup->kv∈kvs->bC kvs kv.1=some kv.2
 | [],_,_,h=>by cases h
 |x::xs,kv,nd,h=>by
  rw[List.map_cons,List.nodup_cons]at nd;unfold bC
  rcases List.mem_cons.mp h with rfl|h
  ·simp[List.find?]
  ·have ne:¬x.1=kv.1:=λy=>nd.1 (y▸List.mem_map.mpr ⟨kv,h,rfl⟩)
   have ih:=tX nd.2 h;unfold bC at ih;rw[List.find?_cons_of_neg (by simpa using ne)];exact ih
def iF(H H':Hp):Prop:=∀b o,((∃C dx fs,o= .ins C dx fs)\/ ∃xs,o= .lst xs)->H b=some o->H' b=some o
theorem iF.of(s:aB H H'):iF H H':=λb o _ e=>s _ _ e
theorem iF.trans(a:iF H H1)(b:iF H1 H2):iF H H2:=λx o h e=>b _ _ h (a _ _ h e)
def kL(spl:Sp)(gr:Addr)(nm:Str)(ys:List bZ)(H:Hp):Prop:=∀(Hb:Hp) (Q':VK),iF H Hb->(∀H' l vs,aB Hb H'->Hb l=none->H' l=some (.lst vs)->cS H' vs ys->Q' (.ref l) H')->spl [.ref gr,.str nm] Hb Q' E0
theorem a0k{nm:Str}(h1:H gr=some (.ins C dx (kZ nl fa)))(h2:H nl=some (.lst (zs.map V.str)))(z6:zs.length<=6)(hz:∀z∈zs,Nl z)(ht:Nl nm):kL (pC C) gr nm (eF (zs.map λz=>(nm,z))) H:=
 λHb Q' k q=>⟨gr,dx,nl,fa,nm,zs,rfl,k _ _ (.inl ⟨_,_,_,rfl⟩) h1,k _ _ (.inr ⟨_,rfl⟩) h2,z6,hz,ht,q⟩
inductive oZ(CB CT bd:Addr)(RL:Addr->Sp->Prop)(gl:List bZ)(H:Hp)(kv:aD×V):Prop
 |mk (nm:Str) (B:BM):kv=((.inr nm:aD),V.ref B.b)->Nl nm->dD CB CT H B->bd≠B.ru->(B.rus.map (·.1)).Nodup->B.rus.length<=8->(∀rv∈B.rus,∃(c:Str) (gr dx CG:Addr) (spl:Sp) (fs:List (Str×V)) (ys:List bZ),RL CG spl/\rv=((.inr c:aD),V.ref gr)/\Nl c/\H gr=some (.ins CG dx fs)/\fs.lookup ("leans":Str)=none/\kL spl gr nm ys H/\(∀y∈ys,N2 y/\y∈gl)/\ys.length<=100)->oZ CB CT bd RL gl H kv
inductive zI(CS CB CT:Addr)(RL:Addr->Sp->Prop)(vs:List V)(H:Hp)(Q:VK)(E:XK):Prop
 |mk (s bd ch fi dx l:Addr) (sv:V) (kb:List (aD×V)) (ys:List V) (sp:bZ) (zs gl:List bZ):vs= [.ref s,sv,.ref l] ->H s=some (.ins CS dx (eB bd ch fi))->H bd=some (.dK kb)->(kb.map (·.1)).Nodup->kb.length<=4->H l=some (.lst ys)->cS H ys zs->(∀z∈zs,N2 z/\z∈gl)->zs.length<=100->iJ H sv sp->N2 sp->sp∉gl->gl.length<=100->(∀kv∈kb,oZ CB CT bd RL gl H kv)->(∀H',aB H H'->Q .non H')->zI CS CB CT RL vs H Q E
abbrev Ncr:List Str:=["self","spot","leans","leanings","table","rules","column","found"]
theorem pX:bD Ncr ["self","spot","leans"] (aS a06):={}
def jE(gl:List bZ)(n:Nat)(gd:Addr)(H:Hp):Prop:=∃kvs adj,qG H gd kvs adj/\(∀z,∀y∈adj z,y∈gl)/\kvs.length<=n
theorem jE.put{gd l:Addr}{z:bZ}{ys:List bZ}{kvs:List (List aD×V)}{adj:bZ->List bZ}(g:qG H gd kvs adj)(ha:∀z,∀y∈adj z,y∈gl)(hn:kvs.length<=n)(u:bR gd H H')(e:H' gd=some (.dT (bH kvs (kS z) (.ref l))))(hl:H l=some (.lst vs))(hs:cS H vs ys)(hy:∀y∈ys,N2 y/\y∈gl)(h100:ys.length<=100):jE gl (n+ 1) gd H':=by
 have k:∀{x:Addr} {o:HO},H x=some o->(∀y,o≠ .dT y)->H' x=some o:=λe2 n=>u _ _ (λy=>by rw[y,g.d]at e2;exact n _ (Option.some.inj e2).symm) e2
 have kt:∀a xs,H a=some (.tup xs)->H' a=some (.tup xs):=λa xs e2=>k e2 nk
 refine⟨bH kvs (kS z) (.ref l),λx=>if x=z then ys else adj x,⟨e,λx=> ?_,λx y hm=> ?_,λx=> ?_⟩,λx y hm=> ?_,Nat.le_trans (a6K _ _ _) (by omega)⟩
 ·rw[yF]
  by_cases h:x=z
  ·rw[if_pos (by rw[h])]
   exact .inr ⟨l,vs,rfl,k hl nk,by show cS H' vs (if x=z then ys else adj x);rw[if_pos h];exact hs.mapT kt⟩
  ·rw[if_neg (λy=>h (b0H y))]
   rcases g.a x with⟨a1,a2⟩|⟨l',vs',a1,a2,a3⟩
   ·exact .inl ⟨a1,by show(if x=z then ys else adj x)= [];rw[if_neg h];exact a2⟩
   ·exact .inr ⟨l',vs',a1,k a2 nk,by show cS H' vs' (if x=z then ys else adj x);rw[if_neg h];exact a3.mapT kt⟩
 ·have hm:y∈(if x=z then ys else adj x):=hm
  split at hm
  ·exact(hy y hm).1
  ·exact g.n x y hm
 ·show(if x=z then ys else adj x).length<=100
  split
  ·exact h100
  ·exact g.l x
 ·have hm:y∈(if x=z then ys else adj x):=hm
  split at hm
  ·exact(hy y hm).2
  ·exact ha x y hm
theorem jE.mv{gd:Addr}(u:∀b o,(∀y,o≠ .dK y)->(∀q y,o≠ .frz q y)->H b=some o->H' b=some o)(h:jE gl n gd H):jE gl n gd H':=by
 obtain⟨kvs,adj,g,h1,h2⟩:=h;exact⟨kvs,adj,⟨u _ _ nk (λ_ _ y=>by cases y) g.d,λz=>(g.a z).imp id fun⟨l,vs,e1,e2,e3⟩=>⟨l,vs,e1,u _ _ nk (λ_ _ y=>by cases y) e2,e3.mapT λa xs e=>u _ _ nk (λ_ _ y=>by cases y) e⟩,g.n,g.l⟩,h1,h2⟩
theorem a6H(T:aX K mg)(Y:dA K mg CS)(W:cO K mg CB)(hRL:∀C sp,RL C sp->dC K C/\aQ P w K mg af aN 3 C "leans" ["self","table"] sp):aQ P w K mg af aN 4 CS "check_ring" ["self","spot","leans"] (zI CS CB CT RL):=by
 refine Y.m_check_ring.known pX (λ_ _ _ _ _ _ us hl=>eQ (λ_ _ _=>rfl) us hl) (λf ah A ag s H vs Q E hr h=> ?_)
 ·obtain⟨s',bd,ch,fi,dx,l,sv,kb,ys,sp,zs,gl,rfl,h1,h2,nd,k4,h3,hz,hN,z100,hsv,nsp,hns,g100,hb,q⟩:=h
  have hu:=eN hr
  refine⟨_,(aJ (cD (i:=3) pX.nd rfl (Or.inl rfl) uZ)
   (aJ (a1K PassesOwn.never rfl (bB (pv 0) rfl) (fO (i:=4) pX.nd rfl (Or.inl rfl)) (aJ (cD (i:=5) pX.nd rfl (Or.inl rfl) (bB (lL hu (bB (pv 0) rfl) (pv 4) (λ_ _=>rfl)) rfl))
   (aI (a1K PassesOwn.never rfl (pv 5) (fO (i:=6) pX.nd rfl (Or.inl rfl)) (aI (mP hu (pv 3) (dU (aA (pv 4) (aA (pv 6) aC))) (yW (R:=RL) (lL hu (pv 5) (pv 6) (λ_ _=>rfl)) hRL hr aL (aA (pv 4) aC)) rfl))))))
   (aJ (mP hu (pv 3) (pv 1) (pv 2) rfl)
   (aJ (cD (i:=7) pX.nd rfl (Or.inl rfl) (bI (a7I T) hr.mn aL (aA (pv 3) (aA (pv 1) aC))))
   (aI (bO (cK a2T (pv 7) iD (cN _)) (aI bP) bW)))))),?_⟩
  intro gd hgd;have s1:=aB.new (o:=.dT []) hgd;have g1:upd H gd (.dT []) gd=some (.dT []):=aG
  generalize upd H gd (.dT [])=H1 at s1 g1|-
  have h2':=s1 _ _ h2;refine⟨_,rfl,s',CS,dx,_,_,rfl,s1 _ _ h1,Y.cl,Y.n_boards,(iN _ _ _).1,bd,_,rfl,h2',λnf ob=> ?_⟩;obtain⟨Hf,eHf⟩:∃Hf,Hf=upd H1 bd (.frz ob (.dK kb)):=⟨_,rfl⟩;rw[<- eHf]
  have hf:Hf bd=some (.frz ob (.dK kb)):=by rw[eHf,aG]
  have ngb:gd≠bd:=λy=>by rw[y,h2]at hgd;cases hgd
  have kf:∀{x:Addr} {o:HO},x≠bd->H1 x=some o->Hf x=some o:=λn e=>by rw[eHf,aF n];exact e
  have gf:Hf gd=some (.dT []):=kf ngb g1;have ins_f:iF H Hf:=λb o h e=>kf (λy=>by rw[y,h2]at e;rcases h with⟨_,_,_,rfl⟩|⟨_,rfl⟩<;>cases e) (s1 _ _ e)
  have gr0:jE gl 0 gd Hf:=⟨[],λ_=> [],⟨gf,λz=> .inl ⟨rfl,rfl⟩,λz y hy=>by{cases hy},λz=>Nat.zero_le _⟩,λz y hy=>by{cases hy},Nat.le_refl _⟩;refine a10 (a:=bd) (ob:=ob) (kvs:=kb) (λi σ H2=>(∃o4 o5 o6,σ= [some (.ref s'),some sv,some (.ref l),some (.ref gd),o4,o5,o6,none])/\bR gd Hf H2/\jE gl (8* i) gd H2) ⟨⟨_,_,_,rfl⟩,bR.of (aB.refl _),gr0⟩ (λi σ H2 _ ⟨_,b2,_⟩=>b2 _ _ ngb.symm hf) ?_ ?_
  ·rintro j pv' σ H2 hp ⟨⟨o4,o5,o6,rfl⟩,b2,gS⟩
   have hpm:=List.mem_of_getElem? hp;have hj:j<kb.length:=(List.getElem?_eq_some_iff.mp hp).1;obtain⟨nm,B,rfl,nnm,b1,nbr,ndr,r8,hrv⟩:=hb pv' hpm;have hv:bC kb (.inr nm:aD)=some (.ref B.b):=tX nd hpm;obtain⟨dB,e1⟩:=(b1.same s1).at_;have nb:B.b≠bd:=λy=>by rw[y,h2']at e1;cases e1
   have ns:s'≠bd:=λy=>by rw[y,h2]at h1;cases h1
   have ng:∀{x:Addr} {o:HO},Hf x=some o->(∀y,o≠ .dT y)->x≠gd:=λe n y=>by rw[y,gf]at e;exact n _ (Option.some.inj e).symm
   have up2:∀{x:Addr} {o:HO},Hf x=some o->(∀y,o≠ .dT y)->H2 x=some o:=λe n=>b2 _ _ (ng e n) e
   have eb:=up2 (kf nb e1) nk;have es:=up2 (kf ns (s1 _ _ h1)) nk;have er:=up2 (kf nbr.symm (b1.same s1).rul) nk;have bd2:=up2 hf nk;refine⟨_,rfl,s',CS,dx,_,_,rfl,es,Y.cl,Y.n_boards,(iN _ _ _).1,_,rfl,bd,_,rfl,.inl ⟨kb,.inr nm,.inr ⟨ob,bd2⟩,rfl,hv.symm⟩,B.b,CB,dB,_,_,rfl,eb,W.cl,W.n_rules,(dS _ _ _ _).2.1,?_⟩;refine⟨_,rfl,B.ru,_,rfl,er,λnf2 ob2=> ?_⟩;obtain⟨Hg,eHg⟩:∃Hg,Hg=upd H2 B.ru (.frz ob2 (.dK B.rus)):=⟨_,rfl⟩;rw[<- eHg]
   have hg:Hg B.ru=some (.frz ob2 (.dK B.rus)):=by rw[eHg,aG]
   have kg:∀{x:Addr} {o:HO},x≠B.ru->H2 x=some o->Hg x=some o:=λn e=>by rw[eHg,aF n];exact e
   have gSg:jE gl (8* j) gd Hg:=gS.mv λb o n1 n2 e=>kg (λy=>by rw[y,er]at e;exact n1 _ (Option.some.inj e).symm) e
   have gg:∃kvs,Hg gd=some (.dT kvs):=let ⟨kvs,_,g,_⟩:=gSg;⟨kvs,g.d⟩;obtain⟨kv0,gg0⟩:=gg;have ngr:B.ru≠gd:=λy=>by rw[y,gg0]at hg;cases hg
   have ins_g:iF H Hg:=λb o h e=>kg (λy=>by rw[y,b1.rul]at e;rcases h with⟨_,_,_,rfl⟩|⟨_,rfl⟩<;>cases e) (up2 (ins_f b o h e) (λy ey=>by rcases h with⟨_,_,_,rfl⟩|⟨_,rfl⟩<;>cases ey))
   refine a10 (a:=B.ru) (ob:=ob2) (kvs:=B.rus) (λi σ H3=>(∃o6,σ= [some (.ref s'),some sv,some (.ref l),some (.ref gd),some (.str nm),some (.ref B.ru),o6,none])/\bR gd Hg H3/\jE gl (8* j+ i) gd H3) ⟨⟨_,rfl⟩,bR.of (aB.refl _),gSg⟩ (λi σ H3 _ ⟨_,b3,_⟩=>b3 _ _ ngr hg) ?_ ?_
   ·rintro i rv σ H3 hr3 ⟨⟨o6,rfl⟩,b3,gS3⟩
    have hi:i<B.rus.length:=(List.getElem?_eq_some_iff.mp hr3).1;have hrm:=List.mem_of_getElem? hr3;obtain⟨c,gr,dg,CG,spl,fs,ys2,hRc,rfl,nc,hgr,hnl,le,hy2,y100⟩:=hrv rv hrm;have hvr:bC B.rus (.inr c:aD)=some (.ref gr):=tX ndr hrm;have ng3:∀{x:Addr} {o:HO},Hg x=some o->(∀y,o≠ .dT y)->H3 x=some o:=λe n=>b3 _ _ (λy=>by rw[y,gg0]at e;exact n _ (Option.some.inj e).symm) e
    have ins_3:iF H H3:=λb o h e=>ng3 (ins_g b o h e) (λy ey=>by rcases h with⟨_,_,_,rfl⟩|⟨_,rfl⟩<;>cases ey)
    refine⟨_,rfl,_,rfl,B.ru,_,rfl,.inl ⟨B.rus,.inr c,.inr ⟨ob2,ng3 hg nk⟩,rfl,hvr.symm⟩,CG,spl,gr,dg,fs,hRc,rfl,ins_3 _ _ (.inl ⟨_,_,_,rfl⟩) hgr,hnl,_,rfl,le H3 _ ins_3 λH4 l4 vs4 s4 hl4 h4 hs4=> ?_⟩;obtain⟨kvs,adj,G3,ha3,hn3⟩:=gS3;refine⟨_,rfl,_,rfl,_,rfl,sl,λtp htp=> ?_⟩;have s5:=aB.new (o:=.tup [V.str nm,kV ((Sum.inr c:aD),V.ref gr).fst]) htp;have t5:upd H4 tp (.tup [V.str nm,kV ((Sum.inr c:aD),V.ref gr).fst]) tp=some (.tup [.str nm,.str c]):=aG
    generalize upd H4 tp (.tup [V.str nm,kV ((Sum.inr c:aD),V.ref gr).fst])=H5 at s5 t5|-
    have s35:=s4.trans s5;have G5:=G3.same s35;refine⟨gd,_,rfl,.inr ⟨kvs,kS (nm,c),tp,G5.d,rfl,t5,fU (by omega),rfl⟩,?_⟩;have u6:bR gd H5 (upd H5 gd (.dT (bH kvs (kS (nm,c)) (.ref l4)))):=bR.upd;have e6:upd H5 gd (.dT (bH kvs (kS (nm,c)) (.ref l4))) gd=some (.dT (bH kvs (kS (nm,c)) (.ref l4))):=aG
    generalize upd H5 gd (.dT (bH kvs (kS (nm,c)) (.ref l4)))=H6 at u6 e6|-
    exact⟨⟨_,rfl⟩,λb o n e=>u6 _ _ n (s35 _ _ (b3 _ _ n e)),jE.put G5 ha3 hn3 u6 e6 (s5 _ _ h4) (hs4.same s5) hy2 y100⟩
   ·rintro σ H3 ⟨⟨o6,rfl⟩,b3,gS3⟩
    refine⟨B.ru,ob2,B.rus,nf2,b3 _ _ ngr hg,⟨_,_,_,rfl⟩,λb o n e=> ?_,?_⟩
    ·by_cases y:b=B.ru
     ·rw[y,aG]
      rw[y]at e;rw[b2 _ _ ngr e]at er;exact er.symm
     ·rw[aF y]
      exact b3 _ _ n (kg y (b2 _ _ n e))
    ·have m:jE gl (8* j+ B.rus.length) gd (upd H3 B.ru (.dK B.rus)):=gS3.mv λb o n1 n2 e=>by
      rw[aF (λy=>by rw[y,b3 _ _ ngr hg]at e;exact n2 _ _ (Option.some.inj e).symm)];exact e
     obtain⟨kvs,adj,x1,x2,x3⟩:=m;exact⟨kvs,adj,x1,x2,by omega⟩
  ·rintro σ H2 ⟨⟨o4,o5,o6,rfl⟩,b2,gS⟩
   have bd2:=b2 _ _ ngb.symm hf;refine⟨bd,ob,kb,nf,bd2,?_⟩;have b3:bR gd H1 (upd H2 bd (.dK kb)):=λb o n e=>by
    by_cases y:b=bd
    ·rw[y,aG]
     rw[y,h2']at e;exact e
    ·rw[aF y]
     exact b2 _ _ n (kf y e)
   have gS3:jE gl (8* kb.length) gd (upd H2 bd (.dK kb)):=gS.mv λb o n1 n2 e=>by
    rw[aF (λy=>by rw[y,bd2]at e;exact n2 _ _ (Option.some.inj e).symm)];exact e
   generalize upd H2 bd (.dK kb)=H3 at b3 gS3|-
   have s13:aB H H3:=λb o e=>b3 _ _ (bE e hgd) (s1 _ _ e)
   obtain⟨sa,rfl,hsa⟩:=hsv.same s13;obtain⟨kvs,adj,G3,ha3,hn3⟩:=gS3;refine⟨_,rfl,_,rfl,_,rfl,gd,_,rfl,.inr ⟨kvs,kS sp,sa,G3.d,rfl,hsa,fU (by omega),rfl⟩,?_⟩;have s4:aB H (upd H3 gd (.dT (bH kvs (kS sp) (.ref l)))):=s13.on hgd;have u4:bR gd H3 (upd H3 gd (.dT (bH kvs (kS sp) (.ref l)))):=bR.upd;have g4:upd H3 gd (.dT (bH kvs (kS sp) (.ref l))) gd=some (.dT (bH kvs (kS sp) (.ref l))):=aG
   generalize upd H3 gd (.dT (bH kvs (kS sp) (.ref l)))=H4 at s4 u4 g4|-
   obtain⟨kvs',adj',G4,ha4,_⟩:=jE.put G3 ha3 hn3 u4 g4 (s13 _ _ h3) (hz.same s13) hN z100;refine⟨_,rfl,_,rfl,gd,_,kvs',adj',sp,gl,rfl,G4,hsv.same s4,nsp,ha4,g100,hns,λH5 s5=> ?_⟩;exact⟨_,rfl,rfl,_,rfl,bU (q H5 (s4.trans s5))⟩
theorem kL.mv{spl:Sp}{nm:Str}{ys:List bZ}(k:iF H H')(h:kL spl gr nm ys H):kL spl gr nm ys H':=λHb Q' kb q=>h Hb Q' (k.trans kb) q
theorem oZ.same{kv:aD×V}(s:aB H H')(h:oZ CB CT bd RL gl H kv):oZ CB CT bd RL gl H' kv:=by
 obtain⟨nm,B,h1,h2,h3,h4,h5,h6,h7⟩:=h;refine⟨nm,B,h1,h2,h3.same s,h4,h5,h6,λrv hrv=> ?_⟩;obtain⟨c,gr,dx,CG,spl,fs,ys,e0,e1,e2,e3,e4,e5,e6,e7⟩:=h7 rv hrv;exact⟨c,gr,dx,CG,spl,fs,ys,e0,e1,e2,s _ _ e3,e4,e5.mv (iF.of s),e6,e7⟩
inductive oH(K:Fg)(CS CF CB CT:Addr)(RL:Addr->Sp->Prop)(vs:List V)(H:Hp)(Q:VK)(E:XK):Prop
 |mk (CG:Addr) (spl:Sp) (s bd ch gr dg:Addr) (cs:List V) (kb:List (aD×V)) (nm t:Str) (fs:List (Str×V)) (B:BM) (zs gl:List bZ):vs= [.ref s,.str nm,.str t,.ref gr] ->RL CG spl->wD CS s bd ch cs kb H->cs.length<900->Nl nm->bC kb (.inr nm:aD)=some (.ref B.b)->dD CB CT H B->B.sep->rR bd ch B->oS B t->Nl t->H gr=some (.ins CG dg fs)->fs.lookup ("leans":Str)=none->kL spl gr nm zs H->(∀z∈zs,N2 z/\z∈gl/\∃B':BM,bC kb (.inr z.1:aD)=some (.ref B'.b)/\dD CB CT H B'/\z.2∈B'.ord)->zs.length<=100->(nm,t)∉gl->gl.length<=100->(kb.map (·.1)).Nodup->kb.length<=4->(∀kv∈kb,oZ CB CT bd RL gl H kv)->B.rus.length<100->B.mes.length<100->B.ord.length<8->(∀H' fi fd lk c m,xP CS CF s bd ch fi fd lk (cs++ [.ref c]) kb H H'->H m=none->dD CB CT H' {B with rus:=bH B.rus (.inr t:aD) (.ref gr),mes:=bH B.mes (.inr t:aD) (.ref m),ord:=B.ord++ [t]} ->H' m=some (.dK [])->(∀x o,x≠s->x≠ch->x≠B.od->x≠B.ru->x≠B.me->H x=some o->H' x=some o)->Q .non H')->oH K CS CF CB CT RL vs H Q E
theorem oO:bD ["self","table","column","rule","board","leans"] ["self","table","column","rule"] (aS vO):={}
structure RIs(K:Fg)(C:Addr):Prop where
 cl:dC K C
 ty:∀{H:Hp} {a dx:Addr} {fs:List (Str×V)},H a=some (.ins C dx fs)->hZ K H (.ref a) (.ref C)
 isl:W.kitOne K (.ref C) (.type "list")=some false
theorem a0V(T:aX K mg)(Y:dA K mg CS)(Z:jF K mg CF)(W:cO K mg CB)(U:dE K mg CT)(C:qO K mg CC)(hRI:∀C sp,RL C sp->RIs K C)(hRL:∀C sp,RL C sp->dC K C/\aQ P w K mg af aN 3 C "leans" ["self","table"] sp):aQ P w K mg af aN 9 CS "rule" ["self","table","column","rule"] (oH K CS CF CB CT RL):=by
 have G_for:aQ P w K mg af aN 3 CS "board_for" ["self","table","column"] (wZ CS CB CT):=a3k T Y W;have G_cl:aQ P w K mg af aN 3 CS "check_leans" ["self","spot","leans"] (xZ CS CB CT):=a98 T Y W;have G_cr:aQ P w K mg af aN 4 CS "check_ring" ["self","spot","leans"] (zI CS CB CT RL):=a6H T Y W hRL;have G_make:aQ P w K mg af aN 8 CS "make" ["self","change"] (xL CS CF CC (sW CC CB CT (wF K CB CT))):=yD T Y Z C.cl (a1i a8f) (a2V T C W (a7G T W));refine Y.m_rule.known oO (λ_ _ _ _ _ _ us hl=>iH (λ_ _ _ _=>rfl) us hl) (λf ah A ag s H vs Q E hr h=> ?_)
 ·obtain⟨CG,spl,s',bd,ch,gr,dg,cs,kb,nm,t,fs,B,zs,gl,rfl,hRc,hS,cl,hn,hv,hB,sep,ss,new,ht,hgr,hnl,le,hzs,z100,ngl,g100,nd,k4,hbd,r100,m100,o8,q⟩:=h
  refine⟨_,(aJ (cD (i:=4) oO.nd rfl (Or.inl rfl) (bF (pv 0) Y.cl G_for hr.mn aL (aA (pv 1) (aA (pv 2) aC))))
   (aJ (cD (i:=5) oO.nd rfl (Or.inl rfl) (yW (R:=RL) (pv 3) hRL hr.mn aL (aA (pv 1) aC)))
   (aJ (bT (bF (pv 0) Y.cl G_cl hr.mn aL (aA (dU (aA (pv 1) (aA (pv 2) aC))) (aA (pv 5) aC))))
   (aJ (bT (bF (pv 0) Y.cl G_cr hr.mn aL (aA (dU (aA (pv 1) (aA (pv 2) aC))) (aA (pv 5) aC))))
   (aI (bT (bF (pv 0) Y.cl G_make hr aL (aA (eX (a4M T C) hr.mn C.c aL (aA (pv 4) (aA (pv 2) (aA (pv 3) aC)))) aC)))))))),?_⟩
  obtain⟨⟨dx,fi0,h1⟩,h2,h3⟩:=hS;refine⟨_,rfl,s',dx,_,rfl,h1,bY,_,rfl,_,rfl,s',bd,ch,fi0,dx,kb,nm,t,B,rfl,h1,h3,hn,hv,hB,ht,o8,λH1 s1=> ?_⟩;have Gr:=hRI _ _ hRc;refine⟨_,rfl,CG,spl,gr,dg,_,hRc,rfl,s1 _ _ hgr,hnl,_,rfl,le H1 _ (iF.of s1) λH2 l ys s2 hl h2l hsp=> ?_⟩;have s12:=s1.trans s2;refine⟨_,rfl,s',dx,_,rfl,s12 _ _ h1,bY,_,rfl,_,rfl,sl,λt1 ht1=> ?_⟩;have s3':=aB.new (o:=.tup [.str nm,.str t]) ht1;have tt1:upd H2 t1 (.tup [.str nm,.str t]) t1=some (.tup [.str nm,.str t]):=aG
  generalize upd H2 t1 (.tup [.str nm,.str t])=H3 at s3' tt1|-
  have s3:=s12.trans s3';refine⟨_,rfl,s',bd,ch,fi0,dx,l,.ref t1,kb,ys,zs,rfl,s3 _ _ h1,s3 _ _ h3,s3' _ _ h2l,hsp.same s3',λz hz=> ?_,λH4 s4=> ?_⟩
  ·obtain⟨n2,_,B',b1,b2,b3⟩:=hzs z hz
   exact⟨n2,B',b1,b2.same s3,b3⟩
  have s4':=s3.trans s4;refine⟨_,rfl,s',dx,_,rfl,s4' _ _ h1,bY,_,rfl,_,rfl,sl,λt2 ht2=> ?_⟩;have s5':=aB.new (o:=.tup [.str nm,.str t]) ht2;have tt2:upd H4 t2 (.tup [.str nm,.str t]) t2=some (.tup [.str nm,.str t]):=aG
  generalize upd H4 t2 (.tup [.str nm,.str t])=H5 at s5' tt2|-
  have s5:=s4'.trans s5';have s25:=(s3'.trans s4).trans s5';refine⟨_,rfl,s',bd,ch,fi0,dx,l,.ref t2,kb,ys,(nm,t),zs,gl,rfl,s5 _ _ h1,s5 _ _ h3,nd,k4,s25 _ _ h2l,hsp.same s25,λz hz=>⟨(hzs z hz).1,(hzs z hz).2.1⟩,z100,⟨t2,rfl,tt2⟩,⟨hn,ht⟩,ngl,g100,λkv hkv=>(hbd kv hkv).same s5,λH6 s6'=> ?_⟩;have s6:=s5.trans s6';refine⟨_,rfl,s',dx,_,rfl,s6 _ _ h1,bY,_,rfl,_,rfl,_,rfl,?_⟩;intro c dc hc hdc ne;refine⟨c,dc,B.b,gr,t,rfl,aG,λH7 b7 c7=>⟨rfl,?_⟩⟩;have s7:aB H H7:=λb o z=>b7 b o (bE (s6 _ _ z) hc) (by rw[aF (bE (s6 _ _ z) hc),aF (bE (s6 _ _ z) hdc)];exact s6 _ _ z)
  have hB7:=hB.same s7;have gr7:=s7 _ _ hgr;refine⟨s',c,bd,ch,fi0,dx,dc,cs,_,rfl,c7,(a0C _ _ _).2.2.2.1,c,dc,gr,B,t,rfl,c7,hB7,new,B,t,gr,CG,dg,_,rfl,hB7,sep,new,gr7,Gr.ty gr7,Gr.isl,r100,m100,by omega,λH8 m hm B8 m8 u8=> ?_⟩;have ho:=hB.ord;have hru:=hB.rul;have hme:=hB.mem;have k8:∀{x:Addr} {o:HO},H x=some o->x≠B.od->x≠B.ru->x≠B.me->H8 x=some o:=λe n1 n2 n3=>u8 _ _ n1 n2 n3 (s7 _ _ e)
  have ns4:=k8 h1 (λy=>by rw[y,ho]at h1;cases h1) (λy=>by rw[y,hru]at h1;cases h1) (λy=>by rw[y,hme]at h1;cases h1);have ch4:=k8 h2 ss.o (λy=>by rw[y,hru]at h2;cases h2) (λy=>by rw[y,hme]at h2;cases h2);refine⟨ns4,ch4,cl,λH9 fi fd lk df f1 f2 f3 nfl g1 g2 g3 g4 g5 u9=> ?_⟩;have nn:∀{x:Addr},H8 x=none->H x=none:=fun{x} e=>by
   cases e2:H x with
   |none=>rfl
   |some o=>
    by_cases y:x=B.od
    ·rw[y,B8.ord]at e;cases e
    ·by_cases y2:x=B.ru
     ·rw[y2,B8.rul]at e;cases e
     ·by_cases y3:x=B.me
      ·rw[y3,B8.mem]at e;cases e
      ·rw[k8 e2 y y2 y3]at e;cases e
  have hm0:H m=none:=kG s7 hm;have nm':m≠s'/\m≠ch:=⟨λy=>by{rw[y,h1]at hm0;cases hm0},λy=>by{rw[y,h2]at hm0;cases hm0}⟩;have nb:bd≠s'/\bd≠ch:=⟨λy=>by{rw[y,h1]at h3;cases h3},λy=>by{rw[y,h2]at h3;cases h3}⟩;exact q H9 fi fd lk c m ⟨⟨dx,g1⟩,g2,u9 _ _ nb.1 nb.2 (k8 h3 (λy=>by rw[y,ho]at h3;cases h3) ss.u ss.m),⟨df,g3⟩,g4,g5,nfl,nn f1,nn f2,nn f3⟩ hm0 (B8.off ⟨dx,bd,ch,fi0,ns4⟩ ch4 ss.r ss.o u9) (u9 _ _ nm'.1 nm'.2 m8) (λx o n1 n2 n3 n4 n5 e=>u9 _ _ n1 n2 (k8 e n3 n4 n5))
theorem a1Q(Y:nM K mg C):RIs K C:=⟨Y.cl,λe=> .ins e Y.cl Y.hc Y.own.2.1 Y.own.2.2 Y.own.1,Y.isl⟩
end
def sY:PyData->Bool
 | .int i=>decide (0<=i)&&decide (i<=30)
 |_=>false
inductive a4X(K:Fg)(c:Ad)(vs:List V)(H:Hp)(Q:VK)(E:XK):Prop
 |mk (x:_) (d:_):vs= [x] ->Dt K H x d->(sY d=true->Q .non H)->(sY d=false->E (.ref c.NoSize) none H)->a4X K c vs H Q E
theorem b0h(T:aX K mg){c:Ad}(X:dG K mg c):cT P w K mg af (bV P w) 2 "check_size" ["many"] (a4X K c):=by
 refine T.d_check_size.knownE a2o (λ_ _ _ _ _ _ us hl=>fG (λ_=>rfl) us hl) (λvs H Q E h=> ?_) (λf ah A ag s H vs Q E hr h=> ?_)
 ·obtain⟨x,d,rfl,_⟩:=h
  rfl
 ·obtain⟨x,d,rfl,hd,q1,q2⟩:=h
  refine⟨_,(aI (bO (PW.pt (fB (cU (cY (bI (lY T) hr.mn aL (aA (pv 0) aC)) (λ_=>rfl))) (fY (cU (sQ iR iR aT (pv 0) (kN T.g_MOST_ROWS)))))) (aI (gX X.c_NoSize X.x_NoSize (aA aW aC))) bW)),?_⟩;refine⟨_,rfl,x,d,rfl,hd,_,rfl,?_⟩;by_cases hk:gD d=true
  ·obtain⟨i,rfl⟩:∃i,d= .int i:=by cases d<;>simp[gD]at hk|-
   cases hd;refine bU ?_;refine⟨_,rfl,_,_,rfl,rfl,_,rfl,?_⟩;refine dJ (λh1=> ?_) (λh1=> ?_)
   ·refine⟨_,_,rfl,rfl,_,rfl,?_⟩
    refine dJ (λh2=> ?_) (λh2=> ?_)
    ·exact⟨sl,q2 (by show(decide (0<=i)&&decide (i<=30))=false;have:decide (i<=30)=false:=(by simpa using h2);rw[this,Bool.and_false])⟩
    ·exact q1 (by show(decide (0<=i)&&decide (i<=30))=true;have e2:decide (i<=30)=true:=(by simpa using h2);have e1:decide (0<=i)=true:=h1;rw[e1,e2];rfl)
   ·refine⟨_,rfl,cB ?_⟩
    exact⟨sl,q2 (by show(decide (0<=i)&&decide (i<=30))=false;have:decide (0<=i)=false:=(by simpa using h1);rw[this,Bool.false_and])⟩
  ·have hk':gD d=false:=by simpa using hk
   rw[hk'];refine cB (cB ?_);exact⟨sl,q2 (by cases d<;>simp[gD]at hk'<;>rfl)⟩
def eS(m:Int):PyData->Bool
 | .int i=>decide (0<=i)&&decide (i<m)
 |_=>false
def rQ(m:Int):PyData->Bool
 | .list ds=>decide ((ds.length:Int)=m)&&ds.all eV
 |_=>false
noncomputable def kT (kvs:List (aD×V)):PyData->Bool
 | .str t=>eE t&&(bC kvs (.inr t:aD)).isSome
 |_=>false
inductive a49(K:Fg)(c:Ad)(vs:List V)(H:Hp)(Q:VK)(E:XK):Prop
 |mk (x:_) (d:_) (m:_):vs= [x,.int m] ->Dt K H x d->(eS m d=true->Q .non H)->(eS m d=false->E (.ref c.NoPlace) none H)->a49 K c vs H Q E
theorem pM(T:aX K mg){c:Ad}(X:dG K mg c):cT P w K mg af (bV P w) 2 "check_place" ["place","places"] (a49 K c):=by
 refine T.d_check_place.knownE a4p (λ_ _ _ _ _ _ us hl=>dI (λ_ _=>rfl) us hl) (λvs H Q E h=> ?_) (λf ah A ag s H vs Q E hr h=> ?_)
 ·obtain⟨x,d,m,rfl,_⟩:=h
  rfl
 ·obtain⟨x,d,m,rfl,hd,q1,q2⟩:=h
  refine⟨_,(aI (bO (PW.pt (fB (cU (cY (bI (lY T) hr.mn aL (aA (pv 0) aC)) (λ_=>rfl))) (fY (cU (sQ iR sB aT (pv 0) (pv 1)))))) (aI (gX X.c_NoPlace X.x_NoPlace (aA aW aC))) bW)),?_⟩;refine⟨_,rfl,x,d,rfl,hd,_,rfl,?_⟩;by_cases hk:gD d=true
  ·obtain⟨i,rfl⟩:∃i,d= .int i:=by cases d<;>simp[gD]at hk|-
   cases hd;refine bU ?_;refine⟨_,rfl,_,_,rfl,rfl,_,rfl,?_⟩;refine dJ (λh1=> ?_) (λh1=> ?_)
   ·refine⟨_,rfl,_,_,rfl,rfl,_,rfl,?_⟩
    refine dJ (λh2=> ?_) (λh2=> ?_)
    ·exact⟨sl,q2 (by show(decide (0<=i)&&decide (i<m))=false;have:decide (i<m)=false:=(by simpa using h2);rw[this,Bool.and_false])⟩
    ·exact q1 (by show(decide (0<=i)&&decide (i<m))=true;have e2:decide (i<m)=true:=(by simpa using h2);have e1:decide (0<=i)=true:=h1;rw[e1,e2];rfl)
   ·refine⟨_,rfl,cB ?_⟩
    exact⟨sl,q2 (by show(decide (0<=i)&&decide (i<m))=false;have:decide (0<=i)=false:=(by simpa using h1);rw[this,Bool.false_and])⟩
  ·have hk':gD d=false:=by simpa using hk
   rw[hk'];refine cB (cB ?_);exact⟨sl,q2 (by cases d<;>simp[gD]at hk'<;>rfl)⟩
inductive a0X(K:Fg)(c:Ad)(vs:List V)(H:Hp)(Q:VK)(E:XK):Prop
 |mk (x:_) (d:_):vs= [x] ->Dt K H x d->hU d->(eV d=true->∀H',aB H H'->Q .non H')->(eV d=false->∀H',aB H H'->E (.ref c.NoValue) none H')->a0X K c vs H Q E
theorem a0g(T:aX K mg){c:Ad}(X:dG K mg c):cT P w K mg af (bV P w) 4 "check_value" ["value"] (a0X K c):=by
 refine T.d_check_value.knownE a6v (λ_ _ _ _ _ _ us hl=>fG (λ_=>rfl) us hl) (λvs H Q E h=> ?_) (λf ah A ag s H vs Q E hr h=> ?_)
 ·obtain⟨x,d,rfl,_⟩:=h
  rfl
 ·obtain⟨x,d,rfl,hd,hsh,q1,q2⟩:=h
  refine⟨_,(aI (bO (cU (cY (bI (yR T) hr.mn aL (aA (pv 0) aC)) (λ_=>rfl))) (aI (gX X.c_NoValue X.x_NoValue (aA aW aC))) bW)),?_⟩;refine⟨_,rfl,x,d,rfl,hd,hsh,λH' s'=>⟨_,rfl,?_⟩⟩;refine dJ (λh1=> ?_) (λh1=> ?_)
  ·exact⟨sl,q2 (by simpa using h1) H' s'⟩
  ·exact q1 (by simpa using h1) H' s'
inductive a5e(K:Fg)(c:Ad)(vs:List V)(H:Hp)(Q:VK)(E:XK):Prop
 |mk (x:_) (d:_) (m:_):vs= [x,.int m] ->Dt K H x d->(∀ds,d= .list ds->ds.length<=1000/\∀e∈ds,hU e)->(rQ m d=true->∀H',aB H H'->Q .non H')->(rQ m d=false->∀H',aB H H'->E (.ref c.NoValue) none H')->a5e K c vs H Q E
theorem a8A(T:aX K mg){c:Ad}(X:dG K mg c):cT P w K mg af (bV P w) 4 "check_values" ["values","many"] (a5e K c):=by
 refine T.d_check_values.knownE a1W (λ_ _ _ _ _ _ us hl=>dI (λ_ _=>rfl) us hl) (λvs H Q E h=> ?_) (λf ah A ag s H vs Q E hr h=> ?_)
 ·obtain⟨x,d,m,rfl,_⟩:=h
  rfl
 ·obtain⟨x,d,m,rfl,hd,hsh,q1,q2⟩:=h
  refine⟨_,(aI (bO (PW.pt (fB (cU (cY (cM mB rfl T.isinstance fR (aA (pv 0) (aA (jR T.list jC) aC))) (λ_=>rfl))) (fB (cK xS (cM gU rfl T.len fS (aA (pv 0) aC)) (pv 1) (cN _)) (fY (cU (cY (cM (yJ rfl) rfl T.all a0p (aA (rD uY rfl rfl (by decide) (kB (pv 0)) (λ_ _ _ _ _=>oM) (λ_ _ _ _ _=>(bI (yR T) hr.mn aL (aA (pv 0) aC)))) aC)) (λ_=>rfl))))))) (aI (gX X.c_NoValue X.x_NoValue (aA aW aC))) bW)),?_⟩;refine⟨_,rfl,x,"list",d,_,rfl,hd,wO K _,_,rfl,?_⟩;by_cases hk:fZ d= .lst
  ·obtain⟨ds,rfl⟩:∃ds,d= .list ds:=by cases d<;>simp[fZ]at hk|-
   obtain⟨hlen,hsd⟩:=hsh ds rfl
   cases hd with
   | @lst a xs _ hq hall=>
    have hl:=hall.length;refine bU ?_;refine⟨_,rfl,_,_,rfl,.inl ⟨_,hq,rfl⟩,_,rfl,rfl,_,rfl,?_⟩;refine dJ (λh1=> ?_) (λh1=> ?_)
    ·have z:(xs.length:Int)≠m:=by
      intro z;rw[z]at h1;simp at h1
     refine cB ?_;exact⟨sl,q2 (by show(decide ((ds.length:Int)=m)&&ds.all eV)=false;rw[decide_eq_false (by rw[<- hl];exact z),Bool.false_and]) H (aB.refl H)⟩
    ·have z:(xs.length:Int)=m:=by
      have z1:¬(!decide (V.int (xs.length:Int)=V.int m))=true:=h1;simpa using z1
     refine⟨_,rfl,a,rfl,⟨_,hq⟩,λD hD=> ?_⟩;refine tW (K:=K) (a:=a) (xs:=xs) (λi ys H2=>ys=(ds.take i).map (λe=>V.bl (eV e))/\aB H H2) ⟨rfl,aB.new hD⟩ (λi ys H2 _ ⟨_,s2⟩=>s2.seq hq) ?_ ?_
     ·rintro i v ys H2 hv h2D ⟨rfl,s2⟩
      obtain⟨e,he,hde⟩:=hall.get hv;refine⟨_,rfl,v,e,rfl,hde.same s2,hsd e (List.mem_of_getElem? he),λH3 s3=>⟨s3 _ _ h2D,?_,?_,?_⟩⟩
      ·rw[List.length_map,List.length_take]
       exact fU (by omega)
      ·rw[List.take_add_one,List.map_append,he]
       rfl
      ·exact(s2.trans s3).on hD
     ·rintro ys H2 h2D ⟨rfl,s2⟩
      refine⟨D,ds.map eV,rfl,aU.of ?_,_,rfl,?_⟩
      ·rw[h2D,List.take_of_length_le (by rw[hl];exact Nat.le_refl _),List.map_map]
       rfl
      ·have e:(ds.map eV).all id=ds.all eV:=by rw[List.all_map];rfl
       have ev:rQ m (.list ds)=ds.all eV:=by
        show(decide ((ds.length:Int)=m)&&ds.all eV)=_;rw[decide_eq_true (by rw[<- hl];exact z),Bool.true_and]
       rw[e];refine dJ (λh2=> ?_) (λh2=> ?_)
       ·exact⟨sl,q2 (by rw[ev];simpa using h2) H2 s2⟩
       ·exact q1 (by rw[ev];simpa using h2) H2 s2
  ·rw[decide_eq_false hk]
   refine cB (cB ?_);exact⟨sl,q2 (by cases d<;>simp[fZ]at hk<;>rfl) H (aB.refl H)⟩
inductive a3M(K:Fg)(C:Addr)(c:Ad)(vs:List V)(H:Hp)(Q:VK)(E:XK):Prop
 |mk (p:_) (r:_) (d:_) (xs:_) (n:_) (kvs:_) (x:_) (dx:_):vs= [.ref p,x] ->hV C H p r d xs n kvs->Dt K H x dx->lK dx->(kT kvs dx=true->∀H',aB H H'->Q .non H')->(kT kvs dx=false->∀H',aB H H'->E (.ref c.NoColumn) none H')->a3M K C c vs H Q E
theorem a4O(T:aX K mg){c:Ad}(X:dG K mg c)(Y:dE K mg C):aQ P w K mg af (bV P w) 2 C "check_column" ["self","column"] (a3M K C c):=by
 refine Y.m_check_column.knownE a3Q (λ_ _ _ _ _ _ us hl=>dI (λ_ _=>rfl) us hl) (λvs H Q E h=> ?_) (λf ah A ag s H vs Q E hr h=> ?_)
 ·obtain⟨p,r,d,xs,n,kvs,x,dx,rfl,_⟩:=h
  rfl
 ·obtain⟨p,r,d,xs,n,kvs,x,dd,rfl,TA,hd,hsh,q1,q2⟩:=h
  refine⟨_,(aI (bO (PW.pt (fB (cU (cY (bI (iG T) hr.mn aL (aA (pv 1) aC)) (λ_=>rfl))) (fY (iY (mR (eN hr) (pv 1) (bB (pv 0) rfl)))))) (aI (gX X.c_NoColumn X.x_NoColumn (aA aW aC))) bW)),?_⟩;refine⟨_,rfl,x,dd,rfl,hd,hsh,λH' s'=>⟨_,rfl,?_⟩⟩;by_cases hk:dZ dd=true
  ·obtain⟨t,rfl⟩:∃t,dd= .str t:=by cases dd<;>simp[dZ]at hk|-
   cases hd;rw[hk];refine bU ?_;obtain⟨⟨dx,h1⟩,_,h3⟩:=TA.same s';refine⟨_,rfl,_,rfl,p,C,dx,_,_,rfl,h1,Y.cl,Y.n_kept,lW _ _ _,d,_,rfl,cZ.k (k:=Sum.inr t) h3,_,rfl,?_⟩
   have ec:kT kvs (.str t)=(bC kvs (.inr t:aD)).isSome:=by
    show(eE t&&_)=_;rw[show eE t=true from hk,Bool.true_and]
   refine dJ (λh4=> ?_) (λh4=> ?_)
   ·exact⟨sl,q2 (by rw[ec];revert h4;cases (bC kvs (.inr t:aD)).isSome<;>simp) H' s'⟩
   ·exact q1 (by rw[ec];revert h4;cases (bC kvs (.inr t:aD)).isSome<;>simp) H' s'
  ·have hk':dZ dd=false:=by simpa using hk
   rw[hk'];refine cB (cB ?_);refine⟨sl,q2 ?_ H' s'⟩
   cases dd with
   |str t=>show(eE t&&_)=false;rw[show eE t=false from hk',Bool.false_and]
   |_=>rfl
inductive a3d(K:Fg)(C:Addr)(c:Ad)(vs:List V)(H:Hp)(Q:VK)(E:XK):Prop
 |mk (p:_) (r:_) (d:_) (xs:_) (n:_) (kvs:_) (x:_) (dx:_) (y:_) (dy:_):vs= [.ref p,x,y] ->hV C H p r d xs n kvs->Dt K H x dx->lK dx->Dt K H y dy->(∀t l ys i v,dx= .str t->eE t=true->bC kvs (.inr t:aD)=some (.ref l)->H l=some (.lst ys)->dy= .int i->0<=i->i<xs.length->fE ys i=some v->∀H',aB H H'->Q v H')->(kT kvs dx=true->eS xs.length dy=true->∃t l ys i v,dx= .str t/\eE t=true/\bC kvs (.inr t:aD)=some (.ref l)/\H l=some (.lst ys)/\dy= .int i/\0<=i/\i<xs.length/\fE ys i=some v)->(kT kvs dx=false->∀H',aB H H'->E (.ref c.NoColumn) none H')->(kT kvs dx=true->eS xs.length dy=false->∀H',aB H H'->E (.ref c.NoPlace) none H')->a3d K C c vs H Q E
theorem a7S(T:aX K mg){c:Ad}(X:dG K mg c)(Y:dE K mg C):aQ P w K mg af (bV P w) 3 C "at" ["self","column","place"] (a3d K C c):=by
 refine Y.m_at.knownE a09 (λ_ _ _ _ _ _ us hl=>eQ (λ_ _ _=>rfl) us hl) (λvs H Q E h=> ?_) (λf ah A ag s H vs Q E hr h=> ?_)
 ·obtain⟨p,r,d,xs,n,kvs,x,dx,y,dy,rfl,_⟩:=h
  rfl
 ·obtain⟨p,r,d,xs,n,kvs,x,dd,y,dy,rfl,TA,hd,hsh,hy,q1,q0,q2,q3⟩:=h
  refine⟨_,(aJ (bT (bF (pv 0) Y.cl (a4O T X Y) hr.mn cG (aA (pv 1) aC)))
   (aJ (bT (bI (pM T X) hr.mn cG (aA (pv 2) (aA (fQ (pv 0) Y.cl (gZ T Y) hr.mn aL) aC))))
   (aI (cC (cE fM (lL (eN hr) (bB (pv 0) rfl) (pv 1) (λ_ _=>rfl)) (pv 2) (λ_ _=>rfl)))))),?_⟩
  obtain⟨⟨dx,h1⟩,h2,h3⟩:=id TA;refine⟨_,rfl,p,dx,_,rfl,h1,fF,_,rfl,p,r,d,xs,n,kvs,x,dd,rfl,TA,hd,hsh,(λhc H1 s1=> ?_),λhc H1 s1=>q2 hc H1 s1⟩;have TB:=TA.same s1;refine⟨_,rfl,_,rfl,p,dx,_,rfl,s1 _ _ h1,fF,p,r,d,xs,n,kvs,rfl,TB,y,dy,_,rfl,hy.same s1,(λhp=> ?_),λhp=>q3 hc hp H1 s1⟩;obtain⟨t,l,ys,i,v,rfl,hn,hv,hl,rfl,h0,hi,ha⟩:=q0 hc hp;cases hd;cases hy;refine⟨_,rfl,p,C,dx,_,_,rfl,s1 _ _ h1,Y.cl,Y.n_kept,lW _ _ _,_,rfl,d,.ref l,rfl,hv▸cZ.k (k:=Sum.inr t) (s1 _ _ h3),_,rfl,l,_,i,v,rfl,rfl,aU.of (s1 _ _ hl),ha,?_⟩;exact q1 t l ys i v rfl hn hv hl rfl h0 hi ha H1 s1
inductive a2q(K:Fg)(C:Addr)(c:Ad)(vs:List V)(H:Hp)(Q:VK)(E:XK):Prop
 |mk (p:_) (r:_) (d:_) (xs:_) (n:_) (kvs:_) (x:_) (dx:_) (y:_) (dy:_) (z:_) (dz:_):vs= [.ref p,x,y,z] ->hV C H p r d xs n kvs->Dt K H x dx->lK dx->Dt K H y dy->Dt K H z dz->hU dz->(kT kvs dx=true->eS xs.length dy=true->eV dz=true->∃t l ys i j,dx= .str t/\eE t=true/\bC kvs (.inr t:aD)=some (.ref l)/\H l=some (.lst ys)/\dy= .int i/\lF ys.length i=some j/\∀H',aB H H'->Q .non (upd H' l (.lst (ys.set j z))))->(kT kvs dx=false->∀H',aB H H'->E (.ref c.NoColumn) none H')->(kT kvs dx=true->eS xs.length dy=false->∀H',aB H H'->E (.ref c.NoPlace) none H')->(kT kvs dx=true->eS xs.length dy=true->eV dz=false->∀H',aB H H'->E (.ref c.NoValue) none H')->a2q K C c vs H Q E
theorem a8s(T:aX K mg){c:Ad}(X:dG K mg c)(Y:dE K mg C):aQ P w K mg af (bV P w) 5 C "put" ["self","column","place","value"] (a2q K C c):=by
 refine Y.m_put.knownE b0W (λ_ _ _ _ _ _ us hl=>iH (λ_ _ _ _=>rfl) us hl) (λvs H Q E h=> ?_) (λf ah A ag s H vs Q E hr h=> ?_)
 ·obtain⟨p,r,d,xs,n,kvs,x,dx,y,dy,z,dz,rfl,_⟩:=h
  rfl
 ·obtain⟨p,r,d,xs,n,kvs,x,dd,y,dy,z,dz,rfl,TA,hd,hsh,hy,hz,hsz,q0,q2,q3,q4⟩:=h
  refine⟨_,(aJ (bT (bF (pv 0) Y.cl (a4O T X Y) hr.mn cG (aA (pv 1) aC)))
   (aJ (bT (bI (pM T X) hr.mn cG (aA (pv 2) (aA (fQ (pv 0) Y.cl (gZ T Y) hr.mn aL) aC))))
   (aJ (bT (bI (a0g T X) hr.mn cG (aA (pv 3) aC)))
   (aI (a0D (pv 3) (a1w (lL (eN hr) (bB (pv 0) rfl) (pv 1) (λ_ _=>rfl)) (pv 2) a3T (λ_=>rfl))))))),?_⟩
  obtain⟨⟨dx,h1⟩,h2,h3⟩:=id TA;refine⟨_,rfl,p,dx,_,rfl,h1,fF,_,rfl,p,r,d,xs,n,kvs,x,dd,rfl,TA,hd,hsh,(λhc H1 s1=> ?_),λhc H1 s1=>q2 hc H1 s1⟩;have TB:=TA.same s1;refine⟨_,rfl,_,rfl,p,dx,_,rfl,s1 _ _ h1,fF,p,r,d,xs,n,kvs,rfl,TB,y,dy,_,rfl,hy.same s1,(λhp=> ?_),λhp=>q3 hc hp H1 s1⟩;refine⟨_,rfl,z,dz,rfl,hz.same s1,hsz,(λhv H2 s2=> ?_),λhv H2 s2=>q4 hc hp hv H2 (s1.trans s2)⟩;have s12:=s1.trans s2;obtain⟨t,l,ys,i,j,rfl,hn,hvl,hl,rfl,hj,q⟩:=q0 hc hp hv;cases hd;cases hy;refine⟨_,rfl,_,rfl,p,C,dx,_,_,rfl,s12 _ _ h1,Y.cl,Y.n_kept,lW _ _ _,_,rfl,d,.ref l,rfl,hvl▸cZ.k (k:=Sum.inr t) (s12 _ _ h3),_,rfl,l,ys,i,j,rfl,rfl,s12 _ _ hl,hj,?_⟩;exact q H2 s12
theorem a0e{t:Str}:∀{zs:List Str},t∈zs->eJ (.str t) (zs.map V.str)=true
 |z::r,h=>by
  unfold eJ;rw[List.map_cons,List.any_cons]
  rcases List.mem_cons.mp h with rfl|h
  ·have:jT (.str t) (.str t)=true:=by show(t==t)=true;exact beq_self_eq_true t
   rw[this,Bool.true_or]
  ·have:=a0e h
   unfold eJ at this;rw[this,Bool.or_true]
mutual
def wQ:PyData->Bool
 | .list ds=>rV ds
 | .tuple ds=>rV ds
 | .dict _=>false
 |_=>true
def rV:List PyData->Bool
 | []=>true
 |d::ds=>wQ d&&rV ds
end
theorem a44{u v:HO}(e:H a=some u)(h:Rd H b o)(h1:u≠o)(h2:∀ob,u≠ .frz ob o):Rd (upd H a v) b o:=by
 rcases h with h|⟨ob,h⟩
 ·exact .inl (by rw[aF (jG h e h1.symm)];exact h)
 ·exact .inr ⟨ob,by rw[aF (jG h e (h2 ob).symm)];exact h⟩
mutual
theorem Dt.over{K:Fg}{H:Hp}{a:Addr}{kvs:List (aD×V)}{v:HO}(e:H a=some (.dK kvs)):∀{x:V} {d:PyData},Dt K H x d->wQ d=true->Dt K (upd H a v) x d
 |_,_,.non,_=> .non
 |_,_,.bl b,_=> .bl b
 |_,_,.int i,_=> .int i
 |_,_,.str x,_=> .str x
 |_,_,.lst h hd,n=> .lst (h.imp (λh=>a44 e h (λz=>by cases z) (λ_ z=>by cases z)) id) (cL.over e hd n)
 |_,_,.tup h hd,n=> .tup (h.imp (λh=>a44 e h (λz=>by cases z) (λ_ z=>by cases z)) id) (cL.over e hd n)
 |_,_,.dK _,n=>by cases n
 |_,_,.dT _,n=>by cases n
theorem cL.over{K:Fg}{H:Hp}{a:Addr}{kvs:List (aD×V)}{v:HO}(e:H a=some (.dK kvs)):∀{xs:List V} {ds:List PyData},cL K H xs ds->rV ds=true->cL K (upd H a v) xs ds
 |_,_,.nil,_=> .nil
 |_,_,.cons r t,n=>by
  rw[rV,Bool.and_eq_true]at n;exact .cons (Dt.over e r n.1) (cL.over e t n.2)
end
def pS(K:Fg)(H:Hp)(names:List Str)(q:aD×V):Prop:=∃t d,q.1= .inr t/\t∈names/\eE t=true/\t.length<=8/\Dt K H q.2 d/\wQ d=true/\hU d/\eV d=true
def sU(K:Fg)(H:Hp)(names:List Str)(q:aD×V):Prop:=∃t,q.1= .inr t/\eE t=true/\t.length<=8/\(t∉names\/ (t∈names/\∃d,Dt K H q.2 d/\wQ d=true/\hU d/\eV d=false))
def nV(K:Fg)(H:Hp)(x:V)(dx:PyData)(names:List Str):Prop:=fZ dx≠ .dct\/ ∃a kvs,fZ dx= .dct/\x= .ref a/\H a=some (.dK kvs)/\(kvs.length≠names.length\/ (kvs.length=names.length/\∃i0 q0,kvs[i0]?=some q0/\(∀q∈kvs.take i0,pS K H names q)/\sU K H names q0))
theorem a0O{t:Str}:∀{zs:List Str},t∉zs->eJ (.str t) (zs.map V.str)=false
 | [],_=>rfl
 |z::r,h=>by
  unfold eJ;rw[List.map_cons,List.any_cons]
  have h1:jT (.str z) (.str t)=false:=by
   show(z==t)=false;exact beq_eq_false_iff_ne.mpr λe=>h (by rw[e];exact List.mem_cons_self)
  have h2:=a0O (t:=t) (zs:=r) λm=>h (List.mem_cons_of_mem _ m)
  unfold eJ at h2;rw[h1,h2];rfl
theorem pS.same{names:List Str}{q:aD×V}(s:aB H H')(h:pS K H names q):pS K H' names q:=
 let ⟨t,d,h1,h2,h3,h4,h5,h6⟩:=h;⟨t,d,h1,h2,h3,h4,h5.same s,h6⟩
theorem sU.same{names:List Str}{q:aD×V}(s:aB H H')(h:sU K H names q):sU K H' names q:=
 let ⟨t,h1,h2,h3,h4⟩:=h;⟨t,h1,h2,h3,h4.imp id fun⟨h5,d,h6,h7⟩=>⟨h5,d,h6.same s,h7⟩⟩
theorem nV.same{x:V}{dx:PyData}{names:List Str}(s:aB H H')(h:nV K H x dx names):nV K H' x dx names:=
 h.imp id fun⟨a,kvs,e,h1,h2,h3⟩=>⟨a,kvs,e,h1,s _ _ h2,h3.imp id fun⟨h4,i0,q0,h5,h6,h7⟩=>⟨h4,i0,q0,h5,λq hq=>(h6 q hq).same s,h7.same s⟩⟩
inductive a12(K:Fg)(c:Ad)(vs:List V)(H:Hp)(E':VK)(E:XK):Prop
 |mk (x:V) (dx:PyData) (lc:Addr) (names:List Str):vs= [x,.ref lc] ->Dt K H x dx->H lc=some (.lst (names.map V.str))->nV K H x dx names->(∀H',aB H H'->E (.ref c.NoValue) none H')->a12 K c vs H E' E
theorem b03(T:aX K mg){c:Ad}(X:dG K mg c):cT P w K mg af (bV P w) 5 "check_row" ["values","columns"] (a12 K c):=by
 refine T.d_check_row.knownE a0m (λ_ _ _ _ _ _ us hl=>dI (λ_ _=>rfl) us hl) (λvs H Q E h=> ?_) (λf ah A ag s H vs Q E hr h=> ?_)
 ·obtain⟨x,dx,lc,names,rfl,_⟩:=h
  rfl
 ·obtain⟨x,dx,lc,names,rfl,hd,hlc,hno,q⟩:=h
  refine⟨_,(aJ (bO (PW.pt (fB (cU (cY (cM mB rfl T.isinstance fR (aA (pv 0) (aA (jR T.dict b0k) aC))) (λ_=>rfl))) (fY (cK xS (cM wP rfl T.len fS (aA (pv 0) aC)) (cM gU rfl T.len fS (aA (pv 1) aC)) (cN _))))) (aI (gX X.c_NoValue X.x_NoValue (aA aW aC))) bW)
   (aI (b0l yK rfl (pv 0) (sK rfl (lD (fO (i:=2) a0m.nd rfl (Or.inl rfl)) (lD (fO (i:=3) a0m.nd rfl (Or.inl rfl)) uB))) (aJ (bO (PW.pt (fB (cU (cY (bI (iG T) hr.mn aL (aA (pv 2) aC)) (λ_=>rfl))) (fY (cK qA (pv 2) (pv 1) (by with_unfolding_all rfl))))) (aI (a0N (gX X.c_NoValue X.x_NoValue (aA aW aC)))) bW)
   (aI (a6U (bT (bI (a0g T X) hr.mn cG (aA (pv 3) aC))) (a0N (bT (bI (a0g T X) hr.mn cG (aA (pv 3) aC)))))))))),?_⟩
  refine⟨_,rfl,_,"dict",dx,_,rfl,hd,b0E K _,_,rfl,?_⟩
  rcases hno with hk|⟨a,kvs,ek,rfl,ha,hno⟩
  ·rw[decide_eq_false hk]
   exact cB (cB ⟨sl,q H (aB.refl _)⟩)
  rw[ek];refine bU ?_;refine⟨_,rfl,a,kvs,rfl,ha,_,rfl,_,_,rfl,.inl ⟨_,aU.of hlc,rfl⟩,?_⟩;rw[List.length_map];refine⟨rfl,_,rfl,?_⟩
  rcases hno with hne|⟨hlen,i0,q0,hq0,hgood,hbad⟩
  ·refine dJ (λ_=>⟨sl,q H (aB.refl _)⟩) (λz=> ?_)
   exfalso;have z':¬(!decide (V.int (kvs.length:Int)=V.int (names.length:Int)))=true:=z;rw[decide_eq_false (λy=>hne (by have:=V.int.inj y;omega))]at z';exact z' rfl
  rw[hlen];refine a5P rfl ?_;refine⟨_,rfl,a,kvs,rfl,ha,λnf ob=> ?_⟩
  have hlc':upd H a (.frz ob (.dK kvs)) lc=some (.lst (names.map V.str)):=by rw[aF (jG hlc ha (by intro z;cases z))];exact hlc
  have hi0:i0<kvs.length:=(List.getElem?_eq_some_iff.mp hq0).1;refine a8m (a:=a) (ob:=ob) (kvs:=kvs) (λi σ H2=>i<=i0/\(∃y z,σ= [some (.ref a),some (.ref lc),y,z])/\aB (upd H a (.frz ob (.dK kvs))) H2) ⟨Nat.zero_le _,⟨_,_,rfl⟩,aB.refl _⟩ (λi σ H2 _ ⟨_,_,s2⟩=>s2 _ _ aG) ?_ ?_
  ·rintro i qv σ H2 pp hq ⟨hi,⟨y,z,rfl⟩,s2⟩ hpp
   have c3:aB H2 (upd H2 pp (.tup [kV qv.1,qv.2])):=aB.new hpp;have s3:=s2.trans c3
   rcases Nat.lt_or_ge i i0 with hlt|hge
   ·obtain⟨t,d,e1,htn,hn1,hn2,hdt,hnd,hsh,hval⟩:=hgood qv (List.mem_iff_getElem?.mpr ⟨i,by rw[List.getElem?_take,if_pos hlt];exact hq⟩)
    rw[e1];refine⟨pp,_,rfl,bS.of aG,rfl,_,_,rfl,_,_,rfl,rfl,?_⟩;rw[e1]at c3 s3;have dt3:=(Dt.over (v:=.frz ob (.dK kvs)) ha hdt hnd).same s3;refine⟨_,rfl,.str t,.str t,rfl,.str t,fD (by omega),λH4 s4=>⟨_,rfl,?_⟩⟩;rw[show dZ (.str t)=eE t from rfl,hn1];refine bU ?_;refine⟨_,rfl,_,rfl,lc,_,rfl,.inl (aU.of ((s3.trans s4) _ _ hlc')),rfl,jW names,_,rfl,?_⟩;refine dJ (λzz=> ?_) (λ_=> ?_)
    ·have zz':(!eJ (.str t) (names.map V.str))=true:=zz
     rw[a0e htn]at zz';cases zz'
    refine .inl ⟨_,rfl,qv.2,d,rfl,dt3.same s4,hsh,(λ_ H5 s5=>⟨by omega,⟨_,_,rfl⟩,s3.trans (s4.trans s5)⟩),λz=> ?_⟩;rw[hval]at z;cases z
   ·have ei:i=i0:=by omega
    subst ei;rw[hq0]at hq;cases hq;obtain⟨t,e1,hn1,hn2,hb⟩:=hbad;rw[e1];refine⟨pp,_,rfl,bS.of aG,rfl,_,_,rfl,_,_,rfl,rfl,?_⟩;rw[e1]at c3 s3;refine⟨_,rfl,.str t,.str t,rfl,.str t,fD (by omega),λH4 s4=>⟨_,rfl,?_⟩⟩;rw[show dZ (.str t)=eE t from rfl,hn1];refine bU ?_;have s34:=s3.trans s4;have hf4:=s34 _ _ (aG (H:=H) (a:=a) (o:=.frz ob (.dK kvs)));refine⟨_,rfl,_,rfl,lc,_,rfl,.inl (aU.of (s34 _ _ hlc')),rfl,jW names,_,rfl,?_⟩
    rcases hb with hb|⟨hb,d,hdt,hnd,hsh,hval⟩
    ·refine dJ (λ_=>⟨a,ob,kvs,nf,hf4,sl,q _ (aB.thaw ha s34)⟩) (λzz=> ?_)
     have zz':¬(!eJ (.str t) (names.map V.str))=true:=zz;rw[a0O hb]at zz';exact absurd rfl zz'
    ·refine dJ (λzz=> ?_) (λ_=> ?_)
     ·have zz':(!eJ (.str t) (names.map V.str))=true:=zz
      rw[a0e hb]at zz';cases zz'
     refine .inr ⟨a,ob,kvs,nf,hf4,?_⟩;have st:=aB.thaw ha s34;refine⟨_,rfl,q0.2,d,rfl,hdt.same st,hsh,(λz=>by rw[hval]at z;cases z),λ_ H5 s5=>q H5 (st.trans s5)⟩
  ·rintro σ H2 ⟨hi,_⟩
   omega
inductive a28(K:Fg)(C:Addr)(c:Ad)(vs:List V)(H:Hp)(E':VK)(E:XK):Prop
 |mk (p r e:Addr) (xs:List V) (n:Int) (kl:List (aD×V)) (y:V) (dy:PyData) (x:V) (dx:PyData) (names:List Str):vs= [.ref p,y,x] ->hV C H p r e xs n kl->Dt K H y dy->Dt K H x dx->(kl.map (λp=>kV p.1)=names.map V.str)->((eS ((xs.length:Int)+ 1) dy=false/\∀H',aB H H'->E (.ref c.NoPlace) none H')\/ (eS ((xs.length:Int)+ 1) dy=true/\30<=xs.length/\∀H',aB H H'->E (.ref c.TooMuch) none H')\/ (eS ((xs.length:Int)+ 1) dy=true/\xs.length<30/\nV K H x dx names/\∀H',aB H H'->E (.ref c.NoValue) none H'))->a28 K C c vs H E' E
theorem a7C(T:aX K mg){c:Ad}(X:dG K mg c)(Y:dE K mg C):aQ P w K mg af (bV P w) 6 C "put_in" ["self","place","values"] (a28 K C c):=by
 refine Y.m_put_in.knownE a85 (λ_ _ _ _ _ _ us hl=>eQ (λ_ _ _=>rfl) us hl) (λvs H Q E h=> ?_) (λf ah A ag s H vs Q E hr h=> ?_)
 ·obtain⟨p,r,e,xs,n,kl,y,dy,x,dx,names,rfl,_⟩:=h
  rfl
 ·obtain⟨p,r,e,xs,n,kl,y,dy,x,dx,names,rfl,TA,hy,hx,hk,hcase⟩:=h
  refine⟨_,(aJ (bT (bI (pM T X) hr.mn cG (aA (pv 1) (aA (bX iO (fQ (pv 0) Y.cl (gZ T Y) hr.mn aL) aT) aC))))
   (aJ (bO (cK oK (fQ (pv 0) Y.cl (gZ T Y) hr.mn aL) (kN T.g_MOST_ROWS) (cN _)) (aI (gX X.c_TooMuch X.x_TooMuch (aA aW aC))) bW)
   (aJ (bT (bI (b03 T X) hr.mn cG (aA (pv 2) (aA (fQ (pv 0) Y.cl (a97 T Y) hr.mn aL) aC))))
   (aJ bP
   (aI bP))))),?_⟩
  obtain⟨⟨dd,g1⟩,g2,g3⟩:=id TA;refine⟨_,rfl,_,rfl,p,dd,_,rfl,g1,fF,p,r,e,xs,n,_,rfl,TA,_,_,rfl,rfl,y,dy,_,rfl,hy,(λz=> ?_),λz=> ?_⟩
  ·refine⟨_,rfl,p,dd,_,rfl,g1,fF,p,r,e,xs,n,_,rfl,TA,_,_,rfl,rfl,_,rfl,?_⟩
   rcases hcase with⟨h1,_⟩|⟨_,h1,q⟩|⟨_,h1,hno,q⟩
   ·rw[h1]at z;cases z
   ·refine dJ (λ_=>⟨sl,q H (aB.refl _)⟩) (λz=>absurd (by simp;omega) z)
   ·refine dJ (λz=>absurd z (by simp;omega)) λ_=> ?_
    refine⟨_,rfl,_,rfl,p,dd,_,rfl,g1,fF,p,r,e,xs,n,_,rfl,TA,λlc hlc=> ?_⟩;have c1:aB H (upd H lc (.lst (kl.map λp=>kV p.1))):=aB.new hlc;exact⟨x,dx,lc,names,rfl,hx.same c1,by rw[aG,hk],hno.same c1,λH' s'=>q H' (c1.trans s')⟩
  ·rcases hcase with⟨_,q⟩|⟨h1,_⟩|⟨h1,_⟩
   ·exact q H (aB.refl _)
   ·have z':eS ((xs.length:Int)+ 1) dy=false:=z
    rw[h1]at z';cases z'
   ·have z':eS ((xs.length:Int)+ 1) dy=false:=z
    rw[h1]at z';cases z'
end My
variable{B:My.BM}{gl:List My.bZ}
namespace My
open PySem L2
def eU(c:Ad):Nat->Addr
 |0=>c.NoTable
 |1=>c.NoName
 |2=>c.NoColumn
 |3=>c.NoSize
 |4=>c.TooMuch
 |5=>c.NoPlace
 |6=>c.NoValue
 |_=>c.Ruled
def Bn(K:Fg)(H:Hp)(x:V):Prop:=∃d,Dt K H x d/\lK d/\dZ d=false
theorem Bn.same{x:V}(s:aB H H')(h:Bn K H x):Bn K H' x:=let ⟨d,a,b⟩:=h;⟨d,a.same s,b⟩
def eD(K:Fg)(H:Hp)(nm:Str)(x:V):Prop:=Bn K H x\/ x= .str nm
theorem eD.same{nm:Str}{x:V}(s:aB H H')(h:eD K H nm x):eD K H' nm x:=h.imp (Bn.same s) id
abbrev lU(k:Nat):List Str:=(["a","b","run"]:List Str)++ (["c","d","e","f","g"]:List Str).take k
theorem cF:Nl ("t":Str)/\Nl ("nope":Str)/\Nl ("q":Str)/\Nl ("zz":Str)/\Nl ("a":Str)/\Nl ("b":Str)/\Nl ("run":Str):=by unfold Nl;decide+kernel
structure gG(CS CB CT s bd ch fi:Addr)(B:BM)(kb:List (aD×V))(k nt m:Nat)(H:Hp):Prop where
 sh:∃dx,H s=some (.ins CS dx (eB bd ch fi))
 hb:H bd=some (.dK kb)
 tT:bC kb (.inr "t":aD)=some (.ref B.b)
 tN:bC kb (.inr "nope":aD)=none/\bC kb (.inr "q":aD)=none
 kl:kb.length=nt
 bt:dD CB CT H B
 xm:B.xs.length=m
 m1:1<=m/\m<=30
 k5:k=0\/ k=5
 od:B.ord=lU k
 ru:(bC B.rus (.inr "run":aD)).isSome=true/\bC B.rus (.inr "a":aD)=none/\bC B.rus (.inr "b":aD)=none
 kv:∃la lb ya yb,B.kvs= [((.inr "a":aD),V.ref la),((.inr "b":aD),V.ref lb)] /\H la=some (.lst ya)/\H lb=some (.lst yb)/\ya.length=m/\yb.length=m
theorem gG.same{s:Addr}{k:Nat}(e:aB H H')(h:gG CS CB CT s bd ch fi B kb k nt m H):gG CS CB CT s bd ch fi B kb k nt m H':=
 ⟨h.sh.imp λ_ q=>e _ _ q,e _ _ h.hb,h.tT,h.tN,h.kl,h.bt.same e,h.xm,h.m1,h.k5,h.od,h.ru,let ⟨la,lb,ya,yb,a,b,c,d⟩:=h.kv;⟨la,lb,ya,yb,a,e _ _ b,e _ _ c,d⟩⟩
theorem uL:("zz":Str)∉lU 0/\("zz":Str)∉lU 5/\("q":Str)∉lU 0/\("q":Str)∉lU 5/\(lU 5).length=8:=by decide+kernel
theorem mT:∀c∈(["a","b","run"]:List Str),c∈lU 0/\c∈lU 5/\Nl c:=by unfold Nl;decide+kernel
theorem gG.no{s:Addr}{k:Nat}(h:gG CS CB CT s bd ch fi B kb k nt m H):("zz":Str)∉B.ord/\("q":Str)∉B.ord/\(k=5->B.ord.length=8)/\∀c∈(["a","b","run"]:List Str),c∈B.ord:=by
 rw[h.od]
 rcases h.k5 with e|e<;>rw[e]
 ·exact⟨uL.1,uL.2.2.1,λe=>absurd e (by decide),λc hc=>(mT c hc).1⟩
 ·exact⟨uL.2.1,uL.2.2.2.1,λ_=>uL.2.2.2.2,λc hc=>(mT c hc).2.1⟩
section
inductive mV(K:Fg)(c:Ad)(CS CB CT:Addr)(vs:List V)(H:Hp)(E':VK)(E:XK):Prop
 |mk (s bd ch fi:Addr) (B:BM) (kb:List (aD×V)) (k nt m:Nat) (x:V):vs= [.ref s,x] ->gG CS CB CT s bd ch fi B kb k nt m H->eD K H "nope" x->(∀H',aB H H'->E (.ref c.NoTable) none H')->mV K c CS CB CT vs H E' E
theorem rA(T:aX K mg){c:Ad}(X:dG K mg c)(Y:dA K mg CS):aQ P w K mg af (bV P w) 2 CS "board_of" ["self","table"] (mV K c CS CB CT):=by
 refine Y.m_board_of.knownE a4s (λ_ _ _ _ _ _ us hl=>dI (λ_ _=>rfl) us hl) (λvs H Q E h=> ?_) (λf ah A ag s H vs Q E hr h=> ?_)
 ·obtain⟨s',bd,ch,fi,B,kb,k,nt,m,x,rfl,_⟩:=h
  rfl
 ·obtain⟨s',bd,ch,fi,B,kb,k,nt,m,x,rfl,S,hN,q⟩:=h
  refine⟨_,(aJ (bO (PW.pt (fB (cU (cY (bI (iG T) hr.mn aL (aA (pv 1) aC)) (λ_=>rfl))) (fY (iY (mR (eN hr) (pv 1) (bB (pv 0) rfl)))))) (aI (gX X.c_NoTable X.x_NoTable (aA aW aC))) bW)
   (aI bP)),?_⟩
  rcases hN with⟨d,hd,sd,nd⟩|rfl
  ·refine⟨_,rfl,x,d,rfl,hd,sd,λH' s9=>⟨_,rfl,?_⟩⟩
   rw[nd];exact cB ⟨sl,q _ s9⟩
  ·refine⟨_,rfl,_,.str "nope",rfl,.str "nope",fD (by decide),λH' s9=>⟨_,rfl,?_⟩⟩
   rw[show dZ (.str "nope")=true from cF.2.1.name];obtain⟨dx,h1⟩:=S.sh;refine bU ⟨_,rfl,_,rfl,s',CS,dx,_,_,rfl,s9 _ _ h1,Y.cl,Y.n_boards,(iN _ _ _).1,bd,_,rfl,cZ.k (k:=Sum.inr "nope") (s9 _ _ S.hb),_,rfl,?_⟩;rw[S.tN.1];exact cB ⟨sl,q _ s9⟩
inductive a0s(K:Fg)(CB CT:Addr)(vs:List V)(H:Hp)(Q:VK)(E:XK):Prop
 |mk (B:BM) (x:V):vs= [.ref B.b,x] ->dD CB CT H B->eD K H "zz" x->("zz":Str)∉B.ord->(∀H',aB H H'->Q (.bl false) H')->a0s K CB CT vs H Q E
theorem a9t(T:aX K mg)(Y:cO K mg CB):aQ P w K mg af aN 2 CB "has_column" ["self","column"] (a0s K CB CT):=by
 refine Y.m_has_column.known a1b (λ_ _ _ _ _ _ us hl=>dI (λ_ _=>rfl) us hl) (λf ah A ag s H vs Q E hr h=> ?_)
 ·obtain⟨B,x,rfl,hB,hN,hz,q⟩:=h
  refine⟨_,(aI (cC (lM (bI (iG T) hr.mn aL (aA (pv 1) aC)) (lE (lP wT (pv 1) (bB (pv 0) rfl) (by with_unfolding_all rfl)))))),?_⟩
  rcases hN with⟨d,hd,sd,nd⟩|rfl
  ·refine⟨_,rfl,x,d,rfl,hd,sd,λH' s9=>⟨_,rfl,?_⟩⟩
   rw[nd];exact bU (q _ s9)
  ·refine⟨_,rfl,_,.str "zz",rfl,.str "zz",fD (by decide),λH' s'=>⟨_,rfl,?_⟩⟩
   rw[show dZ (.str "zz")=true from cF.2.2.2.1.name];obtain⟨⟨dx,h1⟩,_,_,_,h5⟩:=hB.same s';refine cB ⟨_,rfl,_,rfl,B.b,CB,dx,_,_,rfl,h1,Y.cl,Y.n_order,(dS _ _ _ _).2.2.2,B.od,_,rfl,.inl (aU.of h5),rfl,jW _,?_⟩;rw[show (if false=true then !eJ (.str "zz") (B.ord.map V.str) else eJ (.str "zz") (B.ord.map V.str))=decide (("zz":Str)∈B.ord)by rw[if_neg Bool.false_ne_true,mE],decide_eq_false hz];exact q _ s'
inductive nR(K:Fg)(c:Ad)(CS CB CT:Addr)(vs:List V)(H:Hp)(E':VK)(E:XK):Prop
 |mk (s bd ch fi:Addr) (B:BM) (kb:List (aD×V)) (k nt m:Nat) (x y:V) (j:Nat):vs= [.ref s,x,y] ->gG CS CB CT s bd ch fi B kb k nt m H->((eD K H "nope" x/\j=0)\/ (x= .str "t" /\eD K H "zz" y/\j=2))->(∀H',aB H H'->E (.ref (eU c j)) none H')->nR K c CS CB CT vs H E' E
theorem tK(T:aX K mg){c:Ad}(X:dG K mg c)(Y:dA K mg CS)(W:cO K mg CB):aQ P w K mg af (bV P w) 3 CS "board_with" ["self","table","column"] (nR K c CS CB CT):=by
 have G_ofN:aQ P w K mg af (bV P w) 2 CS "board_of" ["self","table"] (mV K c CS CB CT):=rA T X Y;have G_of:aQ P w K mg af aN 2 CS "board_of" ["self","table"] (kH CS CB CT):=lV T Y;have G_has:aQ P w K mg af aN 2 CB "has_column" ["self","column"] (a0s K CB CT):=a9t T W;refine Y.m_board_with.knownE uC (λ_ _ _ _ _ _ us hl=>eQ (λ_ _ _=>rfl) us hl) (λvs H Q E h=> ?_) (λf ah A ag s H vs Q E hr h=> ?_)
 ·obtain⟨s',bd,ch,fi,B,kb,k,nt,m,x,y,j,rfl,_⟩:=h
  rfl
 ·obtain⟨s',bd,ch,fi,B,kb,k,nt,m,x,y,j,rfl,S,hN,q⟩:=h
  obtain⟨dx,h1⟩:=S.sh
  rcases hN with⟨hN,rfl⟩|⟨rfl,hN,rfl⟩
  ·refine⟨_,(aJ (cD (i:=3) uC.nd rfl (Or.inl rfl) (bF (pv 0) Y.cl G_ofN hr cG (aA (pv 1) aC)))
    (aJ bP (aI bP))),?_⟩
   exact⟨_,rfl,s',dx,_,rfl,h1,bY,_,rfl,s',bd,ch,fi,B,kb,k,nt,m,x,rfl,S,hN,q⟩
  ·refine⟨_,(aJ (cD (i:=3) uC.nd rfl (Or.inl rfl) (bF (pv 0) Y.cl G_of hr aL (aA (pv 1) aC)))
    (aJ (bO (cU (cY (bF (pv 3) W.cl G_has hr aL (aA (pv 2) aC)) (λ_=>rfl))) (aI (gX X.c_NoColumn X.x_NoColumn (aA aW aC))) bW) (aI bP))),?_⟩
   refine⟨_,rfl,s',dx,_,rfl,h1,bY,_,rfl,s',bd,ch,fi,dx,kb,"t",_,rfl,h1,S.hb,cF.1,S.tT,λH1 s1=> ?_⟩;have S1:=S.same s1;obtain⟨dB,hB⟩:=S1.bt.at_;exact⟨_,rfl,B.b,dB,_,rfl,hB,mK,_,rfl,B,y,rfl,S1.bt,hN.same s1,S.no.1,λH2 s2=>⟨_,rfl,cB ⟨sl,q _ (s1.trans s2)⟩⟩⟩
inductive vV(K:Fg)(c:Ad)(CS CB CT:Addr)(vs:List V)(H:Hp)(E':VK)(E:XK):Prop
 |mk (s bd ch fi:Addr) (B:BM) (kb:List (aD×V)) (k nt m:Nat) (x y:V) (j:Nat):vs= [.ref s,x,y] ->gG CS CB CT s bd ch fi B kb k nt m H->((eD K H "nope" x/\j=0)\/ (x= .str "t" /\Bn K H y/\j=1)\/ (x= .str "t" /\y= .str "q" /\k=5/\j=4))->(∀H',aB H H'->E (.ref (eU c j)) none H')->vV K c CS CB CT vs H E' E
theorem a3Y(T:aX K mg){c:Ad}(X:dG K mg c)(Y:dA K mg CS)(W:cO K mg CB):aQ P w K mg af (bV P w) 3 CS "board_for" ["self","table","column"] (vV K c CS CB CT):=by
 have G_ofN:aQ P w K mg af (bV P w) 2 CS "board_of" ["self","table"] (mV K c CS CB CT):=rA T X Y;have G_of:aQ P w K mg af aN 2 CS "board_of" ["self","table"] (kH CS CB CT):=lV T Y;refine Y.m_board_for.knownE nZ (λ_ _ _ _ _ _ us hl=>eQ (λ_ _ _=>rfl) us hl) (λvs H Q E h=> ?_) (λf ah A ag s H vs Q E hr h=> ?_)
 ·obtain⟨s',bd,ch,fi,B,kb,k,nt,m,x,y,j,rfl,_⟩:=h
  rfl
 ·obtain⟨s',bd,ch,fi,B,kb,k,nt,m,x,y,j,rfl,S,hN,q⟩:=h
  obtain⟨dx,h1⟩:=S.sh
  rcases hN with⟨hN,rfl⟩|hN
  ·refine⟨_,(aJ (cD (i:=3) nZ.nd rfl (Or.inl rfl) (bF (pv 0) Y.cl G_ofN hr cG (aA (pv 1) aC)))
    (aJ bP (aJ bP (aI bP)))),?_⟩
   exact⟨_,rfl,s',dx,_,rfl,h1,bY,_,rfl,s',bd,ch,fi,B,kb,k,nt,m,x,rfl,S,hN,q⟩
  ·refine⟨_,(aJ (cD (i:=3) nZ.nd rfl (Or.inl rfl) (bF (pv 0) Y.cl G_of hr aL (aA (pv 1) aC)))
    (aJ (bO (cU (cY (bI (iG T) hr.mn aL (aA (pv 2) aC)) (λ_=>rfl))) (aI (gX X.c_NoName X.x_NoName (aA aW aC))) bW)
    (aJ (bO (PW.pt (oQ (cK qA (pv 2) (bB (pv 3) rfl) (by with_unfolding_all rfl)) (pH (cK oK (cM gU rfl T.len fS (aA (bB (pv 3) rfl) aC)) (kN T.g_MOST_COLUMNS) (cN _))))) (aI (gX X.c_TooMuch X.x_TooMuch (aA aW aC))) bW)
    (aI bP)))),?_⟩
   obtain rfl:x= .str "t":=by rcases hN with h|h<;>exact h.1
   refine⟨_,rfl,s',dx,_,rfl,h1,bY,_,rfl,s',bd,ch,fi,dx,kb,"t",_,rfl,h1,S.hb,cF.1,S.tT,λH1 s1=> ?_⟩;have S1:=S.same s1
   rcases hN with⟨_,⟨d,hd,sd,nd⟩,rfl⟩|⟨_,rfl,k5,rfl⟩
   ·refine⟨_,rfl,y,d,rfl,hd.same s1,sd,λH2 s2=>⟨_,rfl,?_⟩⟩
    rw[nd];exact cB ⟨sl,q _ (s1.trans s2)⟩
   ·refine⟨_,rfl,_,.str "q",rfl,.str "q",fD (by decide),λH2 s2=>⟨_,rfl,?_⟩⟩
    rw[show dZ (.str "q")=true from cF.2.2.1.name];have S2:=S1.same s2;obtain⟨⟨dB,hB⟩,_,_,_,hO⟩:=S2.bt;refine bU ⟨_,rfl,_,rfl,B.b,CB,dB,_,_,rfl,hB,W.cl,W.n_order,(dS _ _ _ _).2.2.2,B.od,_,rfl,.inl (aU.of hO),rfl,jW _,_,rfl,?_⟩;rw[show (if true=true then !eJ (.str "q") (B.ord.map V.str) else eJ (.str "q") (B.ord.map V.str))= !decide (("q":Str)∈B.ord)by rw[if_pos rfl,mE],decide_eq_false S.no.2.1];refine cB ⟨_,rfl,B.b,CB,dB,_,_,rfl,hB,W.cl,W.n_order,(dS _ _ _ _).2.2.2,_,_,rfl,.inl ⟨_,aU.of hO,rfl⟩,_,_,rfl,rfl,_,rfl,dJ (λ_=>⟨sl,q _ (s1.trans s2)⟩) (λz=>absurd (by rw[List.length_map,S.no.2.2.1 k5];decide) z)⟩
end
noncomputable def vg (b:Addr) (x y v u:V):List (Str×V):=[("board",.ref b),("column",x),("place",y),("after",v),("before",u)]
noncomputable def ig (b:Addr) (y v:V):List (Str×V):=[("board",.ref b),("place",y),("after",v)]
noncomputable def og (b:Addr) (y:V):List (Str×V):=[("board",.ref b),("place",y),("number",.non),("before",.non)]
theorem a9z(s:aB H0 H)(h:H0 p=none):aB H0 (upd H p o):=λb u e=>by
 rw[aF (bE e h)];exact s _ _ e
theorem gG.col{s:Addr}{k:Nat}(S:gG CS CB CT s bd ch fi B kb k nt m H){t:Str}(ht:t∈(["a","b"]:List Str)):kT B.kvs (.str t)=true/\∃l ys,bC B.kvs (.inr t:aD)=some (.ref l)/\H l=some (.lst ys)/\ys.length=m:=by
 obtain⟨la,lb,ya,yb,e,h1,h2,h3,h4⟩:=S.kv;rw[e];simp only[List.mem_cons,List.not_mem_nil,or_false]at ht
 rcases ht with rfl|rfl
 ·have e:bC [((.inr "a":aD),V.ref la),((.inr "b":aD),V.ref lb)] (.inr "a":aD)=some (.ref la):=iX rfl
  refine⟨?_,la,ya,e,h1,h3⟩;show(eE "a"&&(bC _ _).isSome)=true;rw[e];exact(by decide+kernel:(eE "a"&&true)=true)
 ·have e:bC [((.inr "a":aD),V.ref la),((.inr "b":aD),V.ref lb)] (.inr "b":aD)=some (.ref lb):=by
   rw[jI (show(Sum.inr "a":aD)≠(Sum.inr "b":aD)by decide+kernel)];exact iX rfl
  refine⟨?_,lb,yb,e,h2,h4⟩;show(eE "b"&&(bC _ _).isSome)=true;rw[e];exact(by decide+kernel:(eE "b"&&true)=true)
theorem gG.keys{s:Addr}{k:Nat}(S:gG CS CB CT s bd ch fi B kb k nt m H):B.kvs.map (λp=>kV p.1)=(["a","b"]:List Str).map V.str:=by
 obtain⟨la,lb,ya,yb,e,_⟩:=S.kv;rw[e];rfl
section
inductive a2K(C:Addr)(vs:List V)(H:Hp)(Q:VK)(E:XK):Prop
 |mk (p dx b:Addr) (x y v:V):vs= [.ref p,.ref b,x,y,v] ->H p=some (.ins C dx [])->(∀H',bR p H H'->H' p=some (.ins C dx (vg b x y v .non))->Q .non H')->a2K C vs H Q E
theorem a84(T:aX K mg)(Y:nX K mg C):fX P w K mg af aN 1 C ["self","board","column","place","value"] (a2K C):=by
 refine(Y.m_init.known a6y (λ_ _ _ _ _ _ us hl=>vS (λ_ _ _ _ _=>rfl) us hl) (λf ah A ag s H vs Q E hr h=> ?_)).init Y.mks Y.kc
 ·obtain⟨p,dx,b,x,y,v,rfl,hp,q⟩:=h
  refine⟨_,(aJ (cJ (pv 0) (pv 1) rfl) (aJ (cJ (pv 0) (pv 2) rfl) (aJ (cJ (pv 0) (pv 3) rfl) (aJ (cJ (pv 0) (pv 4) rfl) (aI (cJ (pv 0) iD rfl)))))),?_⟩;refine⟨_,rfl,_,rfl,p,C,dx,[],rfl,hp,Y.cl,Y.n_board,(by show 0<1000;decide),?_⟩;refine⟨_,rfl,_,rfl,p,C,dx,_,rfl,aG,Y.cl,Y.n_column,(by show 1<1000;decide),?_⟩;refine⟨_,rfl,_,rfl,p,C,dx,_,rfl,aG,Y.cl,Y.n_place,(by show 2<1000;decide),?_⟩;refine⟨_,rfl,_,rfl,p,C,dx,_,rfl,aG,Y.cl,Y.n_after,(by show 3<1000;decide),?_⟩;refine⟨_,rfl,p,C,dx,_,rfl,aG,Y.cl,Y.n_before,(by show 4<1000;decide),?_⟩;exact q _ (λb o n z=>by rw[aF n,aF n,aF n,aF n,aF n];exact z) aG
inductive a3y(C:Addr)(vs:List V)(H:Hp)(Q:VK)(E:XK):Prop
 |mk (p dx b:Addr) (y v:V):vs= [.ref p,.ref b,y,v] ->H p=some (.ins C dx [])->(∀H',bR p H H'->H' p=some (.ins C dx (ig b y v))->Q .non H')->a3y C vs H Q E
theorem a5x:bD ["self","board","place","row"] ["self","board","place","row"] (aS a3Z):={}
theorem a4N(T:aX K mg)(Y:nQ K mg C):fX P w K mg af aN 1 C ["self","board","place","row"] (a3y C):=by
 refine(Y.m_init.known a5x (λ_ _ _ _ _ _ us hl=>iH (λ_ _ _ _=>rfl) us hl) (λf ah A ag s H vs Q E hr h=> ?_)).init Y.mks Y.kc
 ·obtain⟨p,dx,b,y,v,rfl,hp,q⟩:=h
  refine⟨_,(aJ (cJ (pv 0) (pv 1) rfl) (aJ (cJ (pv 0) (pv 2) rfl) (aI (cJ (pv 0) (pv 3) rfl)))),?_⟩;refine⟨_,rfl,_,rfl,p,C,dx,[],rfl,hp,Y.cl,Y.n_board,(by show 0<1000;decide),?_⟩;refine⟨_,rfl,_,rfl,p,C,dx,_,rfl,aG,Y.cl,Y.n_place,(by show 1<1000;decide),?_⟩;refine⟨_,rfl,_,rfl,p,C,dx,_,rfl,aG,Y.cl,Y.n_after,(by show 2<1000;decide),?_⟩;exact q _ (λb o n z=>by rw[aF n,aF n,aF n];exact z) aG
inductive a2Y(C:Addr)(vs:List V)(H:Hp)(Q:VK)(E:XK):Prop
 |mk (p dx b:Addr) (y:V):vs= [.ref p,.ref b,y] ->H p=some (.ins C dx [])->(∀H',bR p H H'->H' p=some (.ins C dx (og b y))->Q .non H')->a2Y C vs H Q E
theorem a9Y:bD ["self","board","place"] ["self","board","place"] (aS a08):={}
theorem a3O(T:aX K mg)(Y:nY K mg C):fX P w K mg af aN 1 C ["self","board","place"] (a2Y C):=by
 refine(Y.m_init.known a9Y (λ_ _ _ _ _ _ us hl=>eQ (λ_ _ _=>rfl) us hl) (λf ah A ag s H vs Q E hr h=> ?_)).init Y.mks Y.kc
 ·obtain⟨p,dx,b,y,rfl,hp,q⟩:=h
  refine⟨_,(aJ (cJ (pv 0) (pv 1) rfl) (aJ (cJ (pv 0) (pv 2) rfl) (aJ (cJ (pv 0) iD rfl) (aI (cJ (pv 0) iD rfl))))),?_⟩;refine⟨_,rfl,_,rfl,p,C,dx,[],rfl,hp,Y.cl,Y.n_board,(by show 0<1000;decide),?_⟩;refine⟨_,rfl,_,rfl,p,C,dx,_,rfl,aG,Y.cl,Y.n_place,(by show 1<1000;decide),?_⟩;refine⟨_,rfl,p,C,dx,_,rfl,aG,Y.cl,Y.n_number,(by show 2<1000;decide),?_⟩;refine⟨_,rfl,p,C,dx,_,rfl,aG,Y.cl,Y.n_before,(by show 3<1000;decide),?_⟩;exact q _ (λb o n z=>by rw[aF n,aF n,aF n,aF n];exact z) aG
inductive oA(C:Addr)(CS CB CT:Addr)(fl:Addr->V->V->V->List (Str×V))(bad:BM->Nat->Hp->V->V->V->Nat->Prop)(c:Ad)(vs:List V)(H:Hp)(E':VK)(E:XK):Prop
 |mk (H0:Hp) (p dx s bd ch fi:Addr) (B:BM) (kb:List (aD×V)) (k nt m:Nat) (x y v:V) (j:Nat):vs= [.ref p] ->H p=some (.ins C dx (fl B.b x y v))->H0 p=none->aB H0 H->gG CS CB CT s bd ch fi B kb k nt m H0->bad B m H0 x y v j->(∀H',aB H0 H'->E (.ref (eU c j)) none H')->oA C CS CB CT fl bad c vs H E' E
def yV(K:Fg)(B:BM)(m:Nat)(H:Hp)(x y v:V)(j:Nat):Prop:=∃t dy,x= .str t/\t∈(["a","b"]:List Str)/\Dt K H y dy/\((eS m dy=false/\j=5)\/ (eS m dy=true/\j=6/\∃dv,Dt K H v dv/\hU dv/\eV dv=false))
theorem a9V(T:aX K mg){c:Ad}(X:dG K mg c)(Y:nX K mg C)(W:cO K mg CB)(Z:dE K mg CT):aQ P w K mg af (bV P w) 7 C "take" ["self"] (oA C CS CB CT (λb x y v=>vg b x y v .non) (yV K) c):=by
 refine Y.m_take.knownE a9O (λ_ _ _ _ _ _ us hl=>fG (λ_=>rfl) us hl) (λvs H Q E h=> ?_) (λf ah A ag s H vs Q E hr h=> ?_)
 ·obtain⟨H0,p,dx,s',bd,ch,fi,B,kb,k,nt,m,x,y,v,j,rfl,_⟩:=h
  rfl
 ·obtain⟨H0,p,dx,s',bd,ch,fi,B,kb,k,nt,m,x,y,v,j,rfl,hp,p0,sm,S,⟨t,dy,rfl,ht,hy,hb⟩,q⟩:=h
  have hp:H p=some (.ins C dx (vg B.b (.str t) y v .non)):=hp
  refine⟨_,(aJ (cJ (pv 0) (bF (bB (bB (pv 0) rfl) rfl) Z.cl (a7S T X Z) hr.mn cG (aA (bB (pv 0) rfl) (aA (bB (pv 0) rfl) aC))) rfl)
   (aI (bT (bF (bB (bB (pv 0) rfl) rfl) Z.cl (a8s T X Z) hr.mn cG (aA (bB (pv 0) rfl) (aA (bB (pv 0) rfl) (aA (bB (pv 0) rfl) aC))))))),?_⟩
  have S1:=S.same sm;obtain⟨⟨dB,h1⟩,tb,_,_,_⟩:=id S1.bt;obtain⟨⟨dT,t1⟩,_,_⟩:=id tb;obtain⟨hc,l,ys,hv,hl,ly⟩:=S1.col ht;have hnl:eE t=true/\t.length<=8:=(by decide+kernel:∀t∈(["a","b"]:List Str),eE t=true/\t.length<=8) t ht;have xm:=S.xm;refine⟨_,rfl,p,C,dx,_,_,rfl,hp,Y.cl,Y.n_board,rfl,B.b,CB,dB,_,_,rfl,h1,W.cl,W.n_given,(dS _ _ _ _).1,B.g,dT,_,rfl,t1,fF,_,rfl,p,C,dx,_,_,rfl,hp,Y.cl,Y.n_column,rfl,_,rfl,p,C,dx,_,_,rfl,hp,Y.cl,Y.n_place,rfl,B.g,B.r,B.e,B.xs,B.n,B.kvs,.str t,.str t,y,dy,rfl,tb,.str t,fD (by omega),hy.same sm,λt' l' ys' i v' et _ ev el ei h0 hi ha H2 s2=> ?_,λ_ hpl=> ?_,λz=> ?_,λ_ z H2 s2=> ?_⟩
  ·rcases hb with⟨hp5,_⟩|⟨hp6,rfl,dv,hdv,sdv,bv⟩
   ·rw[xm,ei]at*
    exfalso
    have:eS m (.int i)=true:=by show(decide (0<=i)&&decide (i<(m:Int)))=true;simp;omega
    rw[this]at hp5;cases hp5
   ·have sm2:=sm.trans s2
    refine⟨_,rfl,p,C,dx,_,rfl,s2 _ _ hp,Y.cl,Y.n_before,(by show 5<1000;decide),?_⟩;have sm3:aB H0 (upd H2 p (.ins C dx (aM "before" v' (vg B.b (.str t) y v .non)))):=a9z sm2 p0;have p3:upd H2 p (.ins C dx (aM "before" v' (vg B.b (.str t) y v .non))) p=some (.ins C dx (vg B.b (.str t) y v v')):=aG
    generalize upd H2 p (.ins C dx (aM "before" v' (vg B.b (.str t) y v .non)))=H3 at sm3 p3|-
    have S3:=S.same sm3;obtain⟨⟨dB3,h3⟩,tb3,_,_,_⟩:=id S3.bt;obtain⟨⟨dT3,t3⟩,_,_⟩:=id tb3;refine⟨_,rfl,p,C,dx,_,_,rfl,p3,Y.cl,Y.n_board,rfl,B.b,CB,dB3,_,_,rfl,h3,W.cl,W.n_given,(dS _ _ _ _).1,B.g,dT3,_,rfl,t3,fF,_,rfl,p,C,dx,_,_,rfl,p3,Y.cl,Y.n_column,rfl,_,rfl,p,C,dx,_,_,rfl,p3,Y.cl,Y.n_place,rfl,_,rfl,p,C,dx,_,_,rfl,p3,Y.cl,Y.n_after,rfl,B.g,B.r,B.e,B.xs,B.n,B.kvs,.str t,.str t,y,dy,v,dv,rfl,tb3,.str t,fD (by omega),hy.same sm3,hdv.same sm3,sdv,λ_ _ z=> ?_,λz=> ?_,λ_ z=> ?_,λ_ _ _ H4 s4=>q _ (sm3.trans s4)⟩
    ·rw[bv]at z;cases z
    ·rw[hc]at z;cases z
    ·rw[xm,hp6]at z;cases z
  ·rcases hb with⟨hp5,_⟩|⟨hp6,rfl,_⟩
   ·rw[xm,hp5]at hpl;cases hpl
   ·cases dy with
    |int i=>
     have hi:(decide (0<=i)&&decide (i<(m:Int)))=true:=hp6;simp at hi
     obtain⟨v',hv'⟩:∃v',fE ys i=some v':=by
      obtain⟨x0,e1,_⟩:=xH ys i (by omega) (by omega);exact⟨x0,e1⟩
     exact⟨t,l,ys,i,v',rfl,hnl.1,hv,hl,rfl,by omega,by omega,hv'⟩
    |_=>cases hp6
  ·rw[hc]at z;cases z
  ·rcases hb with⟨_,rfl⟩|⟨hp6,_⟩
   ·exact q _ (sm.trans s2)
   ·rw[xm,hp6]at z;cases z
def badI(K:Fg)(B:BM)(m:Nat)(H:Hp)(x y v:V)(j:Nat):Prop:=∃dy dv,Dt K H y dy/\Dt K H v dv/\((eS ((m:Int)+ 1) dy=false/\j=5)\/ (eS ((m:Int)+ 1) dy=true/\30<=m/\j=4)\/ (eS ((m:Int)+ 1) dy=true/\m<30/\nV K H v dv ["a","b"] /\j=6))
theorem a7B:bD ["self"] ["self"] (aS a40):={}
theorem a5y(T:aX K mg){c:Ad}(X:dG K mg c)(Y:nQ K mg C)(W:cO K mg CB)(Z:dE K mg CT):aQ P w K mg af (bV P w) 7 C "take" ["self"] (oA C CS CB CT (λb _ y v=>ig b y v) (badI K) c):=by
 refine Y.m_take.knownE a7B (λ_ _ _ _ _ _ us hl=>fG (λ_=>rfl) us hl) (λvs H Q E h=> ?_) (λf ah A ag s H vs Q E hr h=> ?_)
 ·obtain⟨H0,p,dx,s',bd,ch,fi,B,kb,k,nt,m,x,y,v,j,rfl,_⟩:=h
  rfl
 ·obtain⟨H0,p,dx,s',bd,ch,fi,B,kb,k,nt,m,x,y,v,j,rfl,hp,p0,sm,S,⟨dy,dv,hy,hv,hb⟩,q⟩:=h
  have hp:H p=some (.ins C dx (ig B.b y v)):=hp;refine⟨_,(aI (bT (bF (bB (bB (pv 0) rfl) rfl) Z.cl (a7C T X Z) hr.mn cG (aA (bB (pv 0) rfl) (aA (bB (pv 0) rfl) aC))))),?_⟩;have S1:=S.same sm;obtain⟨⟨dB,h1⟩,tb,_,_,_⟩:=id S1.bt;obtain⟨⟨dT,t1⟩,_,_⟩:=id tb;refine⟨_,rfl,p,C,dx,_,_,rfl,hp,Y.cl,Y.n_board,rfl,B.b,CB,dB,_,_,rfl,h1,W.cl,W.n_given,(dS _ _ _ _).1,B.g,dT,_,rfl,t1,fF,_,rfl,p,C,dx,_,_,rfl,hp,Y.cl,Y.n_place,rfl,_,rfl,p,C,dx,_,_,rfl,hp,Y.cl,Y.n_after,rfl,B.g,B.r,B.e,B.xs,B.n,B.kvs,y,dy,v,dv,["a","b"],rfl,tb,hy.same sm,hv.same sm,S.keys,?_⟩;rw[S.xm]
  rcases hb with⟨h,rfl⟩|⟨h,h3,rfl⟩|⟨h,h3,hr,rfl⟩
  ·exact .inl ⟨h,λH' s2=>q _ (sm.trans s2)⟩
  ·exact .inr (.inl ⟨h,h3,λH' s2=>q _ (sm.trans s2)⟩)
  ·exact .inr (.inr ⟨h,h3,hr.same sm,λH' s2=>q _ (sm.trans s2)⟩)
inductive a1m(K:Fg)(C:Addr)(c:Ad)(vs:List V)(H:Hp)(E':VK)(E:XK):Prop
 |mk (p r d:Addr) (xs:List V) (n:Int) (kvs:List (aD×V)) (y:V) (dy:PyData):vs= [.ref p,y] ->hV C H p r d xs n kvs->Dt K H y dy->eS xs.length dy=false->E (.ref c.NoPlace) none H->a1m K C c vs H E' E
theorem b01(T:aX K mg){c:Ad}(X:dG K mg c)(Y:dE K mg C):aQ P w K mg af (bV P w) 3 C "number_at" ["self","place"] (a1m K C c):=by
 refine Y.m_number_at.knownE a7F (λ_ _ _ _ _ _ us hl=>dI (λ_ _=>rfl) us hl) (λvs H Q E h=> ?_) (λf ah A ag s H vs Q E hr h=> ?_)
 ·obtain⟨p,r,d,xs,n,kvs,y,dy,rfl,_⟩:=h
  rfl
 ·obtain⟨p,r,d,xs,n,kvs,y,dy,rfl,TA,hy,hb,q⟩:=h
  refine⟨_,(aJ (bT (bI (pM T X) hr.mn cG (aA (pv 1) (aA (fQ (pv 0) Y.cl (gZ T Y) hr.mn aL) aC))))
   (aI bP)),?_⟩
  obtain⟨⟨dd,g1⟩,g2,g3⟩:=id TA;refine⟨_,rfl,_,rfl,p,dd,_,rfl,g1,fF,p,r,d,xs,n,kvs,rfl,TA,y,dy,_,rfl,hy,λz=> ?_,λ_=>q⟩;rw[hb]at z;cases z
def zE(K:Fg)(B:BM)(m:Nat)(H:Hp)(x y v:V)(j:Nat):Prop:=∃dy,Dt K H y dy/\eS m dy=false/\j=5
theorem b1f:bD ["self"] ["self"] (aS a4d):={}
theorem a8R(T:aX K mg){c:Ad}(X:dG K mg c)(Y:nY K mg C)(W:cO K mg CB)(Z:dE K mg CT):aQ P w K mg af (bV P w) 7 C "take" ["self"] (oA C CS CB CT (λb _ y _=>og b y) (zE K) c):=by
 refine Y.m_take.knownE b1f (λ_ _ _ _ _ _ us hl=>fG (λ_=>rfl) us hl) (λvs H Q E h=> ?_) (λf ah A ag s H vs Q E hr h=> ?_)
 ·obtain⟨H0,p,dx,s',bd,ch,fi,B,kb,k,nt,m,x,y,v,j,rfl,_⟩:=h
  rfl
 ·obtain⟨H0,p,dx,s',bd,ch,fi,B,kb,k,nt,m,x,y,v,j,rfl,hp,p0,sm,S,⟨dy,hy,hb,rfl⟩,q⟩:=h
  have hp:H p=some (.ins C dx (og B.b y)):=hp;refine⟨_,(aJ (cJ (pv 0) (bF (bB (bB (pv 0) rfl) rfl) Z.cl (b01 T X Z) hr.mn cG (aA (bB (pv 0) rfl) aC)) rfl) (aJ bP (aI bP))),?_⟩;have S1:=S.same sm;obtain⟨⟨dB,h1⟩,tb,_,_,_⟩:=id S1.bt;obtain⟨⟨dT,t1⟩,_,_⟩:=id tb;exact⟨_,rfl,p,C,dx,_,_,rfl,hp,Y.cl,Y.n_board,rfl,B.b,CB,dB,_,_,rfl,h1,W.cl,W.n_given,(dS _ _ _ _).1,B.g,dT,_,rfl,t1,fF,_,rfl,p,C,dx,_,_,rfl,hp,Y.cl,Y.n_place,rfl,B.g,B.r,B.e,B.xs,B.n,B.kvs,y,dy,rfl,tb,hy.same sm,by rw[S.xm];exact hb,q _ sm⟩
inductive uO(C:Addr)(sp:Sp)(vs:List V)(H:Hp)(E':VK)(E:XK):Prop
 |mk (s c dc:Addr) (fs:List (Str×V)):vs= [.ref s,.ref c] ->H c=some (.ins C dc fs)->fs.lookup ("take":Str)=none->(∀Q,sp [.ref c] H Q E)->uO C sp vs H E' E
theorem zO(Y:dA K mg CS)(cl:dC K C)(G:aQ P w K mg af (bV P w) 7 C "take" ["self"] sp):aQ P w K mg af (bV P w) 8 CS "make" ["self","change"] (uO C sp):=by
 refine Y.m_make.knownE a4g (λ_ _ _ _ _ _ us hl=>dI (λ_ _=>rfl) us hl) (λvs H Q E h=> ?_) (λf ah A ag s H vs Q E hr h=> ?_)
 ·obtain⟨s',c,dc,fs,rfl,_⟩:=h
  rfl
 ·obtain⟨s',c,dc,fs,rfl,hc,hf,q⟩:=h
  refine⟨_,(aJ (bT (fQ (pv 1) cl G hr cG)) (aJ bP (aI bP))),?_⟩;exact⟨_,rfl,c,dc,fs,rfl,hc,hf,q _⟩
abbrev wY:List Str:=["table","give","rule","put","in","out","cell","stretch","total","came","ruled","columns","many"]
def yH:Nat->Nat
 |1=>2
 |2=>2
 |3=>3
 |4=>2
 |5=>1
 |6=>2
 |7=>3
 |8=>1
 |9=>2
 |10=>1
 |_=>0
def arC:Nat->Nat
 |3=>2
 |6=>1
 |7=>2
 |9=>1
 |_=>0
inductive eO(K:Fg)(RN:Hp->V->Prop)(k nt m:Nat)(H:Hp):Nat->List V->Nat->Prop
 |tN {x y:V}:Bn K H x->eO K RN k nt m H 0 [x,y] 1
 |tT {y:V}:eO K RN k nt m H 0 [.str "t",y] 1
 |tS {y:V} {d:PyData}:Dt K H y d->sY d=false->eO K RN k nt m H 0 [.str "q",y] 3
 |tF:nt=4->eO K RN k nt m H 0 [.str "q",.int 3] 4
 |noT {i:Nat} {x:V} {r:List V}:eD K H "nope" x->0<i->i<13->r.length=yH i->eO K RN k nt m H i (x::r) 0
 |noC {i:Nat} {x:V} {r:List V}:eD K H "zz" x->i∈ [3,6,7,8,9,10] ->r.length=arC i->eO K RN k nt m H i (.str "t"::x::r) 2
 |gN {i:Nat} {x v:V}:Bn K H x->i=1\/ i=2->eO K RN k nt m H i [.str "t",x,v] 1
 |gF {i:Nat} {v:V}:k=5->i=1\/ i=2->eO K RN k nt m H i [.str "t",.str "q",v] 4
 |gV {t:Str} {v:V} {d:PyData}:t∈(["a","run"]:List Str)->Dt K H v d->(∀ds,d= .list ds->ds.length<=1000/\∀e∈ds,hU e)->rQ m d=false->eO K RN k nt m H 1 [.str "t",.str t,v] 6
 |rC {r:V}:RN H r->eO K RN k nt m H 2 [.str "t",.str "b",r] 2
 |pR {p v:V}:eO K RN k nt m H 3 [.str "t",.str "run",p,v] 7
 |pV {x y v:V} {j:Nat}:yV K ⟨0,0,0,0,0,0,0,[],0,[],[],[],[]⟩ m H x y v j->eO K RN k nt m H 3 [.str "t",x,y,v] j
 |iV {y v:V} {j:Nat}:badI K ⟨0,0,0,0,0,0,0,[],0,[],[],[],[]⟩ m H .non y v j->eO K RN k nt m H 4 [.str "t",y,v] j
 |oV {y:V} {j:Nat}:zE K ⟨0,0,0,0,0,0,0,[],0,[],[],[],[]⟩ m H .non y .non j->eO K RN k nt m H 5 [.str "t",y] j
 |cP {i:Nat} {t:Str} {y:V} {d:PyData}:t∈(["a","b","run"]:List Str)->i=6\/ i=9->Dt K H y d->eS m d=false->eO K RN k nt m H i [.str "t",.str t,y] 5
 |sP {t:Str} {x y:V} {dx dy:PyData}:t∈(["a","b","run"]:List Str)->Dt K H x dx->Dt K H y dy->(∀i j,dx= .int i->dy= .int j->¬(0<=i/\i<=j/\j<=m))->eO K RN k nt m H 7 [.str "t",.str t,x,y] 5
end
theorem oJ{r:List V}(h:r.length=1):∃a,r= [a]:=by
 match r,h with
 | [a],_=>exact⟨a,rfl⟩
theorem kQ{r:List V}(h:r.length=2):∃a b,r= [a,b]:=by
 match r,h with
 | [a,b],_=>exact⟨a,b,rfl⟩
theorem pK{r:List V}(h:r.length=3):∃a b c,r= [a,b,c]:=by
 match r,h with
 | [a,b,c],_=>exact⟨a,b,c,rfl⟩
theorem vC{r:List V}(h:r.length=0):r= []:=List.length_eq_zero_iff.mp h
noncomputable def oE:Nat->Nat
 |0=>2
 |1=>3
 |2=>3
 |3=>4
 |4=>3
 |5=>2
 |6=>3
 |7=>4
 |8=>2
 |9=>3
 |10=>2
 |_=>1
theorem a8H:∀i,0<i->i<13->yH i+ 1=oE i:=by
 have:∀i∈List.range 13,0<i->yH i+ 1=oE i:=by decide
 exact λi h0 h=>this i (List.mem_range.mpr h) h0
theorem b0J:∀i∈ [3,6,7,8,9,10],arC i+ 2=oE i:=by decide
theorem eO.len{k:Nat}{args:List V}(h:eO K RN k nt m H i args j):args.length=oE i:=by
 cases h with
 |noT _ h0 h1 hr=>rw[List.length_cons,hr];exact a8H _ h0 h1
 |noC _ hi hr=>rw[List.length_cons,List.length_cons,hr];exact b0J _ hi
 |gN _ h=>rcases h with rfl|rfl<;>rfl
 |gF _ h=>rcases h with rfl|rfl<;>rfl
 |cP _ h=>rcases h with rfl|rfl<;>rfl
 |_=>rfl
section
inductive eI(K:Fg)(c:Ad)(CS CB CT:Addr)(RN:Hp->V->Prop)(i:Nat)(vs:List V)(H:Hp)(E':VK)(E:XK):Prop
 |mk (s bd ch fi:Addr) (B:BM) (kb:List (aD×V)) (k nt m:Nat) (args:List V) (j:Nat):vs= .ref s::args->gG CS CB CT s bd ch fi B kb k nt m H->eO K RN k nt m H i args j->(∀H',aB H H'->E (.ref (eU c j)) none H')->eI K c CS CB CT RN i vs H E' E
theorem eI.len{c:Ad}{E:XK}(h:eI K c CS CB CT RN i vs H Q E):vs.length=oE i+ 1:=by
 obtain⟨s,bd,ch,fi,B,kb,k,nt,m,args,j,rfl,_,hB,_⟩:=h;rw[List.length_cons,hB.len]
theorem a9r(T:aX K mg){c:Ad}(X:dG K mg c)(Y:dA K mg CS)(W:cO K mg CB)(U:dE K mg CT)(VP:nX K mg CV):aQ P w K mg af (bV P w) 9 CS "put" ["self","table","column","place","value"] (eI K c CS CB CT RN 3):=by
 have G_withN:aQ P w K mg af (bV P w) 3 CS "board_with" ["self","table","column"] (nR K c CS CB CT):=tK T X Y W;have G_with:aQ P w K mg af aN 3 CS "board_with" ["self","table","column"] (oB CS CB CT):=sO T Y W;have G_make:aQ P w K mg af (bV P w) 8 CS "make" ["self","change"] (uO CV (oA CV CS CB CT (λb x y v=>vg b x y v .non) (yV K) c)):=zO Y VP.cl (a9V T X VP W U);refine Y.m_put.knownE vZ (λ_ _ _ _ _ _ us hl=>vS (λ_ _ _ _ _=>rfl) us hl) (λvs H Q E h=>h.len) (λf ah A ag s H vs Q E hr h=> ?_);obtain⟨s',bd,ch,fi,B,kb,k,nt,m,args,j,rfl,S,hB,q⟩:=h;have hu:=eN hr;obtain⟨dx,h1⟩:=S.sh;have no1:∀(x y p v:V),((eD K H "nope" x/\j=0)\/ (x= .str "t" /\eD K H "zz" y/\j=2))->∃t,dL (dW P w K mg af ["self","table","column","place","value","board"] "Sheet.put" (aS vH) f ah A ag s H E) (dY vH) t/\t {nx:=λ_ H'=>Q .non H',rt:=Q} (fJ ["self","table","column","place","value","board"] [.ref s',x,y,p,v]) H:=λx y p v hN=>by
  refine⟨_,(aJ (cD (i:=5) vZ.nd rfl (Or.inl rfl) (bF (pv 0) Y.cl G_withN hr.mn cG (aA (pv 1) (aA (pv 2) aC)))) (aJ bP (aI bP))),?_⟩;exact⟨_,rfl,s',dx,_,rfl,h1,bY,_,rfl,_,rfl,s',bd,ch,fi,B,kb,k,nt,m,x,y,j,rfl,S,hN,q⟩
 cases hB with
 |noT hN _ _ hr'=>
  obtain⟨y,p,v,rfl⟩:=pK hr';exact no1 _ y p v (.inl ⟨hN,rfl⟩)
 |noC hN _ hr'=>
  obtain⟨p,v,rfl⟩:=kQ hr';exact no1 _ _ p v (.inr ⟨rfl,hN,rfl⟩)
 |pR=>
  refine⟨_,(aJ (cD (i:=5) vZ.nd rfl (Or.inl rfl) (bF (pv 0) Y.cl G_with hr.mn aL (aA (pv 1) (aA (pv 2) aC))))
   (aJ (bO (iY (kE hu (pv 2) (bB (pv 5) rfl))) (aI (gX X.c_Ruled X.x_Ruled (aA aW aC))) bW) (aI bP))),?_⟩
  refine⟨_,rfl,s',dx,_,rfl,h1,bY,_,rfl,_,rfl,s',bd,ch,fi,dx,kb,"t","run",B,rfl,h1,S.hb,cF.1,S.tT,S.bt,cF.2.2.2.2.2.2,S.no.2.2.2 _ (by decide+kernel),λH1 s1=> ?_⟩;obtain⟨⟨dB,hB⟩,_,hR,_,_⟩:=(S.same s1).bt;refine⟨_,rfl,_,rfl,B.b,CB,dB,_,_,rfl,hB,W.cl,W.n_rules,(dS _ _ _ _).2.1,B.ru,_,rfl,cZ.k (k:=Sum.inr "run") hR,_,rfl,?_⟩;rw[S.ru.1];exact cB ⟨sl,q _ s1⟩
 |pV hb=>
  refine⟨_,(aJ (cD (i:=5) vZ.nd rfl (Or.inl rfl) (bF (pv 0) Y.cl G_with hr.mn aL (aA (pv 1) (aA (pv 2) aC))))
   (aJ (bO (iY (kE hu (pv 2) (bB (pv 5) rfl))) (aI bP) bW)
   (aI (bT (bF (pv 0) Y.cl G_make hr cG (aA (eX (a84 T VP) hr.mn VP.c aL (aA (pv 5) (aA (pv 2) (aA (pv 3) (aA (pv 4) aC))))) aC)))))),?_⟩
  obtain⟨t,dy,rfl,ht,hy,hj⟩:=hb;have ht2:t∈(["a","b","run"]:List Str)/\Nl t:=(by unfold Nl;decide+kernel:∀t∈(["a","b"]:List Str),t∈(["a","b","run"]:List Str)/\Nl t) t ht
  have nru:bC B.rus (.inr t:aD)=none:=by
   simp only[List.mem_cons,List.not_mem_nil,or_false]at ht
   rcases ht with rfl|rfl
   ·exact S.ru.2.1
   ·exact S.ru.2.2
  refine⟨_,rfl,s',dx,_,rfl,h1,bY,_,rfl,_,rfl,s',bd,ch,fi,dx,kb,"t",t,B,rfl,h1,S.hb,cF.1,S.tT,S.bt,ht2.2,S.no.2.2.2 _ ht2.1,λH1 s1=> ?_⟩;have S1:=S.same s1;obtain⟨⟨dB,hB⟩,_,hR,_,_⟩:=S1.bt;refine⟨_,rfl,_,rfl,B.b,CB,dB,_,_,rfl,hB,W.cl,W.n_rules,(dS _ _ _ _).2.1,B.ru,_,rfl,cZ.k (k:=Sum.inr t) hR,_,rfl,?_⟩;rw[nru];refine bU ⟨_,rfl,s',dx,_,rfl,s1 _ _ h1,bY,_,rfl,_,rfl,_,rfl,_,rfl,?_⟩;intro p dp hp hdp ne;refine⟨p,dp,B.b,_,_,_,rfl,aG,λH3 b3 p3=>⟨rfl,?_⟩⟩;have s3:aB H1 H3:=λx o e=>b3 _ _ (bE e hp) (by rw[aF (bE e hp),aF (bE e hdp)];exact e)
  exact⟨s',p,dp,_,rfl,p3,rfl,λQ'=>⟨H1,p,dp,s',bd,ch,fi,B,kb,k,nt,m,.str t,_,_,_,rfl,p3,hp,s3,S1,⟨t,dy,rfl,ht,hy.same s1,hj.imp id fun⟨a,b,dv,c,d⟩=>⟨a,b,dv,c.same s1,d⟩⟩,λH' s'=>q _ (s1.trans s')⟩⟩
 |gN _ h=>exact absurd h (by decide)
 |gF _ h=>exact absurd h (by decide)
 |cP _ h=>exact absurd h (by decide)
end
section
theorem a9U:bD ["self","table","place","values"] ["self","table","place","values"] (aS a2H):={}
theorem a8d(T:aX K mg){c:Ad}(X:dG K mg c)(Y:dA K mg CS)(W:cO K mg CB)(U:dE K mg CT)(RP:nQ K mg CV):aQ P w K mg af (bV P w) 9 CS "put_in" ["self","table","place","values"] (eI K c CS CB CT RN 4):=by
 have G_ofN:aQ P w K mg af (bV P w) 2 CS "board_of" ["self","table"] (mV K c CS CB CT):=rA T X Y;have G_of:aQ P w K mg af aN 2 CS "board_of" ["self","table"] (kH CS CB CT):=lV T Y;have G_make:aQ P w K mg af (bV P w) 8 CS "make" ["self","change"] (uO CV (oA CV CS CB CT (λb _ y v=>ig b y v) (badI K) c)):=zO Y RP.cl (a5y T X RP W U);refine Y.m_put_in.knownE a9U (λ_ _ _ _ _ _ us hl=>iH (λ_ _ _ _=>rfl) us hl) (λvs H Q E h=>h.len) (λf ah A ag s H vs Q E hr h=> ?_);obtain⟨s',bd,ch,fi,B,kb,k,nt,m,args,j,rfl,S,hB,q⟩:=h;obtain⟨dx,h1⟩:=S.sh
 cases hB with
 |noT hN _ _ hr'=>
  obtain⟨y,v,rfl⟩:=kQ hr';refine⟨_,(aI (bT (bF (pv 0) Y.cl G_make hr cG (aA (eX (a4N T RP) hr.mn RP.c aL (aA (bF (pv 0) Y.cl G_ofN hr.mn cG (aA (pv 1) aC)) (aA (pv 2) (aA (pv 3) aC)))) aC)))),?_⟩;exact⟨_,rfl,s',dx,_,rfl,h1,bY,_,rfl,s',dx,_,rfl,h1,bY,_,rfl,s',bd,ch,fi,B,kb,k,nt,m,_,rfl,S,hN,q⟩
 |iV hb=>
  refine⟨_,(aI (bT (bF (pv 0) Y.cl G_make hr cG (aA (eX (a4N T RP) hr.mn RP.c aL (aA (bF (pv 0) Y.cl G_of hr.mn aL (aA (pv 1) aC)) (aA (pv 2) (aA (pv 3) aC)))) aC)))),?_⟩;refine⟨_,rfl,s',dx,_,rfl,h1,bY,_,rfl,s',dx,_,rfl,h1,bY,_,rfl,s',bd,ch,fi,dx,kb,"t",_,rfl,h1,S.hb,cF.1,S.tT,λH1 s1=>⟨_,rfl,_,rfl,?_⟩⟩;intro p dp hp hdp ne;refine⟨p,dp,B.b,_,_,rfl,aG,λH3 b3 p3=>⟨rfl,?_⟩⟩;have S1:=S.same s1;have s3:aB H1 H3:=λx o e=>b3 _ _ (bE e hp) (by rw[aF (bE e hp),aF (bE e hdp)];exact e)
  obtain⟨dy,dv,hy,hv,hj⟩:=hb;exact⟨s',p,dp,_,rfl,p3,rfl,λQ'=>⟨H1,p,dp,s',bd,ch,fi,B,kb,k,nt,m,.non,_,_,_,rfl,p3,hp,s3,S1,⟨dy,dv,hy.same s1,hv.same s1,hj.imp id λh=>h.imp id fun⟨a,b,r,e⟩=>⟨a,b,r.same s1,e⟩⟩,λH' s'=>q _ (s1.trans s')⟩⟩
 |noC _ h _=>exact absurd h (by decide)
 |gN _ h=>exact absurd h (by decide)
 |gF _ h=>exact absurd h (by decide)
 |cP _ h=>exact absurd h (by decide)
theorem a9s:bD ["self","table","place"] ["self","table","place"] (aS a42):={}
theorem a5J(T:aX K mg){c:Ad}(X:dG K mg c)(Y:dA K mg CS)(W:cO K mg CB)(U:dE K mg CT)(RP:nY K mg CV):aQ P w K mg af (bV P w) 9 CS "take_out" ["self","table","place"] (eI K c CS CB CT RN 5):=by
 have G_ofN:aQ P w K mg af (bV P w) 2 CS "board_of" ["self","table"] (mV K c CS CB CT):=rA T X Y;have G_of:aQ P w K mg af aN 2 CS "board_of" ["self","table"] (kH CS CB CT):=lV T Y;have G_make:aQ P w K mg af (bV P w) 8 CS "make" ["self","change"] (uO CV (oA CV CS CB CT (λb _ y _=>og b y) (zE K) c)):=zO Y RP.cl (a8R T X RP W U);refine Y.m_take_out.knownE a9s (λ_ _ _ _ _ _ us hl=>eQ (λ_ _ _=>rfl) us hl) (λvs H Q E h=>h.len) (λf ah A ag s H vs Q E hr h=> ?_);obtain⟨s',bd,ch,fi,B,kb,k,nt,m,args,j,rfl,S,hB,q⟩:=h;obtain⟨dx,h1⟩:=S.sh
 cases hB with
 |noT hN _ _ hr'=>
  obtain⟨y,rfl⟩:=oJ hr';refine⟨_,(aI (bT (bF (pv 0) Y.cl G_make hr cG (aA (eX (a3O T RP) hr.mn RP.c aL (aA (bF (pv 0) Y.cl G_ofN hr.mn cG (aA (pv 1) aC)) (aA (pv 2) aC))) aC)))),?_⟩;exact⟨_,rfl,s',dx,_,rfl,h1,bY,_,rfl,s',dx,_,rfl,h1,bY,_,rfl,s',bd,ch,fi,B,kb,k,nt,m,_,rfl,S,hN,q⟩
 |oV hb=>
  refine⟨_,(aI (bT (bF (pv 0) Y.cl G_make hr cG (aA (eX (a3O T RP) hr.mn RP.c aL (aA (bF (pv 0) Y.cl G_of hr.mn aL (aA (pv 1) aC)) (aA (pv 2) aC))) aC)))),?_⟩;refine⟨_,rfl,s',dx,_,rfl,h1,bY,_,rfl,s',dx,_,rfl,h1,bY,_,rfl,s',bd,ch,fi,dx,kb,"t",_,rfl,h1,S.hb,cF.1,S.tT,λH1 s1=>⟨_,rfl,?_⟩⟩;intro p dp hp hdp ne;refine⟨p,dp,B.b,_,rfl,aG,λH3 b3 p3=>⟨rfl,?_⟩⟩;have S1:=S.same s1;have s3:aB H1 H3:=λx o e=>b3 _ _ (bE e hp) (by rw[aF (bE e hp),aF (bE e hdp)];exact e)
  obtain⟨dy,hy,hj⟩:=hb;exact⟨s',p,dp,_,rfl,p3,rfl,λQ'=>⟨H1,p,dp,s',bd,ch,fi,B,kb,k,nt,m,.non,_,.non,_,rfl,p3,hp,s3,S1,⟨dy,hy.same s1,hj⟩,λH' s'=>q _ (s1.trans s')⟩⟩
 |noC _ h _=>exact absurd h (by decide)
 |gN _ h=>exact absurd h (by decide)
 |gF _ h=>exact absurd h (by decide)
 |cP _ h=>exact absurd h (by decide)
inductive a3r(K:Fg)(c:Ad)(CS CB CT:Addr)(vs:List V)(H:Hp)(E':VK)(E:XK):Prop
 |mk (s bd ch fi:Addr) (B:BM) (kb:List (aD×V)) (k nt m:Nat) (x y p:V) (j:Nat):vs= [.ref s,x,y,p] ->gG CS CB CT s bd ch fi B kb k nt m H->((eD K H "nope" x/\j=0)\/ (x= .str "t" /\eD K H "zz" y/\j=2)\/ (∃t d,x= .str "t" /\y= .str t/\t∈(["a","b","run"]:List Str)/\Dt K H p d/\eS m d=false/\j=5))->(∀H',aB H H'->E (.ref (eU c j)) none H')->a3r K c CS CB CT vs H E' E
theorem a2h(T:aX K mg){c:Ad}(X:dG K mg c)(Y:dA K mg CS)(W:cO K mg CB)(Z:dE K mg CT):aQ P w K mg af (bV P w) 4 CS "check_cell" ["self","table","column","place"] (a3r K c CS CB CT):=by
 have G_withN:aQ P w K mg af (bV P w) 3 CS "board_with" ["self","table","column"] (nR K c CS CB CT):=tK T X Y W;have G_with:aQ P w K mg af aN 3 CS "board_with" ["self","table","column"] (oB CS CB CT):=sO T Y W;refine Y.m_check_cell.knownE a8B (λ_ _ _ _ _ _ us hl=>iH (λ_ _ _ _=>rfl) us hl) (λvs H Q E h=> ?_) (λf ah A ag s H vs Q E hr h=> ?_)
 ·obtain⟨s',bd,ch,fi,B,kb,k,nt,m,x,y,p,j,rfl,_⟩:=h
  rfl
 ·obtain⟨s',bd,ch,fi,B,kb,k,nt,m,x,y,p,j,rfl,S,hN,q⟩:=h
  obtain⟨dx,h1⟩:=S.sh;have no:((eD K H "nope" x/\j=0)\/ (x= .str "t" /\eD K H "zz" y/\j=2))->∃t,dL (dW P w K mg af ["self","table","column","place"] "Sheet.check_cell" (aS vX) f ah A ag s H E) (dY vX) t/\t {nx:=λ_ H'=>Q .non H',rt:=Q} (fJ ["self","table","column","place"] [.ref s',x,y,p]) H:=λhN=>by
   refine⟨_,aI (bT (bI (pM T X) hr.mn cG (aA (pv 3) (aA (fQ (bB (bF (pv 0) Y.cl G_withN hr cG (aA (pv 1) (aA (pv 2) aC))) rfl) Z.cl (gZ T Z) hr.mn aL) aC)))),?_⟩;exact⟨_,rfl,_,rfl,s',dx,_,rfl,h1,bY,_,rfl,_,rfl,s',bd,ch,fi,B,kb,k,nt,m,x,y,j,rfl,S,hN,q⟩
  rcases hN with hN|hN|⟨t,d,rfl,rfl,ht,hp,hd,rfl⟩
  ·exact no (.inl hN)
  ·exact no (.inr hN)
  ·refine⟨_,aI (bT (bI (pM T X) hr.mn cG (aA (pv 3) (aA (fQ (bB (bF (pv 0) Y.cl G_with hr aL (aA (pv 1) (aA (pv 2) aC))) rfl) Z.cl (gZ T Z) hr.mn aL) aC)))),?_⟩
   refine⟨_,rfl,_,rfl,s',dx,_,rfl,h1,bY,_,rfl,_,rfl,s',bd,ch,fi,dx,kb,"t",t,B,rfl,h1,S.hb,cF.1,S.tT,S.bt,(mT t ht).2.2,S.no.2.2.2 _ ht,λH1 s1=> ?_⟩;have hB:=(S.same s1).bt;obtain⟨dB,hb⟩:=hB.at_;obtain⟨dT,hT⟩:=hB.tab.at_;refine⟨B.b,CB,dB,_,_,rfl,hb,W.cl,W.n_given,(dS _ _ _ _).1,B.g,dT,_,rfl,hT,fF,B.g,B.r,B.e,B.xs,B.n,B.kvs,rfl,hB.tab,p,d,_,rfl,hp.same s1,λe=> ?_,λ_=>q _ s1⟩;rw[S.xm,hd]at e;cases e
theorem a6s(T:aX K mg){c:Ad}(X:dG K mg c)(Y:dA K mg CS)(W:cO K mg CB)(Z:dE K mg CT):aQ P w K mg af (bV P w) 9 CS "cell" ["self","table","column","place"] (eI K c CS CB CT RN 6):=by
 refine Y.m_cell.knownE a5z (λ_ _ _ _ _ _ us hl=>iH (λ_ _ _ _=>rfl) us hl) (λvs H Q E h=>h.len) (λf ah A ag s H vs Q E hr h=> ?_);obtain⟨s',bd,ch,fi,B,kb,k,nt,m,args,j,rfl,S,hB,q⟩:=h;obtain⟨dx,h1⟩:=S.sh;have go:∀x y p,((eD K H "nope" x/\j=0)\/ (x= .str "t" /\eD K H "zz" y/\j=2)\/ (∃t d,x= .str "t" /\y= .str t/\t∈(["a","b","run"]:List Str)/\Dt K H p d/\eS m d=false/\j=5))->∃t,dL (dW P w K mg af ["self","table","column","place"] "Sheet.cell" (aS vN) f ah A ag s H E) (dY vN) t/\t {nx:=λ_ H'=>Q .non H',rt:=Q} (fJ ["self","table","column","place"] [.ref s',x,y,p]) H:=λx y p hN=>by
  refine⟨_,aJ (bT (bF (pv 0) Y.cl (a2h T X Y W Z) hr.mn cG (aA (pv 1) (aA (pv 2) (aA (pv 3) aC))))) (aI bP),?_⟩;exact⟨_,rfl,s',dx,_,rfl,h1,bY,_,rfl,_,rfl,_,rfl,s',bd,ch,fi,B,kb,k,nt,m,x,y,p,j,rfl,S,hN,q⟩
 cases hB with
 |noT hN _ _ hr'=>
  obtain⟨y,p,rfl⟩:=kQ hr';exact go _ y p (.inl ⟨hN,rfl⟩)
 |noC hN _ hr'=>
  obtain⟨p,rfl⟩:=oJ hr';exact go _ _ p (.inr (.inl ⟨rfl,hN,rfl⟩))
 |cP ht _ hy hp=>exact go _ _ _ (.inr (.inr ⟨_,_,rfl,rfl,ht,hy,hp,rfl⟩))
 |gN _ h=>exact absurd h (by decide)
 |gF _ h=>exact absurd h (by decide)
theorem b09:bD ["self","table","column","place"] ["self","table","column","place"] (aS xA):={}
theorem a6T(T:aX K mg){c:Ad}(X:dG K mg c)(Y:dA K mg CS)(W:cO K mg CB)(Z:dE K mg CT):aQ P w K mg af (bV P w) 9 CS "came_of" ["self","table","column","place"] (eI K c CS CB CT RN 9):=by
 refine Y.m_came_of.knownE b09 (λ_ _ _ _ _ _ us hl=>iH (λ_ _ _ _=>rfl) us hl) (λvs H Q E h=>h.len) (λf ah A ag s H vs Q E hr h=> ?_);obtain⟨s',bd,ch,fi,B,kb,k,nt,m,args,j,rfl,S,hB,q⟩:=h;obtain⟨dx,h1⟩:=S.sh;have go:∀x y p,((eD K H "nope" x/\j=0)\/ (x= .str "t" /\eD K H "zz" y/\j=2)\/ (∃t d,x= .str "t" /\y= .str t/\t∈(["a","b","run"]:List Str)/\Dt K H p d/\eS m d=false/\j=5))->∃t,dL (dW P w K mg af ["self","table","column","place"] "Sheet.came_of" (aS xA) f ah A ag s H E) (dY xA) t/\t {nx:=λ_ H'=>Q .non H',rt:=Q} (fJ ["self","table","column","place"] [.ref s',x,y,p]) H:=λx y p hN=>by
  refine⟨_,aJ (bT (bF (pv 0) Y.cl (a2h T X Y W Z) hr.mn cG (aA (pv 1) (aA (pv 2) (aA (pv 3) aC))))) (aI bP),?_⟩;exact⟨_,rfl,s',dx,_,rfl,h1,bY,_,rfl,_,rfl,_,rfl,s',bd,ch,fi,B,kb,k,nt,m,x,y,p,j,rfl,S,hN,q⟩
 cases hB with
 |noT hN _ _ hr'=>
  obtain⟨y,p,rfl⟩:=kQ hr';exact go _ y p (.inl ⟨hN,rfl⟩)
 |noC hN _ hr'=>
  obtain⟨p,rfl⟩:=oJ hr';exact go _ _ p (.inr (.inl ⟨rfl,hN,rfl⟩))
 |cP ht _ hy hp=>exact go _ _ _ (.inr (.inr ⟨_,_,rfl,rfl,ht,hy,hp,rfl⟩))
 |gN _ h=>exact absurd h (by decide)
 |gF _ h=>exact absurd h (by decide)
theorem a9e(T:aX K mg){c:Ad}(X:dG K mg c)(Y:dA K mg CS)(W:cO K mg CB):aQ P w K mg af (bV P w) 9 CS "is_ruled" ["self","table","column"] (eI K c CS CB CT RN 10):=by
 have G_withN:aQ P w K mg af (bV P w) 3 CS "board_with" ["self","table","column"] (nR K c CS CB CT):=tK T X Y W;refine Y.m_is_ruled.knownE a0S (λ_ _ _ _ _ _ us hl=>eQ (λ_ _ _=>rfl) us hl) (λvs H Q E h=>h.len) (λf ah A ag s H vs Q E hr h=> ?_);obtain⟨s',bd,ch,fi,B,kb,k,nt,m,args,j,rfl,S,hB,q⟩:=h;have hu:=eN hr;obtain⟨dx,h1⟩:=S.sh;have go:∀x y,((eD K H "nope" x/\j=0)\/ (x= .str "t" /\eD K H "zz" y/\j=2))->∃t,dL (dW P w K mg af ["self","table","column"] "Sheet.is_ruled" (aS vF) f ah A ag s H E) (dY vF) t/\t {nx:=λ_ H'=>Q .non H',rt:=Q} (fJ ["self","table","column"] [.ref s',x,y]) H:=λx y hN=>by
  refine⟨_,(aI (cC (sZ (kE hu (pv 2) (bB (bF (pv 0) Y.cl G_withN hr.mn cG (aA (pv 1) (aA (pv 2) aC))) rfl))))),?_⟩;exact⟨_,rfl,_,rfl,s',dx,_,rfl,h1,bY,_,rfl,_,rfl,s',bd,ch,fi,B,kb,k,nt,m,x,y,j,rfl,S,hN,q⟩
 cases hB with
 |noT hN _ _ hr'=>
  obtain⟨y,rfl⟩:=oJ hr';exact go _ y (.inl ⟨hN,rfl⟩)
 |noC hN _ hr'=>
  cases vC hr';exact go _ _ (.inr ⟨rfl,hN,rfl⟩)
 |cP _ h=>exact absurd h (by decide)
 |gN _ h=>exact absurd h (by decide)
 |gF _ h=>exact absurd h (by decide)
theorem a5A(T:aX K mg){c:Ad}(X:dG K mg c)(Y:dA K mg CS):aQ P w K mg af (bV P w) 9 CS "columns" ["self","table"] (eI K c CS CB CT RN 11):=by
 have G_ofN:aQ P w K mg af (bV P w) 2 CS "board_of" ["self","table"] (mV K c CS CB CT):=rA T X Y;refine Y.m_columns.knownE a4y (λ_ _ _ _ _ _ us hl=>dI (λ_ _=>rfl) us hl) (λvs H Q E h=>h.len) (λf ah A ag s H vs Q E hr h=> ?_);obtain⟨s',bd,ch,fi,B,kb,k,nt,m,args,j,rfl,S,hB,q⟩:=h;obtain⟨dx,h1⟩:=S.sh
 cases hB with
 |noT hN _ _ hr'=>
  cases vC hr';refine⟨_,(aI (cC (jZ vA rfl T.list jC (aA (bB (bF (pv 0) Y.cl G_ofN hr.mn cG (aA (pv 1) aC)) rfl) aC)))),?_⟩;exact⟨_,rfl,s',dx,_,rfl,h1,bY,_,rfl,s',bd,ch,fi,B,kb,k,nt,m,_,rfl,S,hN,q⟩
 |noC _ h _=>exact absurd h (by decide)
 |cP _ h=>exact absurd h (by decide)
 |gN _ h=>exact absurd h (by decide)
 |gF _ h=>exact absurd h (by decide)
theorem b1c(T:aX K mg){c:Ad}(X:dG K mg c)(Y:dA K mg CS)(Z:dE K mg CT):aQ P w K mg af (bV P w) 9 CS "many" ["self","table"] (eI K c CS CB CT RN 12):=by
 have G_ofN:aQ P w K mg af (bV P w) 2 CS "board_of" ["self","table"] (mV K c CS CB CT):=rA T X Y;refine Y.m_many.knownE a4Q (λ_ _ _ _ _ _ us hl=>dI (λ_ _=>rfl) us hl) (λvs H Q E h=>h.len) (λf ah A ag s H vs Q E hr h=> ?_);obtain⟨s',bd,ch,fi,B,kb,k,nt,m,args,j,rfl,S,hB,q⟩:=h;obtain⟨dx,h1⟩:=S.sh
 cases hB with
 |noT hN _ _ hr'=>
  cases vC hr';refine⟨_,(aI (cC (fQ (bB (bF (pv 0) Y.cl G_ofN hr.mn cG (aA (pv 1) aC)) rfl) Z.cl (gZ T Z) hr.mn aL))),?_⟩;exact⟨_,rfl,s',dx,_,rfl,h1,bY,_,rfl,s',bd,ch,fi,B,kb,k,nt,m,_,rfl,S,hN,q⟩
 |noC _ h _=>exact absurd h (by decide)
 |cP _ h=>exact absurd h (by decide)
 |gN _ h=>exact absurd h (by decide)
 |gF _ h=>exact absurd h (by decide)
abbrev qH:List Str:=["self","table","column","start","end","many"]
theorem tH:bD qH ["self","table","column","start","end"] (aS oI):={}
theorem a5Z(T:aX K mg){c:Ad}(X:dG K mg c)(Y:dA K mg CS)(W:cO K mg CB)(Z:dE K mg CT):aQ P w K mg af (bV P w) 9 CS "stretch" ["self","table","column","start","end"] (eI K c CS CB CT RN 7):=by
 have G_withN:aQ P w K mg af (bV P w) 3 CS "board_with" ["self","table","column"] (nR K c CS CB CT):=tK T X Y W;have G_with:aQ P w K mg af aN 3 CS "board_with" ["self","table","column"] (oB CS CB CT):=sO T Y W;refine Y.m_stretch.knownE tH (λ_ _ _ _ _ _ us hl=>vS (λ_ _ _ _ _=>rfl) us hl) (λvs H Q E h=>h.len) (λf ah A ag s H vs Q E hr h=> ?_);obtain⟨s',bd,ch,fi,B,kb,k,nt,m,args,j,rfl,S,hB,q⟩:=h;obtain⟨dx,h1⟩:=S.sh;have go:∀x y p r,((eD K H "nope" x/\j=0)\/ (x= .str "t" /\eD K H "zz" y/\j=2))->∃t,dL (dW P w K mg af qH "Sheet.stretch" (aS oI) f ah A ag s H E) (dY oI) t/\t {nx:=λ_ H'=>Q .non H',rt:=Q} (fJ qH [.ref s',x,y,p,r]) H:=λx y p r hN=>by
  refine⟨_,(aJ (cD (i:=5) tH.nd rfl (Or.inl rfl) (fQ (bB (bF (pv 0) Y.cl G_withN hr.mn cG (aA (pv 1) (aA (pv 2) aC))) rfl) Z.cl (gZ T Z) hr.mn aL)) (aJ bP (aI bP))),?_⟩;exact⟨_,rfl,s',dx,_,rfl,h1,bY,_,rfl,_,rfl,s',bd,ch,fi,B,kb,k,nt,m,x,y,j,rfl,S,hN,q⟩
 cases hB with
 |noT hN _ _ hr'=>
  obtain⟨y,p,r,rfl⟩:=pK hr';exact go _ y p r (.inl ⟨hN,rfl⟩)
 |noC hN _ hr'=>
  obtain⟨p,r,rfl⟩:=kQ hr';exact go _ _ p r (.inr ⟨rfl,hN,rfl⟩)
 |sP ht hx hy hn=>
  rename_i t x y ex ey
  refine⟨_,(aJ (cD (i:=5) tH.nd rfl (Or.inl rfl) (fQ (bB (bF (pv 0) Y.cl G_with hr.mn aL (aA (pv 1) (aA (pv 2) aC))) rfl) Z.cl (gZ T Z) hr.mn aL))
   (aJ (bO (PW.pt (fB (cU (cY (bI (lY T) hr.mn aL (aA (pv 3) aC)) (λ_=>rfl))) (fB (cU (cY (bI (lY T) hr.mn aL (aA (pv 4) aC)) (λ_=>rfl))) (fY (cU (a3D iR iR iR aT (pv 3) (pv 4) (pv 5))))))) (aI (gX X.c_NoPlace X.x_NoPlace (aA aW aC))) bW)
   (aI bP))),?_⟩
  refine⟨_,rfl,s',dx,_,rfl,h1,bY,_,rfl,_,rfl,s',bd,ch,fi,dx,kb,"t",t,B,rfl,h1,S.hb,cF.1,S.tT,S.bt,(mT t ht).2.2,S.no.2.2.2 _ ht,λH1 s1=> ?_⟩;have hB:=(S.same s1).bt;obtain⟨dB,hb⟩:=hB.at_;obtain⟨dT,hT⟩:=hB.tab.at_;refine⟨B.b,CB,dB,_,_,rfl,hb,W.cl,W.n_given,(dS _ _ _ _).1,B.g,dT,_,rfl,hT,fF,B.g,B.r,B.e,B.xs,B.n,B.kvs,rfl,hB.tab,?_⟩;rw[S.xm];have q1:=q _ s1;refine⟨_,rfl,x,ex,rfl,hx.same s1,_,rfl,?_⟩
  cases hw:gD ex with
  |false=>exact cB ⟨sl,q1⟩
  |true=>
   obtain⟨i,rfl⟩:∃i,ex= .int i:=by cases ex<;>simp[gD]at hw|-
   refine bU ⟨_,rfl,y,ey,rfl,hy.same s1,_,rfl,?_⟩
   cases hw2:gD ey with
   |false=>exact cB ⟨sl,q1⟩
   |true=>
    obtain⟨i2,rfl⟩:∃i,ey= .int i:=by cases ey<;>simp[gD]at hw2|-
    cases hx;cases hy;have hn':=hn _ _ rfl rfl;refine bU ⟨_,rfl,_,_,rfl,rfl,_,rfl,?_⟩;refine dJ (λa1=>⟨_,rfl,_,_,rfl,rfl,_,rfl,?_⟩) (λ_=>⟨_,rfl,cB ⟨sl,q1⟩⟩);refine dJ (λa2=>⟨_,rfl,_,_,rfl,rfl,_,rfl,?_⟩) (λ_=>⟨_,rfl,cB ⟨sl,q1⟩⟩);exact dJ (λ_=>⟨sl,q1⟩) (λz=>absurd z (by simp at a1 a2;simp;omega))
 |cP _ h=>exact absurd h (by decide)
 |gN _ h=>exact absurd h (by decide)
 |gF _ h=>exact absurd h (by decide)
theorem a0q:bD ["self","table","column","found","place","value"] ["self","table","column"] (aS wM):={}
theorem a6I(T:aX K mg){c:Ad}(X:dG K mg c)(Y:dA K mg CS)(W:cO K mg CB)(Z:dE K mg CT):aQ P w K mg af (bV P w) 9 CS "total" ["self","table","column"] (eI K c CS CB CT RN 8):=by
 have G_withN:aQ P w K mg af (bV P w) 3 CS "board_with" ["self","table","column"] (nR K c CS CB CT):=tK T X Y W;refine Y.m_total.knownE a0q (λ_ _ _ _ _ _ us hl=>eQ (λ_ _ _=>rfl) us hl) (λvs H Q E h=>h.len) (λf ah A ag s H vs Q E hr h=> ?_);obtain⟨s',bd,ch,fi,B,kb,k,nt,m,args,j,rfl,S,hB,q⟩:=h;obtain⟨dx,h1⟩:=S.sh;have go:∀x y,((eD K H "nope" x/\j=0)\/ (x= .str "t" /\eD K H "zz" y/\j=2))->∃t,dL (dW P w K mg af ["self","table","column","found","place","value"] "Sheet.total" (aS wM) f ah A ag s H E) (dY wM) t/\t {nx:=λ_ H'=>Q .non H',rt:=Q} (fJ ["self","table","column","found","place","value"] [.ref s',x,y]) H:=λx y hN=>by
  refine⟨_,(aJ (cD (i:=3) a0q.nd rfl (Or.inl rfl) aT)
   (aJ (jQ yK rfl (zM rfl T.range (aA (fQ (bB (bF (pv 0) Y.cl G_withN hr.mn cG (aA (pv 1) (aA (pv 2) aC))) rfl) Z.cl (gZ T Z) hr.mn aL) aC)) (fO (i:=4) a0q.nd rfl (Or.inl rfl)) (aJ bP (aJ bP (aI bP))))
   (aI bP))),?_⟩
  exact⟨_,rfl,s',dx,_,rfl,h1,bY,_,rfl,_,rfl,s',bd,ch,fi,B,kb,k,nt,m,x,y,j,rfl,S,hN,q⟩
 cases hB with
 |noT hN _ _ hr'=>
  obtain⟨y,rfl⟩:=oJ hr';exact go _ y (.inl ⟨hN,rfl⟩)
 |noC hN _ hr'=>
  cases vC hr';exact go _ _ (.inr ⟨rfl,hN,rfl⟩)
 |cP _ h=>exact absurd h (by decide)
 |gN _ h=>exact absurd h (by decide)
 |gF _ h=>exact absurd h (by decide)
theorem a6B(T:aX K mg){c:Ad}(X:dG K mg c)(Y:dA K mg CS):aQ P w K mg af (bV P w) 9 CS "table" ["self","name","many"] (eI K c CS CB CT RN 0):=by
 refine Y.m_table.knownE a4b (λ_ _ _ _ _ _ us hl=>eQ (λ_ _ _=>rfl) us hl) (λvs H Q E h=>h.len) (λf ah A ag s H vs Q E hr h=> ?_);obtain⟨s',bd,ch,fi,B,kb,k,nt,m,args,j,rfl,S,hB,q⟩:=h;have hu:=eN hr;obtain⟨dx,h1⟩:=S.sh
 obtain⟨x,y,rfl⟩:∃x y,args= [x,y]:=by cases hB<;>first|exact⟨_,_,rfl⟩|(rename_i h _ _;exact absurd h (by decide))|(rename_i h _;exact absurd h (by decide))|(rename_i h;exact absurd h (by decide))
 refine⟨_,(aJ (bO (PW.pt (fB (cU (cY (bI (iG T) hr.mn aL (aA (pv 1) aC)) (λ_=>rfl))) (fY (iY (kE hu (pv 1) (bB (pv 0) rfl)))))) (aI (gX X.c_NoName X.x_NoName (aA aW aC))) bW)
  (aJ (bT (bI (b0h T X) hr.mn cG (aA (pv 2) aC)))
  (aJ (bO (cK oK (cM wP rfl T.len fS (aA (bB (pv 0) rfl) aC)) (kN T.g_MOST_TABLES) (cN _)) (aI (gX X.c_TooMuch X.x_TooMuch (aA aW aC))) bW)
  (aI bP)))),?_⟩
 obtain⟨a1,a2,a3,a4⟩:=iN bd ch fi
 cases hB with
 |tN hN=>
  obtain⟨d,hd,sd,nd⟩:=hN;refine⟨_,rfl,x,d,rfl,hd,sd,λH' s9=>⟨_,rfl,?_⟩⟩;rw[nd];exact cB ⟨sl,q _ s9⟩
 |tT=>
  refine⟨_,rfl,_,.str "t",rfl,.str "t",fD (by decide),λH0 s9=>⟨_,rfl,?_⟩⟩;rw[show dZ (.str "t")=true from cF.1.name];refine bU ⟨_,rfl,_,rfl,s',CS,dx,_,_,rfl,s9 _ _ h1,Y.cl,Y.n_boards,a1,bd,_,rfl,cZ.k (k:=Sum.inr "t") (s9 _ _ S.hb),_,rfl,?_⟩;rw[S.tT];exact cB ⟨sl,q _ s9⟩
 |tS hy hs=>
  refine⟨_,rfl,_,.str "q",rfl,.str "q",fD (by decide),λH0 s9=>⟨_,rfl,?_⟩⟩;rw[show dZ (.str "q")=true from cF.2.2.1.name];refine bU ⟨_,rfl,_,rfl,s',CS,dx,_,_,rfl,s9 _ _ h1,Y.cl,Y.n_boards,a1,bd,_,rfl,cZ.k (k:=Sum.inr "q") (s9 _ _ S.hb),_,rfl,?_⟩;rw[S.tN.2];exact bU ⟨_,rfl,_,_,rfl,hy.same s9,λe=>absurd e (by rw[hs];decide),λ_=>q _ s9⟩
 |tF h4=>
  refine⟨_,rfl,_,.str "q",rfl,.str "q",fD (by decide),λH0 s9=>⟨_,rfl,?_⟩⟩;rw[show dZ (.str "q")=true from cF.2.2.1.name];refine bU ⟨_,rfl,_,rfl,s',CS,dx,_,_,rfl,s9 _ _ h1,Y.cl,Y.n_boards,a1,bd,_,rfl,cZ.k (k:=Sum.inr "q") (s9 _ _ S.hb),_,rfl,?_⟩;rw[S.tN.2];refine bU ⟨_,rfl,_,.int 3,rfl,.int 3,λ_=> ?_,λe=>absurd e (by decide)⟩;refine⟨_,rfl,s',CS,dx,_,_,rfl,s9 _ _ h1,Y.cl,Y.n_boards,a1,bd,kb,rfl,s9 _ _ S.hb,_,_,rfl,rfl,_,rfl,?_⟩;have:=S.kl;exact dJ (λ_=>⟨sl,q _ s9⟩) (λg=>absurd (decide_eq_true (by omega)) g)
 |noT _ h=>exact absurd h (by decide)
 |noC _ h=>exact absurd h (by decide)
inductive uV(CS CB CT:Addr)(vs:List V)(H:Hp)(Q:VK)(E:XK):Prop
 |mk (s bd ch fi dx:Addr) (kb:List (aD×V)) (nm t:Str) (B:BM):vs= [.ref s,.str nm,.str t] ->H s=some (.ins CS dx (eB bd ch fi))->H bd=some (.dK kb)->Nl nm->bC kb (.inr nm:aD)=some (.ref B.b)->dD CB CT H B->Nl t->t∈B.ord->(∀H',aB H H'->Q (.ref B.b) H')->uV CS CB CT vs H Q E
theorem a4W(T:aX K mg)(Y:dA K mg CS)(W:cO K mg CB):aQ P w K mg af aN 3 CS "board_for" ["self","table","column"] (uV CS CB CT):=by
 have G_of:aQ P w K mg af aN 2 CS "board_of" ["self","table"] (kH CS CB CT):=lV T Y;refine Y.m_board_for.known nZ (λ_ _ _ _ _ _ us hl=>eQ (λ_ _ _=>rfl) us hl) (λf ah A ag s H vs Q E hr h=> ?_)
 ·obtain⟨s',bd,ch,fi,dx,kb,nm,t,B,rfl,h1,h2,hn,hv,hB,ht,ho,q⟩:=h
  refine⟨_,(aJ (cD (i:=3) nZ.nd rfl (Or.inl rfl) (bF (pv 0) Y.cl G_of hr aL (aA (pv 1) aC)))
   (aJ (bO (cU (cY (bI (iG T) hr.mn aL (aA (pv 2) aC)) (λ_=>rfl))) (aI bP) bW)
   (aJ (bO (PW.pt (oQ (cK qA (pv 2) (bB (pv 3) rfl) (by with_unfolding_all rfl)) (pH (cK oK (cM gU rfl T.len fS (aA (bB (pv 3) rfl) aC)) (kN T.g_MOST_COLUMNS) (cN _))))) (aI bP) bW)
   (aI (cC (pv 3)))))),?_⟩
  refine⟨_,rfl,s',dx,_,rfl,h1,bY,_,rfl,s',bd,ch,fi,dx,kb,nm,_,rfl,h1,h2,hn,hv,λH1 s1=> ?_⟩;have h8:=ht.2.1;refine⟨_,rfl,_,.str t,rfl,.str t,fD (by omega),λH2 s2=>⟨_,rfl,?_⟩⟩;rw[show dZ (.str t)=true from ht.name];obtain⟨⟨dB,hb⟩,_,_,_,hO⟩:=(hB.same s1).same s2;refine bU ⟨_,rfl,_,rfl,B.b,CB,dB,_,_,rfl,hb,W.cl,W.n_order,(dS _ _ _ _).2.2.2,B.od,_,rfl,.inl (aU.of hO),rfl,jW _,_,rfl,?_⟩;rw[show (if true=true then !eJ (.str t) (B.ord.map V.str) else eJ (.str t) (B.ord.map V.str))= !decide (t∈B.ord)by rw[if_pos rfl,mE],decide_eq_true ho];exact bU ⟨_,rfl,q _ (s1.trans s2)⟩
theorem a9i(T:aX K mg){c:Ad}(X:dG K mg c)(Y:dA K mg CS)(W:cO K mg CB)(U:dE K mg CT):aQ P w K mg af (bV P w) 9 CS "give" ["self","table","column","values"] (eI K c CS CB CT RN 1):=by
 have G_forN:aQ P w K mg af (bV P w) 3 CS "board_for" ["self","table","column"] (vV K c CS CB CT):=a3Y T X Y W;have G_for:aQ P w K mg af aN 3 CS "board_for" ["self","table","column"] (uV CS CB CT):=a4W T Y W;refine Y.m_give.knownE tO (λ_ _ _ _ _ _ us hl=>iH (λ_ _ _ _=>rfl) us hl) (λvs H Q E h=>h.len) (λf ah A ag s H vs Q E hr h=> ?_);obtain⟨s',bd,ch,fi,B,kb,k,nt,m,args,j,rfl,S,hB,q⟩:=h;obtain⟨dx,h1⟩:=S.sh;have go:∀x y v,((eD K H "nope" x/\j=0)\/ (x= .str "t" /\Bn K H y/\j=1)\/ (x= .str "t" /\y= .str "q" /\k=5/\j=4))->∃t,dL (dW P w K mg af ["self","table","column","values","board"] "Sheet.give" (aS xR) f ah A ag s H E) (dY xR) t/\t {nx:=λ_ H'=>Q .non H',rt:=Q} (fJ ["self","table","column","values","board"] [.ref s',x,y,v]) H:=λx y v hN=>by
  refine⟨_,(aJ (cD (i:=4) tO.nd rfl (Or.inl rfl) (bF (pv 0) Y.cl G_forN hr.mn cG (aA (pv 1) (aA (pv 2) aC)))) (aJ bP (aI bP))),?_⟩;exact⟨_,rfl,s',dx,_,rfl,h1,bY,_,rfl,_,rfl,s',bd,ch,fi,B,kb,k,nt,m,x,y,j,rfl,S,hN,q⟩
 cases hB with
 |noT hN _ _ hr'=>
  obtain⟨y,v,rfl⟩:=kQ hr';exact go _ y v (.inl ⟨hN,rfl⟩)
 |gN hN _=>exact go _ _ _ (.inr (.inl ⟨rfl,hN,rfl⟩))
 |gF hk _=>exact go _ _ _ (.inr (.inr ⟨rfl,rfl,hk,rfl⟩))
 |gV ht hv hs hd=>
  rename_i t v d;have ht3:t∈(["a","b","run"]:List Str):=(by decide+kernel:∀t∈(["a","run"]:List Str),t∈(["a","b","run"]:List Str)) t ht
  refine⟨_,(aJ (cD (i:=4) tO.nd rfl (Or.inl rfl) (bF (pv 0) Y.cl G_for hr.mn aL (aA (pv 1) (aA (pv 2) aC))))
   (aJ (bT (bI (a8A T X) hr.mn cG (aA (pv 3) (aA (fQ (bB (pv 4) rfl) U.cl (gZ T U) hr.mn aL) aC))))
   (aI bP))),?_⟩
  refine⟨_,rfl,s',dx,_,rfl,h1,bY,_,rfl,_,rfl,s',bd,ch,fi,dx,kb,"t",t,B,rfl,h1,S.hb,cF.1,S.tT,S.bt,(mT t ht3).2.2,S.no.2.2.2 _ ht3,λH1 s1=> ?_⟩;have hB:=(S.same s1).bt;obtain⟨dB,b1⟩:=hB.at_;obtain⟨dT,t1⟩:=hB.tab.at_;refine⟨_,rfl,_,rfl,B.b,CB,dB,_,_,rfl,b1,W.cl,W.n_given,(dS _ _ _ _).1,B.g,dT,_,rfl,t1,fF,B.g,B.r,B.e,B.xs,B.n,B.kvs,rfl,hB.tab,?_⟩;rw[S.xm];exact⟨v,d,m,rfl,hv.same s1,hs,λe=>absurd e (by rw[hd];decide),λ_ H2 s2=>q _ (s1.trans s2)⟩
 |noC _ h _=>exact absurd h (by decide)
 |cP _ h=>exact absurd h (by decide)
end
section
noncomputable def lR(nl fa:Addr)(fn:Int):List (Str×V):=[("function",V.ref fa),("names",V.ref nl),("first",V.int fn)]
theorem a5w(nl fa:Addr)(fn:Int):(lR nl fa fn).lookup ("function":Str)=some (.ref fa)/\(lR nl fa fn).lookup ("names":Str)=some (.ref nl)/\(lR nl fa fn).lookup ("leans":Str)=none/\(lR nl fa fn).lookup ("gather":Str)=none/\(lR nl fa fn).lookup ("reckon":Str)=none/\(lR nl fa fn).lookup ("first":Str)=some (.int fn):=⟨rfl,rfl,rfl,rfl,rfl,rfl⟩
inductive zQ(K:Fg)(C:Addr)(vs:List V)(H:Hp)(Q:VK)(E:XK):Prop
 |mk (p dx a fa:Addr) (fn:Int) (zs:List Str):vs= [.ref p,.int fn,.ref a,.ref fa] ->H p=some (.ins C dx [])->aU K H a (zs.map V.str)->a≠p->zs.length<=6->(∀z∈zs,Nl z)->kR (.int fn)=true->(∀H' nl,bR p H H'->H nl=none->H' p=some (.ins C dx (lR nl fa fn))->H' nl=some (.lst (zs.map V.str))->Q .non H')->zQ K C vs H Q E
theorem a8L:bD ["self","first","names","function"] ["self","first","names","function"] (aS a4o):={}
theorem a8r(T:aX K mg)(Z:lB K mg R)(Y:pO K mg C):fX P w K mg af aN 4 C ["self","first","names","function"] (zQ K C):=by
 refine(Y.m_init.known a8L (λ_ _ _ _ _ _ us hl=>iH (λ_ _ _ _=>rfl) us hl) (λf ah A ag s H vs Q E hr h=> ?_)).init Y.mks Y.kc
 ·obtain⟨p,dx,a,fa,fn,zs,rfl,hp,hS,nap,z6,hz,hf,q⟩:=h
  refine⟨_,(aJ (bT (rW (gC Z.c) Z.v_init (tI T Z) hr.mn aL (aA (pv 0) (aA (pv 3) aC))))
   (aJ (cJ (pv 0) (bI (a0l T) hr aL (aA (pv 2) aC)) rfl)
   (aJ (bO (cU (cY (bI (a3h T) hr.mn aL (aA (pv 1) aC)) (λ_=>rfl))) (aI bP) bW)
   (aI (cJ (pv 0) (pv 1) rfl))))),?_⟩
  refine⟨_,rfl,_,rfl,p,C,dx,[],.ref fa,rfl,hp,Y.cl,Y.n_function,by decide,?_⟩;have b1:bR p H (upd H p (.ins C dx (aM "function" (.ref fa) []))):=bR.upd;have p1:upd H p (.ins C dx (aM "function" (.ref fa) [])) p=some (.ins C dx (aM "function" (.ref fa) [])):=aG;have n1:∀{b:Addr},upd H p (.ins C dx (aM "function" (.ref fa) [])) b=none->H b=none/\b≠p:=fA
  generalize upd H p (.ins C dx (aM "function" (.ref fa) []))=H1 at b1 p1 n1|-
  have hS1:aU K H1 a (zs.map V.str):=by
   rcases hS with(h|⟨o,h⟩)|h
   ·exact .inl (.inl (b1 _ _ nap h))
   ·exact .inl (.inr ⟨o,b1 _ _ nap h⟩)
   ·exact .inr h
  refine⟨_,rfl,a,zs,rfl,hS1,z6,hz,λH2 nl s2 hnl h2=> ?_⟩;obtain⟨hn0,nnp⟩:=n1 hnl;refine⟨_,rfl,p,C,dx,_,rfl,s2 _ _ p1,Y.cl,Y.n_names,(by show 1<1000;decide),?_⟩;refine⟨_,rfl,_,.int fn,rfl,.int fn,⟨_,rfl,?_⟩⟩;rw[hf];refine bU ?_;refine⟨_,rfl,_,rfl,p,C,dx,_,rfl,aG,Y.cl,Y.n_first,(by show 2<1000;decide),?_⟩;exact q _ nl (((b1.trans (bR.of s2)).trans bR.upd).trans bR.upd) hn0 aG (by rw[aF nnp,aF nnp];exact h2)
inductive uG(C:Addr)(vs:List V)(H:Hp)(Q:VK)(E:XK):Prop
 |mk (p dx nl fa:Addr) (fn:Int) (t:Str) (zs:List Str):vs= [.ref p,.str t] ->H p=some (.ins C dx (lR nl fa fn))->H nl=some (.lst (zs.map V.str))->zs.length<=6->(∀z∈zs,Nl z)->Nl t->(∀H' l ys,aB H H'->H l=none->H' l=some (.lst ys)->cS H' ys (eF (zs.map λz=>(t,z)))->Q (.ref l) H')->uG C vs H Q E
theorem a7r:bD ["self","table"] ["self","table"] (aS rL):={}
theorem a89(T:aX K mg)(Y:pO K mg C):aQ P w K mg af aN 3 C "leans" ["self","table"] (uG C):=by
 refine Y.m_leans.known a7r (λ_ _ _ _ _ _ us hl=>dI (λ_ _=>rfl) us hl) (λf ah A ag s H vs Q E hr h=> ?_)
 ·obtain⟨p,dx,nl,fa,fn,t,zs,rfl,h1,h4,h6,h5,ht,q⟩:=h
  have hcl:∀x,(fV aN P w K mg af ["self","table"] "Above.leans" (aS rL) f ah A ag s H E).nox.env.scope.names.lookup x=some .cell->∃c,(fV aN P w K mg af ["self","table"] "Above.leans" (aS rL) f ah A ag s H E).nox.env.cells.lookup x=some c:=λx hx=>Option.isSome_iff_exists.mp (W.cellsFrom_some _ _ _ (.inl hx))
  refine⟨_,(aI (cC (bI (vD T) hr.mn aL (aA (rD (rY (sc:=aS rL) (N:=["self","table"]) (cp:=[(1,"table")]) hcl) rfl rfl (by decide) (kB (bB (pv 0) rfl)) (λ_ _ _ _ _=>oM) (λ_ _ _ _ _=>(dU (aA (pv 1) (aA (pv 0) aC))))) aC)))),?_⟩;refine⟨_,rfl,p,C,dx,_,_,rfl,h1,Y.cl,Y.n_names,(a5w nl fa fn).2.1,nl,rfl,⟨_,aU.of h4⟩,λD hD=> ?_⟩;refine tW (K:=K) (a:=nl) (xs:=zs.map V.str) (λi ys H2=>aB H H2/\cS H2 ys ((zs.take i).map λz=>(t,z))) ⟨aB.new hD,.nil⟩ (by rintro i ys H2 _ ⟨s2,_⟩;exact aU.of (s2 _ _ h4)) ?_ ?_
  ·rintro i x ys H2 hx h2D ⟨s2,hd⟩
   rw[List.getElem?_map]at hx
   cases e:zs[i]? with
   |none=>rw[e]at hx;cases hx
   |some z=>
    rw[e]at hx;cases hx;have hi:i<zs.length:=(List.getElem?_eq_some_iff.mp e).1
    have hyl:ys.length<=6:=by
     have:=hd.length;rw[List.length_map,List.length_take]at this;omega
    refine⟨_,rfl,_,rfl,sl,λtp htp=> ?_⟩;have s3:aB H2 (upd H2 tp (.tup [.str t,.str z])):=aB.new htp;have t3:upd H2 tp (.tup [.str t,.str z]) tp=some (.tup [.str t,.str z]):=aG
    generalize upd H2 tp (.tup [.str t,.str z])=H3 at s3 t3|-
    have h3D:=s3 _ _ h2D;refine⟨h3D,fU (by omega),(s2.trans s3).on hD,?_⟩;have kt:∀a xs,H3 a=some (.tup xs)->upd H3 D (.lst (ys++ [.ref tp])) a=some (.tup xs):=λa xs e=>by
     rw[aF (λy=>by rw[y,h3D]at e;cases e)];exact e
    have et:((zs.take (i+ 1)).map λz=>(t,z))=((zs.take i).map λz=>(t,z))++ [(t,z)]:=by
     rw[List.take_add_one,e,List.map_append];rfl
    rw[et];exact((hd.same s3).mapT kt).snoc ⟨tp,rfl,kt _ _ t3⟩
  ·rintro ys H2 h2D ⟨s2,hd⟩
   rw[List.length_map,List.take_length]at hd;refine⟨D,ys,_,rfl,h2D,hd,λz hz=> ?_,by rw[List.length_map];omega,λH4 l' ys' s4 hl' h4' hs=> ?_⟩
   ·obtain⟨y,hy,rfl⟩:=List.mem_map.mp hz
    exact⟨ht,h5 y hy⟩
   ·exact q H4 l' ys' (s2.trans s4) (kG s2 hl') h4' hs
noncomputable def lT (k n:Str) (fa:Addr):List (Str×V):=[("function",V.ref fa),("key",V.str k),("name",V.str n)]
theorem a8p(k n:Str)(fa:Addr):(lT k n fa).lookup ("function":Str)=some (.ref fa)/\(lT k n fa).lookup ("key":Str)=some (.str k)/\(lT k n fa).lookup ("name":Str)=some (.str n)/\(lT k n fa).lookup ("leans":Str)=none/\(lT k n fa).lookup ("gather":Str)=none/\(lT k n fa).lookup ("reckon":Str)=none:=⟨rfl,rfl,rfl,rfl,rfl,rfl⟩
inductive zC(C:Addr)(vs:List V)(H:Hp)(Q:VK)(E:XK):Prop
 |mk (p dx fa:Addr) (k n:Str):vs= [.ref p,.str k,.str n,.ref fa] ->H p=some (.ins C dx [])->Nl k->Nl n->(∀H',bR p H H'->H' p=some (.ins C dx (lT k n fa))->Q .non H')->zC C vs H Q E
theorem a7E:bD ["self","key","name","function"] ["self","key","name","function"] (aS a18):={}
theorem a23(T:aX K mg)(Z:lB K mg R)(Y:qY K mg C):fX P w K mg af aN 3 C ["self","key","name","function"] (zC C):=by
 refine(Y.m_init.known a7E (λ_ _ _ _ _ _ us hl=>iH (λ_ _ _ _=>rfl) us hl) (λf ah A ag s H vs Q E hr h=> ?_)).init Y.mks Y.kc
 ·obtain⟨p,dx,fa,k,n,rfl,hp,hk,hn,q⟩:=h
  refine⟨_,(aJ (bT (rW (gC Z.c) Z.v_init (tI T Z) hr.mn aL (aA (pv 0) (aA (pv 3) aC))))
   (aJ (bT (bI (oG T) hr.mn aL (aA (pv 1) aC)))
   (aJ (bT (bI (oG T) hr.mn aL (aA (pv 2) aC)))
   (aJ (cJ (pv 0) (pv 1) rfl)
   (aI (cJ (pv 0) (pv 2) rfl)))))),?_⟩
  have b1:bR p H (upd H p (.ins C dx (aM "function" (.ref fa) []))):=bR.upd;refine⟨_,rfl,_,rfl,p,C,dx,[],.ref fa,rfl,hp,Y.cl,Y.n_function,by decide,?_⟩;refine⟨_,rfl,k,rfl,hk,λH2 s2=>⟨_,rfl,n,rfl,hn,λH3 s3=> ?_⟩⟩;have s23:=s2.trans s3;refine⟨_,rfl,_,rfl,p,C,dx,_,rfl,s23 _ _ aG,Y.cl,Y.n_key,(by show 1<1000;decide),?_⟩;refine⟨_,rfl,_,rfl,p,C,dx,_,rfl,aG,Y.cl,Y.n_name,(by show 2<1000;decide),?_⟩;exact q _ (((b1.trans (bR.of s23)).trans bR.upd).trans bR.upd) aG
inductive rP(C:Addr)(vs:List V)(H:Hp)(Q:VK)(E:XK):Prop
 |mk (p dx fa:Addr) (t k n:Str):vs= [.ref p,.str t] ->H p=some (.ins C dx (lT k n fa))->Nl k->Nl n->Nl t->(∀H' l ys,aB H H'->H l=none->H' l=some (.lst ys)->cS H' ys (eF [(t,k),(t,n)])->Q (.ref l) H')->rP C vs H Q E
theorem a9J:bD ["self","table"] ["self","table"] (aS a3J):={}
theorem a5H(T:aX K mg)(Y:qY K mg C):aQ P w K mg af aN 3 C "leans" ["self","table"] (rP C):=by
 refine Y.m_leans.known a9J (λ_ _ _ _ _ _ us hl=>dI (λ_ _=>rfl) us hl) (λf ah A ag s H vs Q E hr h=> ?_)
 ·obtain⟨p,dx,fa,t,k,n,rfl,h1,hk,hn,ht,q⟩:=h
  refine⟨_,(aI (cC (bI (vD T) hr.mn aL (aA (dQ (aA (dU (aA (pv 1) (aA (bB (pv 0) rfl) aC))) (aA (dU (aA (pv 1) (aA (bB (pv 0) rfl) aC))) aC))) aC)))),?_⟩;obtain⟨g1,g2,g3,_⟩:=a8p k n fa;refine⟨_,rfl,_,rfl,p,C,dx,_,_,rfl,h1,Y.cl,Y.n_key,g2,sl,λt1 ht1=> ?_⟩;have s1:aB H (upd H t1 (.tup [.str t,.str k])):=aB.new ht1;refine⟨_,rfl,_,rfl,p,C,dx,_,_,rfl,s1 _ _ h1,Y.cl,Y.n_name,g3,sl,λt2 ht2=> ?_⟩;have s2:=aB.new (o:=.tup [.str t,.str n]) ht2;refine⟨sl,λl hl=> ?_⟩;have s3:=aB.new (o:=.lst [.ref t1,.ref t2]) hl;refine⟨l,_,[(t,k),(t,n)],rfl,aG,.cons ⟨t1,rfl,s3 _ _ (s2 _ _ aG)⟩ (.cons ⟨t2,rfl,s3 _ _ aG⟩ .nil),λx hx=> ?_,(show 2<=100 by decide),λH4 l' ys s4 hl' h4' hs=> ?_⟩
  ·simp only[List.mem_cons,List.not_mem_nil,or_false]at hx
   rcases hx with rfl|rfl
   ·exact⟨ht,hk⟩
   ·exact⟨ht,hn⟩
  ·have s5:=(s1.trans s2).trans s3
   exact q H4 l' ys (s5.trans s4) (kG s5 hl') h4' hs
noncomputable def kK (k o th:Str) (nl fa:Addr):List (Str×V):=[("function",V.ref fa),("key",V.str k),("other",V.str o),("theirs",V.str th),("names",V.ref nl)]
theorem a5Y(k o th:Str)(nl fa:Addr):(kK k o th nl fa).lookup ("function":Str)=some (.ref fa)/\(kK k o th nl fa).lookup ("names":Str)=some (.ref nl)/\(kK k o th nl fa).lookup ("leans":Str)=none/\(kK k o th nl fa).lookup ("gather":Str)=none/\(kK k o th nl fa).lookup ("reckon":Str)=none/\(kK k o th nl fa).lookup ("key":Str)=some (.str k)/\(kK k o th nl fa).lookup ("other":Str)=some (.str o)/\(kK k o th nl fa).lookup ("theirs":Str)=some (.str th):=⟨rfl,rfl,rfl,rfl,rfl,rfl,rfl,rfl⟩
inductive a0B(K:Fg)(C:Addr)(vs:List V)(H:Hp)(Q:VK)(E:XK):Prop
 |mk (p dx a fa:Addr) (k o th:Str) (zs:List Str):vs= [.ref p,.str k,.str o,.str th,.ref a,.ref fa] ->H p=some (.ins C dx [])->Nl k->Nl o->Nl th->aU K H a (zs.map V.str)->a≠p->zs.length<=6->(∀z∈zs,Nl z)->(∀H' nl,bR p H H'->H nl=none->H' p=some (.ins C dx (kK k o th nl fa))->H' nl=some (.lst (zs.map V.str))->Q .non H')->a0B K C vs H Q E
theorem a93:bD ["self","key","table","theirs","names","function"] ["self","key","table","theirs","names","function"] (aS a1a):={}
theorem uR(T:aX K mg)(Z:lB K mg R)(Y:qN K mg C):fX P w K mg af aN 4 C ["self","key","table","theirs","names","function"] (a0B K C):=by
 refine(Y.m_init.known a93 (λ_ _ _ _ _ _ us hl=>bi6 (λ_ _ _ _ _ _=>rfl) us hl) (λf ah A ag s H vs Q E hr h=> ?_)).init Y.mks Y.kc
 ·obtain⟨p,dx,a,fa,k,o,th,zs,rfl,hp,hk,ho,ht,hS,nap,z6,hz,q⟩:=h
  refine⟨_,(aJ (bT (rW (gC Z.c) Z.v_init (tI T Z) hr.mn aL (aA (pv 0) (aA (pv 5) aC))))
   (aJ (bT (bI (oG T) hr.mn aL (aA (pv 1) aC)))
   (aJ (bT (bI (oG T) hr.mn aL (aA (pv 2) aC)))
   (aJ (bT (bI (oG T) hr.mn aL (aA (pv 3) aC)))
   (aJ (cJ (pv 0) (pv 1) rfl)
   (aJ (cJ (pv 0) (pv 2) rfl)
   (aJ (cJ (pv 0) (pv 3) rfl)
   (aI (cJ (pv 0) (bI (a0l T) hr.mn aL (aA (pv 4) aC)) rfl))))))))),?_⟩
  have b1:bR p H (upd H p (.ins C dx (aM "function" (.ref fa) []))):=bR.upd;have n1:∀{b:Addr},upd H p (.ins C dx (aM "function" (.ref fa) [])) b=none->H b=none/\b≠p:=fA;refine⟨_,rfl,_,rfl,p,C,dx,[],.ref fa,rfl,hp,Y.cl,Y.n_function,by decide,?_⟩;have p1:upd H p (.ins C dx (aM "function" (.ref fa) [])) p=some (.ins C dx (aM "function" (.ref fa) [])):=aG
  generalize upd H p (.ins C dx (aM "function" (.ref fa) []))=H1 at b1 p1 n1|-
  refine⟨_,rfl,k,rfl,hk,λH2 s2=>⟨_,rfl,o,rfl,ho,λH3 s3=>⟨_,rfl,th,rfl,ht,λH4 s4=> ?_⟩⟩⟩;have s24:=(s2.trans s3).trans s4;refine⟨_,rfl,_,rfl,p,C,dx,_,rfl,s24 _ _ p1,Y.cl,Y.n_key,(by show 1<1000;decide),?_⟩;refine⟨_,rfl,_,rfl,p,C,dx,_,rfl,aG,Y.cl,Y.n_other,(by show 2<1000;decide),?_⟩;refine⟨_,rfl,_,rfl,p,C,dx,_,rfl,aG,Y.cl,Y.n_theirs,(by show 3<1000;decide),?_⟩;have b2:bR p H (upd (upd (upd H4 p (.ins C dx (aM "key" (.str k) (aM "function" (.ref fa) [])))) p (.ins C dx (aM "other" (.str o) (aM "key" (.str k) (aM "function" (.ref fa) []))))) p (.ins C dx (aM "theirs" (.str th) (aM "other" (.str o) (aM "key" (.str k) (aM "function" (.ref fa) [])))))):=(((b1.trans (bR.of s24)).trans bR.upd).trans bR.upd).trans bR.upd;have p2:upd (upd (upd H4 p (.ins C dx (aM "key" (.str k) (aM "function" (.ref fa) [])))) p (.ins C dx (aM "other" (.str o) (aM "key" (.str k) (aM "function" (.ref fa) []))))) p (.ins C dx (aM "theirs" (.str th) (aM "other" (.str o) (aM "key" (.str k) (aM "function" (.ref fa) []))))) p=some (.ins C dx [("function",.ref fa),("key",.str k),("other",.str o),("theirs",.str th)]):=aG
  generalize upd (upd (upd H4 p (.ins C dx (aM "key" (.str k) (aM "function" (.ref fa) [])))) p (.ins C dx (aM "other" (.str o) (aM "key" (.str k) (aM "function" (.ref fa) []))))) p (.ins C dx (aM "theirs" (.str th) (aM "other" (.str o) (aM "key" (.str k) (aM "function" (.ref fa) [])))))=H5 at b2 p2|-
  have hS5:aU K H5 a (zs.map V.str):=by
   rcases hS with(h|⟨o,h⟩)|h
   ·exact .inl (.inl (b2 _ _ nap h))
   ·exact .inl (.inr ⟨o,b2 _ _ nap h⟩)
   ·exact .inr h
  refine⟨_,rfl,a,zs,rfl,hS5,z6,hz,λH6 nl s6 hnl h6=> ?_⟩;have nnp:nl≠p:=λy=>by rw[y,p2]at hnl;cases hnl
  have hn0:H nl=none:=by
   cases e:H nl with
   |none=>rfl
   |some ob=>rw[b2 _ _ nnp e]at hnl;cases hnl
  refine⟨_,rfl,p,C,dx,_,rfl,s6 _ _ p2,Y.cl,Y.n_names,(by show 4<1000;decide),?_⟩;exact q _ nl ((b2.trans (bR.of s6)).trans bR.upd) hn0 aG (by rw[aF nnp];exact h6)
inductive sX(C:Addr)(vs:List V)(H:Hp)(Q:VK)(E:XK):Prop
 |mk (p dx nl fa:Addr) (t k o th:Str) (zs:List Str):vs= [.ref p,.str t] ->H p=some (.ins C dx (kK k o th nl fa))->H nl=some (.lst (zs.map V.str))->zs.length<=6->(∀z∈zs,Nl z)->Nl t->Nl k->Nl o->Nl th->(∀H' l ys,aB H H'->H l=none->H' l=some (.lst ys)->cS H' ys (eF ((t,k)::(th::zs).map λz=>(o,z)))->Q (.ref l) H')->sX C vs H Q E
theorem a1u:bD ["self","table","theirs"] ["self","table"] (aS tY):={}
theorem a6S(T:aX K mg)(Y:qN K mg C):aQ P w K mg af aN 3 C "leans" ["self","table"] (sX C):=by
 refine Y.m_leans.known a1u (λ_ _ _ _ _ _ us hl=>dI (λ_ _=>rfl) us hl) (λf ah A ag s H vs Q E hr h=> ?_)
 ·obtain⟨p,dx,nl,fa,t,k,o,th,zs,rfl,h1,h7,z6,hz,ht,hk,ho,hth,q⟩:=h
  obtain⟨_,a2,_,_,_,a6,a7,a8⟩:=a5Y k o th nl fa;have hcl:∀x,(fV aN P w K mg af ["self","table","theirs"] "Lookup.leans" (aS tY) f ah A ag s H E).nox.env.scope.names.lookup x=some .cell->∃c,(fV aN P w K mg af ["self","table","theirs"] "Lookup.leans" (aS tY) f ah A ag s H E).nox.env.cells.lookup x=some c:=λx hx=>Option.isSome_iff_exists.mp (W.cellsFrom_some _ _ _ (.inl hx))
  refine⟨_,(aJ (a5R (te:=jP (dM (zK K (gI 1) "other") (dM (gI 0) eL))) (i:=2) a1u.nd rfl rfl (rY (sc:=aS tY) (N:=["self","table","theirs"]) (cp:=[(0,"self")]) hcl) rfl rfl (by decide) (kB (bX eR (dQ (aA (bB (pv 0) rfl) aC)) (bB (pv 0) rfl))) (λ_ _ _ _ _=>oM) (λ_ _ _ _ _=>by exact(dU (aA (bB (pv 1) rfl) (aA (pv 0) aC)))) rfl)
   (aI (cC (bI (vD T) hr.mn aL (aA (bX eR (dQ (aA (dU (aA (pv 1) (aA (bB (pv 0) rfl) aC))) aC)) (pv 2)) aC))))),?_⟩
  refine⟨_,rfl,p,C,dx,_,_,rfl,h1,Y.cl,Y.n_theirs,a8,sl,λl1 hl1=> ?_⟩;have s1:aB H (upd H l1 (.lst [.str th])):=aB.new hl1;refine⟨_,rfl,p,C,dx,_,_,rfl,s1 _ _ h1,Y.cl,Y.n_names,a2,l1,nl,_,_,rfl,rfl,aG,s1 _ _ h7,sl (by show 1+ _<=1000;rw[List.length_map];omega),λl2 hl2=> ?_⟩;have s2:=aB.new (o:=.lst ([.str th] ++ zs.map V.str)) hl2;have s12:=s1.trans s2;have v2:upd (upd H l1 (.lst [.str th])) l2 (.lst ([.str th] ++ zs.map V.str)) l2=some (.lst ((th::zs).map V.str)):=aG
  generalize upd (upd H l1 (.lst [.str th])) l2 (.lst ([.str th] ++ zs.map V.str))=H2 at s12 v2|-
  refine⟨l2,rfl,⟨_,aU.of v2⟩,λD hD=> ?_⟩;refine tW (K:=K) (a:=l2) (xs:=(th::zs).map V.str) (λi ys H3=>aB H2 H3/\cS H3 ys (((th::zs).map λz=>(o,z)).take i)) ⟨aB.new hD,.nil⟩ (by rintro i ys H3 _ ⟨s3,_⟩;exact aU.of (s3 _ _ v2)) ?_ ?_
  ·rintro i xv ys H3 hx h3D ⟨s3,hd⟩
   rw[List.getElem?_map]at hx
   cases e:(th::zs)[i]? with
   |none=>rw[e]at hx;cases hx
   |some z=>
    rw[e]at hx;cases hx;have hi:i<(th::zs).length:=(List.getElem?_eq_some_iff.mp e).1;rw[List.length_cons]at hi
    have hyl:ys.length<=7:=by
     have:=cS.length hd;rw[List.length_take,List.length_map,List.length_cons]at this;omega
    refine⟨_,rfl,p,C,dx,_,_,rfl,s3 _ _ (s12 _ _ h1),Y.cl,Y.n_other,a7,_,rfl,sl,λtp htp=> ?_⟩;have s4:aB H3 (upd H3 tp (.tup [.str o,.str z])):=aB.new htp;have t4:upd H3 tp (.tup [.str o,.str z]) tp=some (.tup [.str o,.str z]):=aG
    generalize upd H3 tp (.tup [.str o,.str z])=H4 at s4 t4|-
    have h4D:=s4 _ _ h3D;refine⟨h4D,fU (by omega),(s3.trans s4).on hD,?_⟩;have kt:∀a xs,H4 a=some (.tup xs)->upd H4 D (.lst (ys++ [.ref tp])) a=some (.tup xs):=λa xs e=>by
     rw[aF (λy=>by rw[y,h4D]at e;cases e)];exact e
    rw[List.take_add_one,List.getElem?_map,e];exact Paired.snoc ⟨tp,rfl,kt _ _ t4⟩ (cS.mapT (λa xs e=>kt _ _ (s4 _ _ e)) hd)
  ·rintro ys H3 h3D ⟨s3,hd⟩
   rw[List.length_map,show(th::zs).length=((th::zs).map λz=>(o,z)).length by rw[List.length_map],List.take_length]at hd;have s13:=s12.trans s3;refine⟨_,rfl,_,rfl,p,C,dx,_,_,rfl,s13 _ _ h1,Y.cl,Y.n_key,a6,sl,λt1 ht1=> ?_⟩;have s4:=aB.new (o:=.tup [.str t,.str k]) ht1;refine⟨sl,λl3 hl3=> ?_⟩;have s5:=aB.new (o:=.lst [.ref t1]) hl3
   have hyl:ys.length=zs.length+ 1:=by
    have:=hd.length;rw[List.length_map,List.length_cons]at this;exact this
   refine⟨_,rfl,l3,D,_,_,rfl,rfl,aG,s5 _ _ (s4 _ _ h3D),sl (by show 1+ _<=1000;omega),λl4 hl4=> ?_⟩;have s6:=aB.new (o:=.lst ([.ref t1] ++ ys)) hl4;have s46:=(s4.trans s5).trans s6;refine⟨l4,_,(t,k)::(th::zs).map λz=>(o,z),rfl,aG,.cons ⟨t1,rfl,s6 _ _ (s5 _ _ aG)⟩ (hd.same s46),λx hx=> ?_,(by show(zs.map _).length+ 1+ 1<=100;rw[List.length_map];omega),λH7 l' ys' s7 hl' h7' hs=> ?_⟩
   ·rcases List.mem_cons.mp hx with rfl|hx
    ·exact⟨ht,hk⟩
    ·obtain⟨z,hz',rfl⟩:=List.mem_map.mp hx
     rcases List.mem_cons.mp hz' with rfl|hz'
     ·exact⟨ho,hth⟩
     ·exact⟨ho,hz z hz'⟩
   ·have s8:=s13.trans s46
    exact q H7 l' ys' (s8.trans s7) (kG s8 hl') h7' hs
noncomputable def nN (z:Str) (fa:Addr):List (Str×V):=[("function",V.ref fa),("name",V.str z)]
theorem a8i(z:Str)(fa:Addr):(nN z fa).lookup ("function":Str)=some (.ref fa)/\(nN z fa).lookup ("name":Str)=some (.str z)/\(nN z fa).lookup ("leans":Str)=none/\(nN z fa).lookup ("gather":Str)=none/\(nN z fa).lookup ("reckon":Str)=none:=⟨rfl,rfl,rfl,rfl,rfl⟩
inductive a0E(C:Addr)(vs:List V)(H:Hp)(Q:VK)(E:XK):Prop
 |mk (p dx fa:Addr) (z:Str):vs= [.ref p,.str z,.ref fa] ->H p=some (.ins C dx [])->Nl z->(∀H',bR p H H'->H' p=some (.ins C dx (nN z fa))->Q .non H')->a0E C vs H Q E
theorem a95:bD ["self","name","function"] ["self","name","function"] (aS a0W):={}
theorem a6e(T:aX K mg)(Z:lB K mg R)(Y:pQ K mg C):fX P w K mg af aN 3 C ["self","name","function"] (a0E C):=by
 refine(Y.m_init.known a95 (λ_ _ _ _ _ _ us hl=>eQ (λ_ _ _=>rfl) us hl) (λf ah A ag s H vs Q E hr h=> ?_)).init Y.mks Y.kc
 ·obtain⟨p,dx,fa,z,rfl,hp,hz,q⟩:=h
  refine⟨_,(aJ (bT (rW (gC Z.c) Z.v_init (tI T Z) hr.mn aL (aA (pv 0) (aA (pv 2) aC))))
   (aJ (bT (bI (oG T) hr.mn aL (aA (pv 1) aC)))
   (aI (cJ (pv 0) (pv 1) rfl)))),?_⟩
  have b1:bR p H (upd H p (.ins C dx (aM "function" (.ref fa) []))):=bR.upd;refine⟨_,rfl,_,rfl,p,C,dx,[],.ref fa,rfl,hp,Y.cl,Y.n_function,by decide,?_⟩;refine⟨_,rfl,z,rfl,hz,λH2 s2=> ?_⟩;refine⟨_,rfl,_,rfl,p,C,dx,_,rfl,s2 _ _ aG,Y.cl,Y.n_name,(by show 1<1000;decide),?_⟩;exact q _ ((b1.trans (bR.of s2)).trans bR.upd) aG
inductive uI(C:Addr)(vs:List V)(H:Hp)(Q:VK)(E:XK):Prop
 |mk (p dx fa:Addr) (t z:Str):vs= [.ref p,.str t] ->H p=some (.ins C dx (nN z fa))->(∀H' l ys,aB H H'->H l=none->H' l=some (.lst ys)->cS H' ys [(t,z)] ->Q (.ref l) H')->uI C vs H Q E
theorem a9R:bD ["self","table"] ["self","table"] (aS a35):={}
theorem a9S(T:aX K mg)(Y:pQ K mg C):aQ P w K mg af aN 3 C "leans" ["self","table"] (uI C):=by
 refine Y.m_leans.known a9R (λ_ _ _ _ _ _ us hl=>dI (λ_ _=>rfl) us hl) (λf ah A ag s H vs Q E hr h=> ?_)
 ·obtain⟨p,dx,fa,t,z,rfl,h1,q⟩:=h
  refine⟨_,(aI (cC (dQ (aA (dU (aA (pv 1) (aA (bB (pv 0) rfl) aC))) aC)))),?_⟩;refine⟨_,rfl,_,rfl,p,C,dx,_,_,rfl,h1,Y.cl,Y.n_name,(a8i z fa).2.1,sl,λt1 ht1=> ?_⟩;have s1:aB H (upd H t1 (.tup [.str t,.str z])):=aB.new ht1;refine⟨sl,λl hl=> ?_⟩;have s3:=aB.new (o:=.lst [.ref t1]) hl;exact q _ l _ (s1.trans s3) (kG s1 hl) aG (.cons ⟨t1,rfl,s3 _ _ aG⟩ .nil)
theorem a7D{nm:Str}(h1:H gr=some (.ins C dx (nN z fa))):kL (uI C) gr nm [(nm,z)] H:=
 λHb Q' k q=>⟨gr,dx,fa,nm,z,rfl,k _ _ (.inl ⟨_,_,_,rfl⟩) h1,q⟩
theorem a99{fn:Int}{nm:Str}(h1:H gr=some (.ins C dx (lR nl fa fn)))(h2:H nl=some (.lst (zs.map V.str)))(z6:zs.length<=6)(hz:∀z∈zs,Nl z)(ht:Nl nm):kL (uG C) gr nm (eF (zs.map λz=>(nm,z))) H:=
 λHb Q' k q=>⟨gr,dx,nl,fa,fn,nm,zs,rfl,k _ _ (.inl ⟨_,_,_,rfl⟩) h1,k _ _ (.inr ⟨_,rfl⟩) h2,z6,hz,ht,q⟩
theorem a9M{nm k o th:Str}(h1:H gr=some (.ins C dx (kK k o th nl fa)))(h2:H nl=some (.lst (zs.map V.str)))(z6:zs.length<=6)(hz:∀z∈zs,Nl z)(ht:Nl nm)(hk:Nl k)(ho:Nl o)(hth:Nl th):kL (sX C) gr nm (eF ((nm,k)::(th::zs).map λz=>(o,z))) H:=
 λHb Q' kp q=>⟨gr,dx,nl,fa,nm,k,o,th,zs,rfl,kp _ _ (.inl ⟨_,_,_,rfl⟩) h1,kp _ _ (.inr ⟨_,rfl⟩) h2,z6,hz,ht,hk,ho,hth,q⟩
theorem a6o{nm k n:Str}(h1:H gr=some (.ins C dx (lT k n fa)))(hk:Nl k)(hn:Nl n)(ht:Nl nm):kL (rP C) gr nm (eF [(nm,k),(nm,n)]) H:=
 λHb Q' kp q=>⟨gr,dx,fa,nm,k,n,rfl,kp _ _ (.inl ⟨_,_,_,rfl⟩) h1,hk,hn,ht,q⟩
def mS(zs:List bZ):Prop:=∃(pre post:List bZ) (z:bZ),zs=pre++ z::post/\(∀y∈pre,y.1= "t" /\y.2∈(["a","b","run"]:List Str))/\(z=(("t":Str),("zz":Str))\/ z=(("nope":Str),("a":Str)))
inductive a0y(K:Fg)(c:Ad)(CS CB CT:Addr)(vs:List V)(H:Hp)(E':VK)(E:XK):Prop
 |mk (s bd ch fi:Addr) (B:BM) (kb:List (aD×V)) (k nt m:Nat) (l:Addr) (sv:V) (ys:List V) (zs:List bZ):vs= [.ref s,sv,.ref l] ->gG CS CB CT s bd ch fi B kb k nt m H->H l=some (.lst ys)->cS H ys zs->mS zs->iJ H sv ("t","b")->(∀H',aB H H'->E (.ref c.NoColumn) none H')->a0y K c CS CB CT vs H E' E
theorem b0Z(T:aX K mg){c:Ad}(X:dG K mg c)(Y:dA K mg CS)(W:cO K mg CB):aQ P w K mg af (bV P w) 3 CS "check_leans" ["self","spot","leans"] (a0y K c CS CB CT):=by
 have G_has:aQ P w K mg af aN 2 CB "has_column" ["self","column"] (sE CB CT):=zS T W;refine Y.m_check_leans.knownE nF (λ_ _ _ _ _ _ us hl=>eQ (λ_ _ _=>rfl) us hl) (λvs H Q E h=> ?_) (λf ah A ag s H vs Q E hr h=> ?_)
 ·obtain⟨s',bd,ch,fi,B,kb,k,nt,m,l,sv,ys,zs,rfl,_⟩:=h
  rfl
 ·obtain⟨s',bd,ch,fi,B,kb,k,nt,m,l,sv,ys,zs,rfl,S,h3,hz,⟨pre,post,z0,ez,hpre,hz0⟩,⟨av,rfl,hav⟩,q⟩:=h
  have hu:=eN hr;obtain⟨dx,h1⟩:=S.sh
  refine⟨_,(aI (jQ yK rfl (kB (pv 2)) (sK rfl (lD (fO (i:=3) nF.nd rfl (Or.inl rfl)) (lD (fO (i:=4) nF.nd rfl (Or.inl rfl)) uB)))
   (aJ (cD (i:=5) nF.nd rfl (Or.inl rfl) (lM (sZ (kE hu (pv 3) (bB (pv 0) rfl))) (lE (bF (lL hu (bB (pv 0) rfl) (pv 3) (λ_ _=>rfl)) W.cl G_has hr aL (aA (pv 4) aC)))))
   (aI (bO (PW.pt (oQ (cU (cY (pv 5) (λ_=>rfl))) (pH (cK (a4R hr.units) (dU (aA (pv 3) (aA (pv 4) aC))) (pv 1) (cN _))))) (aI (gX X.c_NoColumn X.x_NoColumn (aA aW aC))) bW))))),?_⟩
  refine⟨_,rfl,l,rfl,⟨_,aU.of h3⟩,?_⟩;refine pZ (K:=K) (a:=l) (xs:=ys) (λi σ H2=>∃o3 o4 o5,σ= [some (.ref s'),some (.ref av),some (.ref l),o3,o4,o5] /\aB H H2/\i<=pre.length) ⟨_,_,_,rfl,aB.refl _,Nat.zero_le _⟩ (by rintro i σ H2 _ ⟨_,_,_,_,s2,_⟩;exact aU.of (s2 _ _ h3)) ?_ ?_
  ·rintro i x σ H2 hx ⟨o3,o4,o5,rfl,s2,hi⟩
   obtain⟨z,e,hz2⟩:=hz.at hx;obtain⟨a,rfl,ha⟩:=hz2.same s2;have S2:=S.same s2;have hB2:=S2.bt;obtain⟨dB,hB⟩:=hB2.at_;rw[ez]at e;refine⟨a,_,rfl,bS.of ha,rfl,_,_,rfl,_,_,rfl,rfl,?_⟩;refine⟨_,rfl,_,rfl,s',CS,dx,_,_,rfl,s2 _ _ h1,Y.cl,Y.n_boards,(iN _ _ _).1,bd,_,rfl,cZ.k (k:=Sum.inr z.1) (s2 _ _ S.hb),?_⟩
   have fin:∀{H3:Hp},aB H2 H3->PyData.eqv (.tuple [.str z.1,.str z.2]) (.tuple [.str "t",.str "b"])=false->(PyData.tuple [.str z.1,.str z.2]).canLay0=true->(PyData.tuple [.str z.1,.str z.2]).depth<=64->∀tb:Addr,H3 tb=none->∃dx dy,Dt K (upd H3 tb (.tup [.str z.1,.str z.2])) (.ref tb) dx/\Dt K (upd H3 tb (.tup [.str z.1,.str z.2])) (.ref av) dy/\dx.canLay0=true/\dy.canLay0=true/\dx.depth<=64/\PyData.eqv dx dy=false:=by
    intro H3 s3 he n1 n2 tb htb
    have c2:(PyData.tuple [.str ("t":Str),.str ("b":Str)]).canLay0=true:=by decide+kernel
    have s4:=aB.new (o:=.tup [.str z.1,.str z.2]) htb;exact⟨_,_,.tup (bS.of aG) (.cons (.str _) (.cons (.str _) .nil)),.tup (bS.of (s4 _ _ (s3 _ _ (s2 _ _ hav)))) (.cons (.str _) (.cons (.str _) .nil)),n1,c2,n2,he⟩
   by_cases hlt:i<pre.length
   ·rw[List.getElem?_append_left hlt]at e
    obtain⟨hz1,hz3⟩:=hpre z (List.mem_of_getElem? e);rw[hz1,S.tT];refine⟨_,rfl,cB ?_⟩;refine⟨_,rfl,s',CS,dx,_,_,rfl,s2 _ _ h1,Y.cl,Y.n_boards,(iN _ _ _).1,_,rfl,bd,_,rfl,S.tT▸cZ.k (k:=Sum.inr "t") (s2 _ _ S.hb),B.b,dB,_,rfl,hB,mK,_,rfl,B,z.2,rfl,hB2,(mT _ hz3).2.2,λH3 s3=> ?_⟩;rw[decide_eq_true (S.no.2.2.2 _ hz3)];exact⟨_,rfl,_,rfl,bU ⟨_,_,_,rfl,s2.trans s3,hlt⟩⟩
   ·have hi':i=pre.length:=by omega
    rw[hi',List.getElem?_append_right (Nat.le_refl _),Nat.sub_self]at e;obtain rfl:z0=z:=Option.some.inj e
    rcases hz0 with rfl|rfl
    ·rw[S.tT]
     refine⟨_,rfl,cB ?_⟩;refine⟨_,rfl,s',CS,dx,_,_,rfl,s2 _ _ h1,Y.cl,Y.n_boards,(iN _ _ _).1,_,rfl,bd,_,rfl,S.tT▸cZ.k (k:=Sum.inr "t") (s2 _ _ S.hb),B.b,dB,_,rfl,hB,mK,_,rfl,B,"zz",rfl,hB2,cF.2.2.2.1,λH3 s3=> ?_⟩;rw[decide_eq_false S.no.1];refine⟨_,rfl,_,rfl,cB ⟨_,rfl,_,rfl,sl,λtb htb=> ?_⟩⟩;obtain⟨d1,d2,a1,a2,a3,a4,a5,a6⟩:=fin s3 (by decide+kernel) (by decide+kernel) (by decide+kernel) tb htb;refine⟨_,rfl,d1,d2,a1,a2,a3,a4,a5,_,rfl,?_⟩;rw[a6];exact cB ⟨sl,q _ ((s2.trans s3).trans (aB.new htb))⟩
    ·rw[S.tN.1]
     refine⟨_,rfl,bU ?_⟩;refine⟨_,rfl,_,rfl,cB ⟨_,rfl,_,rfl,sl,λtb htb=> ?_⟩⟩;obtain⟨d1,d2,a1,a2,a3,a4,a5,a6⟩:=fin (aB.refl _) (by decide+kernel) (by decide+kernel) (by decide+kernel) tb htb;refine⟨_,rfl,d1,d2,a1,a2,a3,a4,a5,_,rfl,?_⟩;rw[a6];exact cB ⟨sl,q _ (s2.trans (aB.new htb))⟩
  ·rintro σ H2 ⟨o3,o4,o5,rfl,s2,hi⟩
   have:=hz.length;rw[ez,List.length_append,List.length_cons]at this;omega
def cI(RL:Addr->Sp->Prop)(H:Hp)(r:V):Prop:=∃(gr dg CG:Addr) (spl:Sp) (fs:List (Str×V)) (zs:List bZ),r= .ref gr/\RL CG spl/\H gr=some (.ins CG dg fs)/\fs.lookup ("leans":Str)=none/\kL spl gr "t" zs H/\mS zs
theorem cI.same{r:V}(s:aB H H')(h:cI RL H r):cI RL H' r:=by
 obtain⟨gr,dg,CG,spl,fs,zs,h1,h2,h3,h4,h5,h6⟩:=h;exact⟨gr,dg,CG,spl,fs,zs,h1,h2,s _ _ h3,h4,h5.mv (iF.of s),h6⟩
theorem b0s(T:aX K mg){c:Ad}(X:dG K mg c)(Y:dA K mg CS)(W:cO K mg CB)(hRL:∀C sp,RL C sp->dC K C/\aQ P w K mg af aN 3 C "leans" ["self","table"] sp):aQ P w K mg af (bV P w) 9 CS "rule" ["self","table","column","rule"] (eI K c CS CB CT (cI RL) 2):=by
 have G_forN:aQ P w K mg af (bV P w) 3 CS "board_for" ["self","table","column"] (vV K c CS CB CT):=a3Y T X Y W;have G_for:aQ P w K mg af aN 3 CS "board_for" ["self","table","column"] (uV CS CB CT):=a4W T Y W;have G_cl:aQ P w K mg af (bV P w) 3 CS "check_leans" ["self","spot","leans"] (a0y K c CS CB CT):=b0Z T X Y W;refine Y.m_rule.knownE oO (λ_ _ _ _ _ _ us hl=>iH (λ_ _ _ _=>rfl) us hl) (λvs H Q E h=>h.len) (λf ah A ag s H vs Q E hr h=> ?_);obtain⟨s',bd,ch,fi,B,kb,k,nt,m,args,j,rfl,S,hB,q⟩:=h;obtain⟨dx,h1⟩:=S.sh;have go:∀x y v,((eD K H "nope" x/\j=0)\/ (x= .str "t" /\Bn K H y/\j=1)\/ (x= .str "t" /\y= .str "q" /\k=5/\j=4))->∃t,dL (dW P w K mg af ["self","table","column","rule","board","leans"] "Sheet.rule" (aS vO) f ah A ag s H E) (dY vO) t/\t {nx:=λ_ H'=>Q .non H',rt:=Q} (fJ ["self","table","column","rule","board","leans"] [.ref s',x,y,v]) H:=λx y v hN=>by
  refine⟨_,(aJ (cD (i:=4) oO.nd rfl (Or.inl rfl) (bF (pv 0) Y.cl G_forN hr.mn cG (aA (pv 1) (aA (pv 2) aC)))) (aJ bP (aJ bP (aJ bP (aI bP))))),?_⟩;exact⟨_,rfl,s',dx,_,rfl,h1,bY,_,rfl,_,rfl,s',bd,ch,fi,B,kb,k,nt,m,x,y,j,rfl,S,hN,q⟩
 cases hB with
 |noT hN _ _ hr'=>
  obtain⟨y,v,rfl⟩:=kQ hr';exact go _ y v (.inl ⟨hN,rfl⟩)
 |gN hN _=>exact go _ _ _ (.inr (.inl ⟨rfl,hN,rfl⟩))
 |gF hk _=>exact go _ _ _ (.inr (.inr ⟨rfl,rfl,hk,rfl⟩))
 |rC hR=>
  obtain⟨gr,dg,CG,spl,fs,zs,rfl,hRc,hgr,hnl,le,hz⟩:=hR
  refine⟨_,(aJ (cD (i:=4) oO.nd rfl (Or.inl rfl) (bF (pv 0) Y.cl G_for hr.mn aL (aA (pv 1) (aA (pv 2) aC))))
   (aJ (cD (i:=5) oO.nd rfl (Or.inl rfl) (yW (R:=RL) (pv 3) hRL hr.mn aL (aA (pv 1) aC)))
   (aJ (bT (bF (pv 0) Y.cl G_cl hr.mn cG (aA (dU (aA (pv 1) (aA (pv 2) aC))) (aA (pv 5) aC))))
   (aJ bP (aI bP))))),?_⟩
  refine⟨_,rfl,s',dx,_,rfl,h1,bY,_,rfl,_,rfl,s',bd,ch,fi,dx,kb,"t","b",B,rfl,h1,S.hb,cF.1,S.tT,S.bt,cF.2.2.2.2.2.1,S.no.2.2.2 _ (by decide+kernel),λH1 s1=> ?_⟩;refine⟨_,rfl,CG,spl,gr,dg,_,hRc,rfl,s1 _ _ hgr,hnl,_,rfl,le H1 _ (iF.of s1) λH2 l ys s2 hl h2l hsp=> ?_⟩;have s12:=s1.trans s2;refine⟨_,rfl,s',dx,_,rfl,s12 _ _ h1,bY,_,rfl,_,rfl,sl,λt1 ht1=> ?_⟩;have s3':=aB.new (o:=.tup [.str "t",.str "b"]) ht1;have s3:=s12.trans s3';exact⟨_,rfl,s',bd,ch,fi,B,kb,k,nt,m,l,.ref t1,ys,zs,rfl,S.same s3,s3' _ _ h2l,hsp.same s3',hz,⟨t1,rfl,aG⟩,λH' s4=>q _ (s3.trans s4)⟩
 |noC _ h _=>exact absurd h (by decide)
 |cP _ h=>exact absurd h (by decide)
end
noncomputable def er:Option Addr->Hp->Hp
 |none,H=>H
 |some l,H=>λb=>if b=l then none else H b
def iM(l:Option Addr)(H:Hp):Prop:=∀a,l=some a->H a≠none
theorem jK:aB (er l H) H:=λb o e=>by
 cases l with
 |none=>exact e
 |some l=>
  by_cases y:b=l
  ·rw[show er (some l) H b=none from if_pos y]at e;cases e
  ·rw[show er (some l) H b=H b from if_neg y]at e;exact e
theorem jM(s:aB H H'):aB (er l H) (er l H'):=λb o e=>by
 cases l with
 |none=>exact s _ _ e
 |some l=>
  by_cases y:b=l
  ·rw[show er (some l) H b=none from if_pos y]at e;cases e
  ·rw[show er (some l) H b=H b from if_neg y]at e
   rw[show er (some l) H' b=H' b from if_neg y];exact s _ _ e
theorem iM.mv(s:aB H H')(h:iM l H):iM l H':=λa e y=>by
 cases e2:H a with
 |none=>exact h a e e2
 |some o=>rw[s _ _ e2]at y;cases y
theorem oP(h:H p=none):er l H p=none:=by
 cases l with
 |none=>exact h
 |some l=>
  show(if p=l then none else H p)=none;rw[h,ite_self]
theorem tR(h:∀a,l=some a->p≠a):er l H p=H p:=by
 cases l with
 |none=>rfl
 |some l=>exact if_neg (h l rfl)
theorem mO(k:iM l H)(h:H p=none):er l (upd H p o)=upd (er l H) p o:=by
 cases l with
 |none=>rfl
 |some l=>
  have np:p≠l:=λy=>k l rfl (y▸h)
  funext b;by_cases y:b=l
  ·rw[show er (some l) (upd H p o) b=none from if_pos y,aF (λz=>np (z.symm.trans y)),show er (some l) H b=none from if_pos y]
  ·rw[show er (some l) (upd H p o) b=upd H p o b from if_neg y]
   by_cases z:b=p
   ·rw[z,aG,aG]
   ·rw[aF z,aF z,show er (some l) H b=H b from if_neg y]
theorem wS(h:H p=none):er (some p) (upd H p o)=H:=by
 funext b;by_cases y:b=p
 ·rw[show er (some p) (upd H p o) b=none from if_pos y,y,h]
 ·rw[show er (some p) (upd H p o) b=upd H p o b from if_neg y,aF y]
theorem zN:er (some p) (upd H p o)=er (some p) H:=by
 funext b;by_cases y:b=p
 ·rw[show er (some p) (upd H p o) b=none from if_pos y,show er (some p) H b=none from if_pos y]
 ·rw[show er (some p) (upd H p o) b=upd H p o b from if_neg y,aF y,show er (some p) H b=H b from if_neg y]
def Ev(l:Option Addr)(H0:Hp)(σ:St)(t:TE)(Φ:Hp->V->Prop):Prop:=∀(H:Hp) (Q:VK),iM l H->aB H0 (er l H)->(∀v H',aB H H'->Φ (er l H') v->Q v H')->t σ H Q
def fW(l:Option Addr)(H0:Hp)(σ:St)(t:TA)(Ψ:Hp->List V->Prop):Prop:=∀(H:Hp) (Q:List V->Hp->Prop),iM l H->aB H0 (er l H)->(∀vs H',aB H H'->Ψ (er l H') vs->Q vs H')->t σ H Q
theorem lC:iM none H:=λa e=>by cases e
def Mn(Φ:Hp->V->Prop):Prop:=∀(H H':Hp) (v:V),aB H H'->Φ H v->Φ H' v
def iT(Φ:Hp->V->Prop)(n:Nat)(H:Hp)(vs:List V):Prop:=vs.length=n/\∀v∈vs,Φ H v
section
theorem fW.nilN:fW l H0 σ eL (iT Φ 0):=λH Q _ s q=>q _ _ (aB.refl _) ⟨rfl,λv h=>by cases h⟩
theorem fW.consN(mn:Mn Φ)(e:Ev l H0 σ te Φ)(r:fW l H0 σ ta (iT Φ n)):fW l H0 σ (dM te ta) (iT Φ (n+ 1)):=λH Q k s q=>e H _ k s λv H1 s1 h1=>r H1 _ (k.mv s1) (s.trans (jM s1)) λvs H2 s2 ⟨h2,h3⟩=>q _ _ (s1.trans s2) ⟨by rw[List.length_cons,h2],λx hx=>by
 rcases List.mem_cons.mp hx with rfl|hx
 ·exact mn _ _ _ (jM s2) h1
 ·exact h3 _ hx⟩
def IsL(Φ:Hp->V->Prop)(n:Nat)(H:Hp)(v:V):Prop:=∃a xs,v= .ref a/\H a=some (.lst xs)/\iT Φ n H xs
theorem iT.mn(mn:Mn Φ)(s:aB H H')(h:iT Φ n H vs):iT Φ n H' vs:=⟨h.1,λv hv=>mn _ _ _ s (h.2 v hv)⟩
theorem IsL.mn(mn:Mn Φ):Mn (IsL Φ n):=λ_ _ _ s h=>let ⟨a,xs,e,h1,h2⟩:=h;⟨a,xs,e,s _ _ h1,h2.mn mn s⟩
theorem Ev.lst(mn:Mn Φ)(r:fW l H0 σ ta (iT Φ n))(hn:n<=1000):Ev l H0 σ (kO ta) (IsL Φ n):=λH Q k s q=>r H _ k s λvs H1 s1 h1=>⟨by rw[h1.1];exact Nat.le_trans hn (by decide),λp hp=>q _ _ (s1.trans (aB.new hp)) (by
 rw[mO (k.mv s1) hp]
 exact⟨p,vs,rfl,aG,h1.mn mn (aB.new (oP hp))⟩)⟩
theorem Ev.cat(mn:Mn Φ)(hi:σ[i]?=some (some v))(h0:IsL Φ n H0 v)(e:Ev l H0 σ te (IsL Φ m))(hn:n+ m<=1000):Ev l H0 σ (hJ uF (gI i) te) (IsL Φ (n+ m)):=λH Q k s q=>⟨v,hi,e H _ k s λu H1 s1 h1=>by
 obtain⟨a,xs,rfl,e1,h2⟩:=IsL.mn mn _ _ _ (s.trans (jM s1)) h0;obtain⟨b,ys,rfl,e2,h3⟩:=h1;refine⟨a,b,xs,ys,rfl,rfl,jK _ _ e1,jK _ _ e2,by rw[h2.1,h3.1];exact Nat.le_trans hn (by decide),λp hp=>q _ _ (s1.trans (aB.new hp)) ?_⟩;rw[mO (k.mv s1) hp];refine⟨p,_,rfl,aG,by rw[List.length_append,h2.1,h3.1],λx hx=> ?_⟩
 rcases List.mem_append.mp hx with hx|hx
 ·exact mn _ _ _ (aB.new (oP hp)) (h2.2 _ hx)
 ·exact mn _ _ _ (aB.new (oP hp)) (h3.2 _ hx)⟩
theorem IsL.at{i:Int}(h:IsL Φ n (er l H) v)(h0:0<=i)(h1:i<n)(q:∀x,Φ (er l H) x->Q x H):uK K v (.int i) H Q:=by
 obtain⟨a,xs,rfl,e,h2,h3⟩:=h;obtain⟨x,ex,em⟩:=xH xs i h0 (by rw[h2];exact h1);exact⟨a,xs,i,x,rfl,rfl,aU.of (jK _ _ e),ex,q x (h3 _ (List.mem_of_getElem? em))⟩
def bL(K:Fg)(φ:PyData->Prop)(H:Hp)(v:V):Prop:=∃d,Dt K H v d/\φ d
theorem bL.mn{φ:PyData->Prop}:Mn (bL K φ):=λ_ _ _ s h=>let ⟨d,a,b⟩:=h;⟨d,a.same s,b⟩
section
variable{φ:PyData->Prop}
theorem Ev.c(hd:∀H,Dt K H v d)(h:φ d):Ev l H0 σ (tC v) (bL K φ):=λH Q _ s q=>q _ _ (aB.refl _) ⟨d,hd _,h⟩
theorem Ev.lstD(r:fW l H0 σ ta (λH vs=>cL K H vs ds))(hl:ds.length<=1000)(h:φ (.list ds)):Ev l H0 σ (kO ta) (bL K φ):=λH Q k s q=>r H _ k s λvs H1 s1 h1=>⟨by rw[h1.length];exact Nat.le_trans hl (by decide),λp hp=>q _ _ (s1.trans (aB.new hp)) (by
 rw[mO (k.mv s1) hp]
 exact⟨_,.lst (aU.of aG) (h1.same (aB.new (oP hp))),h⟩)⟩
theorem Ev.tupD(r:fW l H0 σ ta (λH vs=>cL K H vs ds))(hl:ds.length<=1000)(h:φ (.tuple ds)):Ev l H0 σ (jP ta) (bL K φ):=λH Q k s q=>r H _ k s λvs H1 s1 h1=>⟨by rw[h1.length];exact Nat.le_trans hl (by decide),λp hp=>q _ _ (s1.trans (aB.new hp)) (by
 rw[mO (k.mv s1) hp]
 exact⟨_,.tup (bS.of aG) (h1.same (aB.new (oP hp))),h⟩)⟩
theorem fW.nilD:fW l H0 σ eL (λH vs=>cL K H vs []):=λH Q _ s q=>q _ _ (aB.refl _) .nil
theorem fW.consD(hd:∀H,Dt K H v d)(r:fW l H0 σ ta (λH vs=>cL K H vs ds)):fW l H0 σ (dM (tC v) ta) (λH vs=>cL K H vs (d::ds)):=λH Q k s q=>r H _ k s λvs H1 s1 h1=>q _ _ s1 (.cons (hd _) h1)
end
theorem Ev.disp(ht:∀(H:Hp) (Q:List (V×V)->Hp->Prop),Q (kvs.map (λkv=>(kV kv.1,kv.2))) H->wI trs σ H Q)(hl:kvs.length<=15)(hm:pU [] kvs=kvs)(h:∀(H:Hp) (p:Addr),H p=some (.dK kvs)->Φ H (.ref p)):Ev l H0 σ (zX trs) Φ:=λH Q k s q p hp=>ht _ _ ⟨aG,kvs,rfl,hl,by
 rw[hm];have np:∀a,l=some a->p≠a:=λa e y=>k a e (y▸hp)
 exact q _ _ (λb o e=>by rw[aF (bE e hp),aF (bE e hp)];exact e) (h _ _ (by rw[tR np];exact aG))⟩
theorem Ev.dnew(h:∀(H:Hp) (p:Addr),H p=some (.dK [])->Φ H (.ref p)):Ev l H0 σ a4H Φ:=λH Q k s q p hp=>q _ _ (aB.new hp) (h _ _ (by rw[mO k hp];exact aG))
end
theorem pick(n:Nat){ti:TE}(ok:iM l H)(mn:Mn Φ)(hn:n<=1000)(k:∀v H1,aB H H1->IsL Φ n (er l H1) v->ti σ H1 (λy H2=>uK K v y H2 D.rt))(r:fW l (er l H) σ ta (iT Φ n)):vB (hJ (uK K) (kO ta) ti) D σ H:=Ev.lst mn r hn H _ ok (aB.refl _) k
section
theorem kC{a b:Expr}{ta:TE}(hr:oR X r)(ha:aR X a ta)(hb:aR X b tb)(hs:a11 b):aR X (.Subscript a b pos) (hJ r ta tb):=⟨cE hr ha.run hb.run hs⟩
end
def nNm(d:PyData):Prop:=lK d/\dZ d=false
def vP(m:Int)(d:PyData):Prop:=eS m d=false
def xW(d:PyData):Prop:=hU d/\eV d=false
theorem sD(h:∀ds,d≠ .tuple ds):hU d:=λds e=>absurd e (h ds)
theorem sS(h:∀t,d≠ .str t):lK d:=λt e=>absurd e (h t)
section
inductive spNN(K:Fg)(vs:List V)(H:Hp)(Q:VK)(E:XK):Prop
 |mk (x:Int):vs= [.int x] ->(∀v H',aB H H'->bL K nNm H' v->Q v H')->spNN K vs H Q E
theorem b02:bD ["_law_x"] ["_law_x"] (aS a3W):={}
theorem a0c(T:aX K mg):cT P w K mg af aN 1 "_law_no_name" ["_law_x"] (spNN K):=by
 refine T.d_law_no_name.known b02 (λ_ _ _ _ _ _ us hl=>fG (λ_=>rfl) us hl) (λf ah A ag s H vs Q E hr h=> ?_)
 ·obtain⟨x,rfl,q⟩:=h
  refine nB ⟨_,(mX (oY (kC fM (cQ (aH aK (aH aK (aH aK (aH aK (aH aK (aH gW (aH dP (qC (cQ (aH aK aO)) (aZ (bA (aH aK aO)) (rG (wW (qB aK dP wL)) (aH uA aO)))))))))))) (aR.mk (bX eZ (pv 0) aT)) (λ_ _=>rfl)))),?_⟩;have S:∀{σ:St} {t:Str},t.length<=1000->eE t=false->Ev none H σ (tC (.str t)) (bL K nNm):=λh1 h2=> .c (λ_=> .str _) ⟨fD h1,h2⟩
  refine pick (Φ:=bL K nNm) (l:=none) 11 lC bL.mn (by decide) (λv H1 s1 hL=>⟨_,rfl,_,_,rfl,rfl,(show(0:Int)<_ by decide),hL.at (l:=none) (Int.emod_nonneg _ (by decide)) (Int.emod_lt_of_pos _ (by decide)) λz hz=>q _ _ s1 hz⟩) ?_;refine .consN bL.mn ?_ (.consN bL.mn ?_ (.consN bL.mn ?_ (.consN bL.mn ?_ (.consN bL.mn ?_ (.consN bL.mn ?_ (.consN bL.mn ?_ (.consN bL.mn ?_ (.consN bL.mn ?_ (.consN bL.mn ?_ (.consN bL.mn ?_ .nilN))))))))))
  ·exact S (by decide) (by decide+kernel)
  ·exact S (by decide) (by decide+kernel)
  ·exact S (by decide) (by decide+kernel)
  ·exact S (by decide) (by decide+kernel)
  ·exact S (by decide) (by decide+kernel)
  ·exact Ev.c (λ_=> .non) ⟨sS (by nofun),rfl⟩
  ·exact Ev.c (λ_=> .int _) ⟨sS (by nofun),rfl⟩
  ·exact Ev.lstD (.consD (λ_=> .str _) .nilD) (by decide) ⟨sS (by nofun),rfl⟩
  ·exact Ev.tupD (.consD (λ_=> .str _) .nilD) (by decide) ⟨sS (by nofun),rfl⟩
  ·exact Ev.disp (kvs:=[((.inr "a":aD),.int 1)]) (λ_ _ q=>q) (by decide) rfl λH p e=>⟨_,.dK e,sS (by nofun),rfl⟩
  ·exact Ev.c (λ_=> .bl _) ⟨sS (by nofun),rfl⟩
inductive spNP(K:Fg)(vs:List V)(H:Hp)(Q:VK)(E:XK):Prop
 |mk (x m:Int):vs= [.int x,.int m] ->0<=m->m<=30->(∀v H',aB H H'->bL K (vP m) H' v->Q v H')->spNP K vs H Q E
theorem b0Q:bD ["_law_x","_law_many"] ["_law_x","_law_many"] (aS a3a):={}
theorem qL{m i:Int}(h:i<0\/ m<=i):vP m (.int i):=by
 show(decide (0<=i)&&decide (i<m))=false
 rcases h with h|h
 ·rw[decide_eq_false (by omega:¬0<=i),Bool.false_and]
 ·rw[decide_eq_false (by omega:¬i<m),Bool.and_false]
theorem a5E:(30:Int)<=10^ (30:Int).toNat:=by decide+kernel
theorem a47(T:aX K mg):cT P w K mg af aN 1 "_law_no_place" ["_law_x","_law_many"] (spNP K):=by
 refine T.d_law_no_place.known b0Q (λ_ _ _ _ _ _ us hl=>dI (λ_ _=>rfl) us hl) (λf ah A ag s H vs Q E hr h=> ?_)
 ·obtain⟨x,m,rfl,m0,m30,q⟩:=h
  refine nB ⟨_,(mX (oY (kC fM (cQ (cW (aR.mk (pv 1)) (uS (aR.mk (qS rB aT)) (kY (aR.mk (bX iO (pv 1) aT)) (aH uA (aH gW (aH aK (qC (cQ (aH dP aO)) (kY (aR.mk (bX uE aT aT)) (aZ (bA (aH dP aO)) aO)))))))))) (aR.mk (bX eZ (pv 0) aT)) (λ_ _=>rfl)))),?_⟩;refine pick (Φ:=bL K (vP m)) (l:=none) 9 lC bL.mn (by decide) (λv H1 s1 hL=>⟨_,rfl,_,_,rfl,rfl,(show(0:Int)<_ by decide),hL.at (l:=none) (Int.emod_nonneg _ (by decide)) (Int.emod_lt_of_pos _ (by decide)) λz hz=>q _ _ s1 hz⟩) ?_;refine .consN bL.mn ?_ (.consN bL.mn ?_ (.consN bL.mn ?_ (.consN bL.mn ?_ (.consN bL.mn ?_ (.consN bL.mn ?_ (.consN bL.mn ?_ (.consN bL.mn ?_ (.consN bL.mn ?_ .nilN))))))))
  ·exact λH Q _ s q=>⟨_,rfl,q _ _ (aB.refl _) ⟨_,.int m,qL (.inr (Int.le_refl _))⟩⟩
  ·exact λH Q _ s q=>⟨_,rfl,q _ _ (aB.refl _) ⟨_,.int _,qL (.inl (by decide))⟩⟩
  ·exact λH Q _ s q=>⟨_,rfl,_,_,rfl,rfl,q _ _ (aB.refl _) ⟨_,.int _,qL (.inr (by omega))⟩⟩
  ·exact Ev.c (λ_=> .bl _) rfl
  ·exact Ev.c (λ_=> .non) rfl
  ·exact Ev.c (λ_=> .str _) rfl
  ·exact Ev.lstD (.consD (λ_=> .int _) .nilD) (by decide) rfl
  ·exact λH Q _ s q=>⟨_,_,rfl,rfl,⟨by decide,by decide,by decide⟩,q _ _ (aB.refl _) ⟨_,.int _,qL (.inr (Int.le_trans m30 a5E))⟩⟩
  ·exact Ev.tupD (.consD (λ_=> .int _) .nilD) (by decide) rfl
inductive spNV(K:Fg)(vs:List V)(H:Hp)(Q:VK)(E:XK):Prop
 |mk (x:Int) (l:Option Addr):vs= [.int x] ->iM l H->(∀v H',aB H H'->bL K xW (er l H') v->Q v H')->spNV K vs H Q E
theorem a7P:bD ["_law_x"] ["_law_x"] (aS a37):={}
theorem a1f(T:aX K mg):cT P w K mg af aN 1 "_law_no_value" ["_law_x"] (spNV K):=by
 refine T.d_law_no_value.known a7P (λ_ _ _ _ _ _ us hl=>fG (λ_=>rfl) us hl) (λf ah A ag s H vs Q E hr h=> ?_)
 ·obtain⟨x,l,rfl,ok,q⟩:=h
  refine nB ⟨_,(mX (oY (kC fM (cQ (aH uA (aH gW (aH aK (kY (aR.mk (bX uE aT aT)) (kY (aR.mk (bX xO aT (bX uE aT aT))) (qC (cQ (aH dP aO)) (aZ (bA (aH aK (aH aK aO))) (aZ (bA (aH aK aO)) (aZ (bA (aH aK (aH aK aO))) (rG (aR.mk nH) aO))))))))))) (aR.mk (bX eZ (pv 0) aT)) (λ_ _=>rfl)))),?_⟩;have s2:∀{a b:Str},a.length<=1000->b.length<=1000->hU (.tuple [.str a,.str b]):=λha hb=>yZ λe he=>by
   rcases List.mem_cons.mp he with rfl|he
   ·exact fD ha
   ·rcases List.mem_cons.mp he with rfl|he
    ·exact fD hb
    ·cases he
  have s1:hU (.tuple [.str ("fault":Str)]):=yZ λe he=>by
   rcases List.mem_cons.mp he with rfl|he
   ·exact fD (by decide)
   ·cases he
  have b1:eV (.int (10^ (60:Int).toNat))=false/\eV (.int (0- 10^ (60:Int).toNat))=false:=by decide+kernel
  refine pick (Φ:=bL K xW) (l:=l) 10 ok bL.mn (by decide) (λv H1 s1 hL=>⟨_,rfl,_,_,rfl,rfl,(show(0:Int)<_ by decide),hL.at (l:=l) (Int.emod_nonneg _ (by decide)) (Int.emod_lt_of_pos _ (by decide)) λz hz=>q _ _ s1 hz⟩) ?_;refine .consN bL.mn ?_ (.consN bL.mn ?_ (.consN bL.mn ?_ (.consN bL.mn ?_ (.consN bL.mn ?_ (.consN bL.mn ?_ (.consN bL.mn ?_ (.consN bL.mn ?_ (.consN bL.mn ?_ (.consN bL.mn ?_ .nilN)))))))))
  ·exact Ev.c (λ_=> .bl _) ⟨sD (by nofun),rfl⟩
  ·exact Ev.c (λ_=> .non) ⟨sD (by nofun),rfl⟩
  ·exact Ev.c (λ_=> .str _) ⟨sD (by nofun),rfl⟩
  ·exact λH Q _ s q=>⟨_,_,rfl,rfl,⟨by decide,by decide,by decide⟩,q _ _ (aB.refl _) ⟨_,.int _,sD (by nofun),b1.1⟩⟩
  ·exact λH Q _ s q=>⟨_,_,rfl,rfl,⟨by decide,by decide,by decide⟩,_,_,rfl,rfl,q _ _ (aB.refl _) ⟨_,.int _,sD (by nofun),b1.2⟩⟩
  ·exact Ev.lstD (.consD (λ_=> .int _) .nilD) (by decide) ⟨sD (by nofun),rfl⟩
  ·exact Ev.tupD (.consD (λ_=> .str _) (.consD (λ_=> .str _) .nilD)) (by decide) ⟨s2 (by decide) (by decide),by decide+kernel⟩
  ·exact Ev.tupD (.consD (λ_=> .str _) .nilD) (by decide) ⟨s1,by decide+kernel⟩
  ·exact Ev.tupD (.consD (λ_=> .str _) (.consD (λ_=> .str _) .nilD)) (by decide) ⟨s2 (by decide) (by decide),by decide+kernel⟩
  ·exact Ev.dnew λH p e=>⟨_,.dK e,sD (by nofun),rfl⟩
end
abbrev rM:List Str:=["NoTable","NoName","NoColumn","NoSize","TooMuch","NoPlace","NoValue","Ruled"]
theorem eO.same(hRN:Mn RN){k:Nat}{args:List V}(s:aB H H')(h:eO K RN k nt m H i args j):eO K RN k nt m H' i args j:=by
 cases h with
 |tN h=>exact .tN (h.same s)
 |tT=>exact .tT
 |tS h h2=>exact .tS (h.same s) h2
 |tF h=>exact .tF h
 |noT h a b c=>exact .noT (h.same s) a b c
 |noC h a b=>exact .noC (h.same s) a b
 |gN h a=>exact .gN (h.same s) a
 |gF h a=>exact .gF h a
 |gV a h b c=>exact .gV a (h.same s) b c
 |rC h=>exact .rC (hRN _ _ _ s h)
 |pR=>exact .pR
 |pV h=>
  obtain⟨t,dy,a,b,c,d⟩:=h;exact .pV ⟨t,dy,a,b,c.same s,d.imp id fun⟨x,y,dv,z,u⟩=>⟨x,y,dv,z.same s,u⟩⟩
 |iV h=>
  obtain⟨dy,dv,hy,hv,hj⟩:=h;exact .iV ⟨dy,dv,hy.same s,hv.same s,hj.imp id λh=>h.imp id fun⟨a,b,r,e⟩=>⟨a,b,r.same s,e⟩⟩
 |oV h=>
  obtain⟨dy,hy,hj⟩:=h;exact .oV ⟨dy,hy.same s,hj⟩
 |cP a b h c=>exact .cP a b (h.same s) c
 |sP a h1 h2 c=>exact .sP a (h1.same s) (h2.same s) c
def fH(K:Fg)(RN:Hp->V->Prop)(k nt m:Nat)(H:Hp)(v:V):Prop:=∃(a b:Addr) (i j:Nat) (wd cn:Str) (args:List V),v= .ref a/\H a=some (.tup [.str wd,.ref b,.str cn])/\wY[i]?=some wd/\rM[j]?=some cn/\H b=some (.tup args)/\eO K RN k nt m H i args j
theorem fH.mn(hRN:Mn RN){k:Nat}:Mn (fH K RN k nt m):=λ_ _ _ s h=>by
 obtain⟨a,b,i,j,wd,cn,args,h1,h2,h3,h4,h5,h6⟩:=h;exact⟨a,b,i,j,wd,cn,args,h1,s _ _ h2,h3,h4,s _ _ h5,h6.same hRN s⟩
section
variable{k:Nat}
theorem ar4:∀i,oE i<=4:=λi=>by unfold oE;split<;>decide
theorem Ev.ask(hRN:Mn RN){wd cn:Str}(i j:Nat)(ha:fW l H0 σ ta (λH vs=>eO K RN k nt m H i vs j))(hw:wY[i]?=some wd:=by rfl)(hc:rM[j]?=some cn:=by rfl):Ev l H0 σ (jP (dM (tC (.str wd)) (dM (jP ta) (dM (tC (.str cn)) eL)))) (fH K RN k nt m):=λH Q kk s q=>ha H _ kk s λvs H1 s1 h1=>⟨by rw[h1.len];exact Nat.le_trans (ar4 i) (by decide),λp hp=>⟨(show 3<=sizeLine by decide),λp2 hp2=>q _ _ (s1.trans ((aB.new hp).trans (aB.new hp2))) (by
 have k1:=kk.mv s1;rw[mO (k1.mv (aB.new hp)) hp2,mO k1 hp];have n1:=oP (l:=l) hp
 have n2:upd (er l H1) p (.tup vs) p2=none:=by rw[<- mO k1 hp];exact oP hp2
 exact⟨p2,p,i,j,wd,cn,vs,rfl,aG,hw,hc,aB.new n2 _ _ aG,h1.same hRN ((aB.new n1).trans (aB.new n2))⟩)⟩⟩
end
def gH(Φ:Hp->V->Prop)(Hb:Hp)(n:Nat)(H:Hp)(v:V):Prop:=∃a xs,v= .ref a/\H a=some (.lst xs)/\iT Φ n (er (some a) H) xs/\aB Hb (er (some a) H)
section
variable{u:TS}
theorem gH.mv(mn:Mn Φ)(s:aB H H')(h:gH Φ Hb n H v):gH Φ Hb n H' v:=by
 obtain⟨a,xs,e,h1,h2,h3⟩:=h;exact⟨a,xs,e,s _ _ h1,h2.mn mn (jM s),h3.trans (jM s)⟩
theorem gH.le(h:gH Φ Hb n H v):aB Hb H:=by
 obtain⟨a,xs,e,h1,h2,h3⟩:=h;exact h3.trans jK
theorem xJ(n:Nat)(r:fW none Hb σ ta (iT Φ n))(hn:n<=1000)(s:aB Hb H)(k:∀v H',gH Φ Hb n H' v->u D (σ.set i (some v)) H'):jD (lI (kO ta) (fT i)) u D σ H:=
 r H _ lC s λvs H1 s1 h1=>⟨by rw[h1.1];exact Nat.le_trans hn (by decide),λp hp=>k _ _ ⟨p,vs,rfl,aG,by rw[wS hp];exact h1,by rw[wS hp];exact s.trans s1⟩⟩
theorem lH(mn:Mn Φ)(hj:σ[j]?=some (some v))(h:gH Φ Hb n H v)(m:Nat)(r:fW none Hb σ ta (iT Φ m))(hn:n+ m<=1000)(k:∀v H',gH Φ Hb (n+ m) H' v->u D (σ.set i (some v)) H'):jD (lI (hJ uF (gI j) (kO ta)) (fT i)) u D σ H:=by
 obtain⟨a,xs,rfl,h1,h2,h3⟩:=h;refine⟨_,hj,r H _ lC (h3.trans jK) λvs H1 s1 hv=>⟨by rw[hv.1];exact Nat.le_trans (Nat.le_trans (Nat.le_add_left _ _) hn) (by decide),λp hp=> ?_⟩⟩;have s2:=aB.new (o:=.lst vs) hp;refine⟨a,p,xs,vs,rfl,rfl,s2 _ _ (s1 _ _ h1),aG,by rw[h2.1,hv.1];exact Nat.le_trans hn (by decide),λb hb=>k _ _ ⟨b,_,rfl,aG,?_,?_⟩⟩
 ·rw[wS hb]
  refine⟨by rw[List.length_append,h2.1,hv.1],λx hx=> ?_⟩
  rcases List.mem_append.mp hx with hx|hx
  ·exact mn _ _ _ (jK.trans (s1.trans s2)) (h2.2 _ hx)
  ·exact mn _ _ _ s2 (hv.2 _ hx)
 ·rw[wS hb]
  exact(h3.trans jK).trans (s1.trans s2)
theorem rE(mn:Mn Φ)(hj:σ[j]?=some (some v))(h:gH Φ Hb n H v)(hn:n<1000)(r:∀a,Ev (some a) Hb σ te Φ)(k:∀H',gH Φ Hb (n+ 1) H' v->u D σ H'):jD (a0w (yO K "list" a0h (gI j) (dM te eL))) u D σ H:=by
 obtain⟨a,xs,rfl,h1,h2,h3⟩:=h;refine⟨_,hj,.inl ⟨rfl,xs,aU.of h1⟩,r a H _ (λb e y=>by cases e;rw[h1]at y;cases y) h3 λy H2 s2 hy=>⟨a,xs,y,rfl,rfl,s2 _ _ h1,by rw[h2.1];exact Nat.lt_of_lt_of_le hn (by decide),k _ ⟨a,_,rfl,aG,?_,?_⟩⟩⟩
 ·rw[zN]
  refine⟨by rw[List.length_append,h2.1];rfl,λx hx=> ?_⟩
  rcases List.mem_append.mp hx with hx|hx
  ·exact mn _ _ _ (jM s2) (h2.2 _ hx)
  ·cases List.mem_singleton.mp hx
   exact hy
 ·rw[zN]
  exact h3.trans (jM s2)
end
section
theorem gR{u:TS}(h:te σ H λv H'=>u D (σ.set i (some v)) H'):jD (lI te (fT i)) u D σ H:=h
theorem vK(mn:Mn Φ){x:Int}{tx:TE}(hi:σ[i]?=some (some v))(h:gH Φ Hb n H v)(n0:0<n)(q:∀y,Φ H y->D.rt y H)(ht:∀(H:Hp) (Q:VK),Q (.int x) H->tx σ H Q):vB (hJ (uK K) (gI i) (hJ (rI (λ_ j=>0<j) λi j=> .int (i% j)) tx (yY (λxs H Q=>∃x n,xs= [x] /\LenV K x H n/\Q (.int n) H) (dM (gI i) eL)))) D σ H:=by
 obtain⟨a,xs,rfl,h1,h2,h3⟩:=h;refine⟨_,hi,ht _ _ ⟨_,hi,_,n,rfl,.inl ⟨_,aU.of h1,by rw[h2.1]⟩,_,_,rfl,rfl,(show(0:Int)<n by omega),?_⟩⟩;obtain⟨y,e1,e2⟩:=xH xs (x% n) (Int.emod_nonneg _ (by omega)) (by rw[h2.1];exact Int.emod_lt_of_pos _ (by omega));exact⟨a,xs,_,y,rfl,rfl,aU.of h1,e1,q _ (mn _ _ _ jK (h2.2 _ (List.mem_of_getElem? e2)))⟩
inductive sM(K:Fg)(RN:Hp->V->Prop)(vs:List V)(H:Hp)(Q:VK)(E:XK):Prop
 |mk (x y:Int) (m k nt:Nat):vs= [.int x,.int y,.int m] ->1<=m->m<=30->(∀v H',aB H H'->fH K RN k nt m H' v->Q v H')->sM K RN vs H Q E
abbrev a7v:List Str:=["_law_x","_law_y","_law_many","_law_none","_law_place","_law_some","_law_behind"]
theorem kU:bD a7v ["_law_x","_law_y","_law_many"] (aS a2w):={}
theorem b0L(T:aX K mg)(hRN:Mn RN):cT P w K mg af aN 2 "_law_rows" ["_law_x","_law_y","_law_many"] (sM K RN):=by
 refine T.d_law_rows.known kU (λ_ _ _ _ _ _ us hl=>eQ (λ_ _ _=>rfl) us hl) (λf ah A ag s H vs Q E hr h=> ?_)
 ·obtain⟨x,y,m,k,nt,rfl,m1,m30,q⟩:=h
  refine nB ⟨_,(cH (dF (i:=3) kU.nd rfl (Or.inl rfl) (aR.mk (bI (a0c T) hr.mn aL (aA (pv 1) aC))))
   (cH (dF (i:=4) kU.nd rfl (Or.inl rfl) (aR.mk (bI (a47 T) hr.mn aL (aA (bX nG (pv 1) aT) (aA (pv 2) aC)))))
   (cH (dF (i:=5) kU.nd rfl (Or.inl rfl) (cQ (aZ (bA (aH aK (aZ (bA (aH aK (aH aK (aH dP (aH gW aO))))) (aH aK aO)))) (aZ (bA (aH aK (aZ (bA (cW (aR.mk (pv 3)) (aH aK (aH dP (aH dP aO))))) (aH aK aO)))) aO))))
   (cH (dF (i:=5) kU.nd rfl (Or.inl rfl) (eY eR (aR.mk (pv 5)) (cQ (aZ (bA (aH aK (aZ (bA (aH aK (aH aK (uS (aR.mk (qS rB aT)) (aH gW aO))))) (aH aK aO)))) (aZ (bA (aH aK (aZ (bA (aH aK (cW (aR.mk (pv 3)) (aH dP (aH dP aO))))) (aH aK aO)))) aO)))))
   (cH (dF (i:=5) kU.nd rfl (Or.inl rfl) (eY eR (aR.mk (pv 5)) (cQ (aZ (bA (aH aK (aZ (bA (aH aK (aH aK (cW (aR.mk (pv 4)) (aH gW aO))))) (aH aK aO)))) (aZ (bA (aH aK (aZ (bA (aH aK (aH aK (aH dP (aH dP aO))))) (aH aK aO)))) aO)))))
   (cH (dF (i:=5) kU.nd rfl (Or.inl rfl) (eY eR (aR.mk (pv 5)) (cQ (aZ (bA (aH aK (aZ (bA (aH aK (aH aK (cW (aR.mk (pv 4)) (aH gW aO))))) (aH aK aO)))) (aZ (bA (aH aK (aZ (bA (aH aK (aH aK (cW (aR.mk (pv 4)) (aH dP aO))))) (aH aK aO)))) aO)))))
   (cH (dF (i:=5) kU.nd rfl (Or.inl rfl) (eY eR (aR.mk (pv 5)) (cQ (aZ (bA (aH aK (aZ (bA (aH aK (aH aK (kY (aR.mk (bX eZ (pv 1) (pv 2))) (gE (aR.mk (bI (a1f T) hr.mn aL (aA (bX nG (pv 1) aT) aC))) aO))))) (aH aK aO)))) aO))))
   (cH (dF (i:=5) kU.nd rfl (Or.inl rfl) (eY eR (aR.mk (pv 5)) (cQ (aZ (bA (aH aK (aZ (bA (aH aK (cW (aR.mk (pv 4)) aO))) (aH aK aO)))) (aZ (bA (aH aK (aZ (bA (aH aK (cW (aR.mk (pv 4)) aO))) (aH aK aO)))) (aZ (bA (aH aK (aZ (bA (cW (aR.mk (pv 3)) (aH dP aO))) (aH aK aO)))) aO))))))
   (cH (dF (i:=6) kU.nd rfl (Or.inl rfl) (kC fM (cQ (kY (aR.mk (bX iO (pv 2) aT)) (uS (aR.mk (qS rB aT)) (aH uA (aH gW (aH aK (qC (cQ (aH dP aO)) aO))))))) (aR.mk (bX eZ (bX nG (pv 1) aT) aT)) (λ_ _=>rfl)))
   (cH (dF (i:=5) kU.nd rfl (Or.inl rfl) (eY eR (aR.mk (pv 5)) (cQ (aZ (bA (aH aK (aZ (bA (aH aK (cW (aR.mk (pv 6)) (aH gW aO)))) (aH aK aO)))) (aZ (bA (aH aK (aZ (bA (aH aK (cW (aR.mk (pv 6)) (aH gW aO)))) (aH aK aO)))) aO)))))
   (cH (iB.mk (bT (jS F.plainAttrs_list F.slot_list_append F.type_list_append jJ (pv 5) (aA (dU (aA aW (aA (dU (aA (pv 3) (aA aT (aA nH aC)))) (aA aW aC)))) aC))))
   (mX (oY (kC fM (aR.mk (pv 5)) (aR.mk (bX eZ (pv 0) (cM gU (by rfl) T.len fS (aA (pv 5) aC)))) (λ_ _=>rfl))))))))))))))),?_⟩
  have mn:Mn (fH K RN k nt m):=fH.mn hRN;refine gR ⟨_,rfl,y,rfl,λvn H1 s1 hn=> ?_⟩;refine gR ⟨_,rfl,_,_,rfl,rfl,⟨by decide,by decide⟩,_,rfl,_,m,rfl,by omega,by omega,λvp H2 s2 hp=> ?_⟩;obtain⟨dp,hp1,hp2⟩:=hp;have nn:∀{Hx:Hp} {nm:Str},aB H2 Hx->eD K Hx nm vn:=λs=> .inl (hn.imp λd h=>⟨(h.1.same s2).same s,h.2⟩)
  refine xJ (Hb:=H2) (Φ:=fH K RN k nt m) 2 ?_ (by decide) (aB.refl _) λv3 H3 c3=> ?_
  ·refine .consN mn ?_ (.consN mn ?_ .nilN)
   ·exact Ev.ask hRN 3 0 λH Q _ s q=>q _ _ (aB.refl _) (.noT (.inr rfl) (by decide) (by decide) rfl)
   ·exact Ev.ask hRN 3 0 λH Q _ s q=>⟨_,rfl,q _ _ (aB.refl _) (.noT (nn s) (by decide) (by decide) rfl)⟩
  refine lH mn rfl c3 2 ?_ (by decide) λv4 H4 c4=> ?_
  ·refine .consN mn ?_ (.consN mn ?_ .nilN)
   ·exact Ev.ask hRN 3 2 λH Q _ s q=>⟨_,rfl,q _ _ (aB.refl _) (.noC (.inr rfl) (by decide) rfl)⟩
   ·exact Ev.ask hRN 3 2 λH Q _ s q=>⟨_,rfl,q _ _ (aB.refl _) (.noC (nn s) (by decide) rfl)⟩
  refine lH mn rfl c4 2 ?_ (by decide) λv5 H5 c5=> ?_
  ·refine .consN mn ?_ (.consN mn ?_ .nilN)
   ·exact Ev.ask hRN 3 7 λH Q _ s q=>⟨_,rfl,q _ _ (aB.refl _) .pR⟩
   ·exact Ev.ask hRN 3 7 λH Q _ s q=>q _ _ (aB.refl _) .pR
  refine lH mn rfl c5 2 ?_ (by decide) λv6 H6 c6=> ?_
  ·refine .consN mn ?_ (.consN mn ?_ .nilN)
   ·exact Ev.ask hRN 3 5 λH Q _ s q=>⟨_,rfl,q _ _ (aB.refl _) (.pV ⟨"a",dp,rfl,by decide+kernel,hp1.same s,.inl ⟨hp2,rfl⟩⟩)⟩
   ·exact Ev.ask hRN 3 5 λH Q _ s q=>⟨_,rfl,q _ _ (aB.refl _) (.pV ⟨"b",dp,rfl,by decide+kernel,hp1.same s,.inl ⟨hp2,rfl⟩⟩)⟩
  refine lH mn rfl c6 1 ?_ (by decide) λv7 H7 c7=> ?_
  ·refine .consN mn ?_ .nilN
   exact Ev.ask hRN 3 6 λH Q _ s q=>⟨_,rfl,_,rfl,_,_,rfl,rfl,(show(0:Int)<m by omega),_,rfl,_,_,rfl,rfl,⟨by decide,by decide⟩,_,none,rfl,lC,λv H' s' hv=>q _ _ s' (.pV ⟨"a",_,rfl,by decide+kernel,.int _,.inr ⟨(by
    show(decide (0<=y% (m:Int))&&decide (y% (m:Int)<m))=true
    rw[decide_eq_true (Int.emod_nonneg _ (by omega)),decide_eq_true (Int.emod_lt_of_pos _ (by omega))];rfl),rfl,hv⟩⟩)⟩
  refine lH mn rfl c7 3 ?_ (by decide) λv8 H8 c8=> ?_
  ·refine .consN mn ?_ (.consN mn ?_ (.consN mn ?_ .nilN))
   ·exact Ev.ask hRN 5 5 λH Q _ s q=>⟨_,rfl,q _ _ (aB.refl _) (.oV ⟨dp,hp1.same s,hp2,rfl⟩)⟩
   ·exact Ev.ask hRN 5 0 λH Q _ s q=>⟨_,rfl,q _ _ (aB.refl _) (.noT (.inr rfl) (by decide) (by decide) rfl)⟩
   ·exact Ev.ask hRN 5 0 λH Q _ s q=>⟨_,rfl,q _ _ (aB.refl _) (.noT (nn s) (by decide) (by decide) rfl)⟩
  have s28:=c8.le;obtain⟨a8,xs8,rfl,e8,f8,g8⟩:=c8;have ok8:iM (some a8) H8:=λb e y=>by cases e;rw[e8]at y;cases y
  refine gR ((Ev.lst (l:=some a8) (H0:=er (some a8) H8) (Φ:=bL K (vP ((m:Int)+ 1))) (n:=6) bL.mn ?_ (by decide)) H8 _ ok8 (aB.refl _) λvb H9 s9 hL=>⟨_,rfl,_,_,rfl,rfl,⟨by decide,by decide⟩,_,_,rfl,rfl,(show(0:Int)<_ by decide),hL.at (l:=some a8) (Int.emod_nonneg _ (by decide)) (Int.emod_lt_of_pos _ (by decide)) λvb hb=> ?_⟩)
  ·refine .consN bL.mn ?_ (.consN bL.mn ?_ (.consN bL.mn ?_ (.consN bL.mn ?_ (.consN bL.mn ?_ (.consN bL.mn ?_ .nilN)))))
   ·exact λH Q _ s q=>⟨_,rfl,_,_,rfl,rfl,q _ _ (aB.refl _) ⟨_,.int _,qL (.inr (Int.le_refl _))⟩⟩
   ·exact λH Q _ s q=>⟨_,rfl,q _ _ (aB.refl _) ⟨_,.int _,qL (.inl (by decide))⟩⟩
   ·exact Ev.c (λ_=> .bl _) rfl
   ·exact Ev.c (λ_=> .non) rfl
   ·exact Ev.c (λ_=> .str _) rfl
   ·exact Ev.lstD (.consD (λ_=> .int _) .nilD) (by decide) rfl
  obtain⟨db,hb1,hb2⟩:=hb;have c9:gH (fH K RN k nt m) (er (some a8) H9) 12 H9 (.ref a8):=⟨a8,xs8,rfl,s9 _ _ e8,f8.mn mn (jM s9),aB.refl _⟩;have s29:aB H2 (er (some a8) H9):=g8.trans (jM s9);refine lH mn rfl c9 2 ?_ (by decide) λv10 H10 c10=> ?_
  ·refine .consN mn ?_ (.consN mn ?_ .nilN)
   ·exact Ev.ask hRN 4 5 λH Q _ s q=>⟨_,rfl,q _ _ (aB.refl _) (.iV ⟨db,.none,hb1.same s,.non,.inl ⟨hb2,rfl⟩⟩)⟩
   ·exact Ev.ask hRN 4 0 λH Q _ s q=>⟨_,rfl,q _ _ (aB.refl _) (.noT (.inr rfl) (by decide) (by decide) rfl)⟩
  refine rE mn rfl c10 (by decide) (λa=> ?_) λH11 c11=> ?_
  ·exact Ev.ask hRN 4 0 λH Q kk s q=>⟨_,rfl,λp hp=>q _ _ (aB.new hp) (.noT (nn (s29.trans (s.trans (jM (aB.new hp))))) (by decide) (by decide) rfl)⟩
  exact vK mn rfl c11 (by decide) (λy h=>q _ _ (s1.trans (s2.trans (s29.trans c11.le))) h) (λH Q h=>⟨_,rfl,h⟩)
def jV(K:Fg)(m:Nat)(H:Hp)(v:V):Prop:=∃c x y dx dy,v= .ref c/\H c=some (.tup [x,y])/\Dt K H x dx/\Dt K H y dy/\∀i j,dx= .int i->dy= .int j->¬(0<=i/\i<=j/\j<=(m:Int))
theorem jV.mn:Mn (jV K m):=λ_ _ _ s h=>let ⟨c,x,y,dx,dy,a,b,d,e,f⟩:=h;⟨c,x,y,dx,dy,a,s _ _ b,d.same s,e.same s,f⟩
theorem Ev.span{t1 t2:TE}{x:V}{dx dy:PyData}(h1:∀(H:Hp) (Q:VK),Q x H->t1 σ H Q)(h2:∀(H:Hp) (Q:VK),Q y H->t2 σ H Q)(d1:∀H,Dt K H x dx)(d2:∀H,Dt K H y dy)(h:∀i j,dx= .int i->dy= .int j->¬(0<=i/\i<=j/\j<=(m:Int))):Ev none H0 σ (jP (dM t1 (dM t2 eL))) (jV K m):=λH Q _ s q=>h1 _ _ (h2 _ _ ⟨(show 2<=sizeLine by decide),λp hp=>q _ _ (aB.new hp) ⟨p,x,y,dx,dy,rfl,aG,d1 _,d2 _,h⟩⟩)
theorem asg_{u:TS}(h:te σ H λx H1=>g x σ H1 λσ' H'=>u D σ' H'):jD (lI te g) u D σ H:=h
theorem lZ(mn:Mn Φ){u:TS}(hi:i<σ.length)(h:gH Φ Hb n H v)(m:Nat)(r:fW none Hb (σ.set i (some v)) ta (iT Φ m))(hn:n+ m<=1000)(k:∀v H',gH Φ Hb (n+ m) H' v->u D (σ.set i (some v)) H'):jD (lI (hJ uF (gI i) (kO ta)) (fT i)) u D (σ.set i (some v)) H:=
 lH mn (by rw[List.getElem?_set_self hi]) h m r hn λv' H' c=>by rw[List.set_set];exact k v' H' c
abbrev a9m:List Str:=["_law_x","_law_y","_law_many","_law_none","_law_place","_law_spans","_law_start","_law_end","_law_some"]
theorem iQ:bD a9m ["_law_x","_law_y","_law_many"] (aS a5f):={}
theorem a83(T:aX K mg)(hRN:Mn RN):cT P w K mg af aN 2 "_law_looks" ["_law_x","_law_y","_law_many"] (sM K RN):=by
 refine T.d_law_looks.known iQ (λ_ _ _ _ _ _ us hl=>eQ (λ_ _ _=>rfl) us hl) (λf ah A ag s H vs Q E hr h=> ?_)
 ·obtain⟨x,y,m,k,nt,rfl,m1,m30,q⟩:=h
  refine nB ⟨_,(cH (dF (i:=3) iQ.nd rfl (Or.inl rfl) (aR.mk (bI (a0c T) hr.mn aL (aA (pv 1) aC))))
   (cH (dF (i:=4) iQ.nd rfl (Or.inl rfl) (aR.mk (bI (a47 T) hr.mn aL (aA (bX nG (pv 1) aT) (aA (pv 2) aC)))))
   (cH (dF (i:=5) iQ.nd rfl (Or.inl rfl) (cQ (aZ (bA (aH dP (kY (aR.mk (bX iO (pv 2) aT)) aO))) (aZ (bA (aH dP (aH dP aO))) (aZ (bA (uS (aR.mk (qS rB aT)) (aH dP aO))) (aZ (bA (aH uA (aH dP aO))) (aZ (bA (aH dP (aH gW aO))) (aZ (bA (aH aK (aH dP aO))) (aZ (bA (kY (aR.mk (bX iO (pv 2) aT)) (kY (aR.mk (bX iO (pv 2) aT)) aO))) aO)))))))))
   (cH (iB.mk (a0D (cE fM (pv 5) (bX eZ (pv 1) aT) (λ_ _=>rfl)) (sK rfl (lD (fO (i:=6) iQ.nd rfl (Or.inl rfl)) (lD (fO (i:=7) iQ.nd rfl (Or.inl rfl)) uB)))))
   (cH (dF (i:=8) iQ.nd rfl (Or.inl rfl) (cQ (aZ (bA (aH aK (aZ (bA (aH aK (aH aK (cW (aR.mk (pv 4)) aO)))) (aH aK aO)))) (aZ (bA (aH aK (aZ (bA (cW (aR.mk (pv 3)) (aH aK (aH dP aO)))) (aH aK aO)))) aO))))
   (cH (dF (i:=8) iQ.nd rfl (Or.inl rfl) (eY eR (aR.mk (pv 8)) (cQ (aZ (bA (aH aK (aZ (bA (aH aK (aH aK (cW (aR.mk (pv 4)) aO)))) (aH aK aO)))) (aZ (bA (aH aK (aZ (bA (aH aK (cW (aR.mk (pv 3)) (aH dP aO)))) (aH aK aO)))) aO)))))
   (cH (dF (i:=8) iQ.nd rfl (Or.inl rfl) (eY eR (aR.mk (pv 8)) (cQ (aZ (bA (aH aK (aZ (bA (aH aK (aH aK (cW (aR.mk (pv 4)) aO)))) (aH aK aO)))) (aZ (bA (aH aK (aZ (bA (aH aK (aH aK (cW (aR.mk (pv 4)) aO)))) (aH aK aO)))) aO)))))
   (cH (dF (i:=8) iQ.nd rfl (Or.inl rfl) (eY eR (aR.mk (pv 8)) (cQ (aZ (bA (aH aK (aZ (bA (aH aK (aH aK (cW (aR.mk (pv 6)) (cW (aR.mk (pv 7)) aO))))) (aH aK aO)))) (aZ (bA (aH aK (aZ (bA (aH aK (cW (aR.mk (pv 3)) (cW (aR.mk (pv 6)) (cW (aR.mk (pv 7)) aO))))) (aH aK aO)))) aO)))))
   (cH (dF (i:=8) iQ.nd rfl (Or.inl rfl) (eY eR (aR.mk (pv 8)) (cQ (aZ (bA (aH aK (aZ (bA (aH aK (aH aK (cW (aR.mk (pv 6)) (cW (aR.mk (pv 7)) aO))))) (aH aK aO)))) (aZ (bA (aH aK (aZ (bA (aH aK (aH aK (cW (aR.mk (pv 6)) (cW (aR.mk (pv 7)) aO))))) (aH aK aO)))) aO)))))
   (cH (dF (i:=8) iQ.nd rfl (Or.inl rfl) (eY eR (aR.mk (pv 8)) (cQ (aZ (bA (aH aK (aZ (bA (aH aK (aH aK aO))) (aH aK aO)))) (aZ (bA (aH aK (aZ (bA (aH aK (cW (aR.mk (pv 3)) aO))) (aH aK aO)))) aO)))))
   (cH (dF (i:=8) iQ.nd rfl (Or.inl rfl) (eY eR (aR.mk (pv 8)) (cQ (aZ (bA (aH aK (aZ (bA (cW (aR.mk (pv 3)) (aH aK (cW (aR.mk (pv 4)) aO)))) (aH aK aO)))) (aZ (bA (aH aK (aZ (bA (aH aK (aH aK (cW (aR.mk (pv 4)) aO)))) (aH aK aO)))) aO)))))
   (cH (dF (i:=8) iQ.nd rfl (Or.inl rfl) (eY eR (aR.mk (pv 8)) (cQ (aZ (bA (aH aK (aZ (bA (aH aK (aH aK (cW (aR.mk (pv 4)) aO)))) (aH aK aO)))) (aZ (bA (aH aK (aZ (bA (aH aK (aH aK aO))) (aH aK aO)))) aO)))))
   (cH (dF (i:=8) iQ.nd rfl (Or.inl rfl) (eY eR (aR.mk (pv 8)) (cQ (aZ (bA (aH aK (aZ (bA (aH aK (cW (aR.mk (pv 3)) aO))) (aH aK aO)))) (aZ (bA (aH aK (aZ (bA (cW (aR.mk (pv 3)) aO)) (aH aK aO)))) (aZ (bA (aH aK (aZ (bA (cW (aR.mk (pv 3)) aO)) (aH aK aO)))) aO))))))
   (mX (oY (kC fM (aR.mk (pv 8)) (aR.mk (bX eZ (pv 0) (cM gU (by rfl) T.len fS (aA (pv 8) aC)))) (λ_ _=>rfl))))))))))))))))),?_⟩
  have mn:Mn (fH K RN k nt m):=fH.mn hRN;refine gR ⟨_,rfl,y,rfl,λvn H1 s1 hn=> ?_⟩;refine gR ⟨_,rfl,_,_,rfl,rfl,⟨by decide,by decide⟩,_,rfl,_,m,rfl,by omega,by omega,λvp H2 s2 hp=> ?_⟩;obtain⟨dp,hp1,hp2⟩:=hp;refine gR ((Ev.lst (l:=none) (H0:=H2) (Φ:=jV K m) (n:=7) jV.mn ?_ (by decide)) H2 _ lC (aB.refl _) λvs4 H4 s4 hL=> ?_)
  ·refine .consN jV.mn ?_ (.consN jV.mn ?_ (.consN jV.mn ?_ (.consN jV.mn ?_ (.consN jV.mn ?_ (.consN jV.mn ?_ (.consN jV.mn ?_ .nilN))))))
   ·exact Ev.span (λ_ _ h=>h) (λ_ _ h=>⟨_,rfl,_,_,rfl,rfl,h⟩) (λ_=> .int _) (λ_=> .int _) (λi j e1 e2=>by cases e1;cases e2;omega)
   ·exact Ev.span (λ_ _ h=>h) (λ_ _ h=>h) (λ_=> .int _) (λ_=> .int _) (λi j e1 e2=>by cases e1;cases e2;omega)
   ·exact Ev.span (λ_ _ h=>⟨_,rfl,h⟩) (λ_ _ h=>h) (λ_=> .int _) (λ_=> .int _) (λi j e1 e2=>by cases e1;cases e2;omega)
   ·exact Ev.span (λ_ _ h=>h) (λ_ _ h=>h) (λ_=> .bl _) (λ_=> .int _) (λi j e1 e2=>by cases e1)
   ·exact Ev.span (λ_ _ h=>h) (λ_ _ h=>h) (λ_=> .int _) (λ_=> .non) (λi j e1 e2=>by cases e2)
   ·exact Ev.span (λ_ _ h=>h) (λ_ _ h=>h) (λ_=> .str _) (λ_=> .int _) (λi j e1 e2=>by cases e1)
   ·exact Ev.span (λ_ _ h=>⟨_,rfl,_,_,rfl,rfl,h⟩) (λ_ _ h=>⟨_,rfl,_,_,rfl,rfl,h⟩) (λ_=> .int _) (λ_=> .int _) (λi j e1 e2=>by cases e1;cases e2;omega)
  refine asg_ ⟨_,rfl,_,rfl,_,_,rfl,rfl,(show(0:Int)<_ by decide),hL.at (l:=none) (Int.emod_nonneg _ (by decide)) (Int.emod_lt_of_pos _ (by decide)) λvc hc=> ?_⟩;obtain⟨c,sx,sy,ex,ey,rfl,hc,hx,hy,hxy⟩:=hc;refine⟨c,_,rfl,bS.of hc,rfl,_,_,rfl,_,_,rfl,rfl,?_⟩;have hn:=bL.mn _ _ _ (s2.trans s4) hn;have hp1:=hp1.same s4;generalize hH5:H4=H5 at*;have nn:∀{Hx:Hp} {nm:Str},aB H5 Hx->eD K Hx nm vn:=λs=> .inl (hn.imp λd h=>⟨h.1.same s,h.2⟩)
  refine xJ (Hb:=H5) (Φ:=fH K RN k nt m) 2 ?_ (by decide) (aB.refl _) λv10 H10 c10=> ?_
  ·refine .consN mn ?_ (.consN mn ?_ .nilN)
   ·exact Ev.ask hRN 6 0 λH Q _ s q=>⟨_,rfl,q _ _ (aB.refl _) (.noT (.inr rfl) (by decide) (by decide) rfl)⟩
   ·exact Ev.ask hRN 6 0 λH Q _ s q=>⟨_,rfl,q _ _ (aB.refl _) (.noT (nn s) (by decide) (by decide) rfl)⟩
  refine lZ mn (Nat.le_refl 9) c10 2 ?_ (by decide) λv11 H11 c11=> ?_
  ·refine .consN mn ?_ (.consN mn ?_ .nilN)
   ·exact Ev.ask hRN 6 2 λH Q _ s q=>⟨_,rfl,q _ _ (aB.refl _) (.noC (.inr rfl) (by decide) rfl)⟩
   ·exact Ev.ask hRN 6 2 λH Q _ s q=>⟨_,rfl,q _ _ (aB.refl _) (.noC (nn s) (by decide) rfl)⟩
  refine lZ mn (Nat.le_refl 9) c11 2 ?_ (by decide) λv12 H12 c12=> ?_
  ·refine .consN mn ?_ (.consN mn ?_ .nilN)
   ·exact Ev.ask hRN 6 5 λH Q _ s q=>⟨_,rfl,q _ _ (aB.refl _) (.cP (by decide+kernel) (by decide) (hp1.same s) hp2)⟩
   ·exact Ev.ask hRN 6 5 λH Q _ s q=>⟨_,rfl,q _ _ (aB.refl _) (.cP (by decide+kernel) (by decide) (hp1.same s) hp2)⟩
  refine lZ mn (Nat.le_refl 9) c12 2 ?_ (by decide) λv13 H13 c13=> ?_
  ·refine .consN mn ?_ (.consN mn ?_ .nilN)
   ·exact Ev.ask hRN 7 0 λH Q _ s q=>⟨_,rfl,_,rfl,q _ _ (aB.refl _) (.noT (.inr rfl) (by decide) (by decide) rfl)⟩
   ·exact Ev.ask hRN 7 2 λH Q _ s q=>⟨_,rfl,_,rfl,_,rfl,q _ _ (aB.refl _) (.noC (nn s) (by decide) rfl)⟩
  refine lZ mn (Nat.le_refl 9) c13 2 ?_ (by decide) λv14 H14 c14=> ?_
  ·refine .consN mn ?_ (.consN mn ?_ .nilN)
   ·exact Ev.ask hRN 7 5 λH Q _ s q=>⟨_,rfl,_,rfl,q _ _ (aB.refl _) (.sP (by decide+kernel) (hx.same s) (hy.same s) hxy)⟩
   ·exact Ev.ask hRN 7 5 λH Q _ s q=>⟨_,rfl,_,rfl,q _ _ (aB.refl _) (.sP (by decide+kernel) (hx.same s) (hy.same s) hxy)⟩
  refine lZ mn (Nat.le_refl 9) c14 2 ?_ (by decide) λv15 H15 c15=> ?_
  ·refine .consN mn ?_ (.consN mn ?_ .nilN)
   ·exact Ev.ask hRN 8 0 λH Q _ s q=>q _ _ (aB.refl _) (.noT (.inr rfl) (by decide) (by decide) rfl)
   ·exact Ev.ask hRN 8 2 λH Q _ s q=>⟨_,rfl,q _ _ (aB.refl _) (.noC (nn s) (by decide) rfl)⟩
  refine lZ mn (Nat.le_refl 9) c15 2 ?_ (by decide) λv16 H16 c16=> ?_
  ·refine .consN mn ?_ (.consN mn ?_ .nilN)
   ·exact Ev.ask hRN 9 0 λH Q _ s q=>⟨_,rfl,_,rfl,q _ _ (aB.refl _) (.noT (nn s) (by decide) (by decide) rfl)⟩
   ·exact Ev.ask hRN 9 2 λH Q _ s q=>⟨_,rfl,q _ _ (aB.refl _) (.noC (.inr rfl) (by decide) rfl)⟩
  refine lZ mn (Nat.le_refl 9) c16 2 ?_ (by decide) λv17 H17 c17=> ?_
  ·refine .consN mn ?_ (.consN mn ?_ .nilN)
   ·exact Ev.ask hRN 9 5 λH Q _ s q=>⟨_,rfl,q _ _ (aB.refl _) (.cP (by decide+kernel) (by decide) (hp1.same s) hp2)⟩
   ·exact Ev.ask hRN 10 0 λH Q _ s q=>q _ _ (aB.refl _) (.noT (.inr rfl) (by decide) (by decide) rfl)
  refine lZ mn (Nat.le_refl 9) c17 3 ?_ (by decide) λv18 H18 c18=> ?_
  ·refine .consN mn ?_ (.consN mn ?_ (.consN mn ?_ .nilN))
   ·exact Ev.ask hRN 10 2 λH Q _ s q=>⟨_,rfl,q _ _ (aB.refl _) (.noC (nn s) (by decide) rfl)⟩
   ·exact Ev.ask hRN 11 0 λH Q _ s q=>⟨_,rfl,q _ _ (aB.refl _) (.noT (nn s) (by decide) (by decide) rfl)⟩
   ·exact Ev.ask hRN 12 0 λH Q _ s q=>⟨_,rfl,q _ _ (aB.refl _) (.noT (nn s) (by decide) (by decide) rfl)⟩
  exact vK mn rfl c18 (by decide) (λy h=>q _ _ (s1.trans (s2.trans (s4.trans c18.le))) h) (λH Q h=>⟨_,rfl,h⟩)
end
section
def xT(l:Option Addr)(H0:Hp)(σ:St)(ta:TA)(zs:List Str)(pre post:List V):Prop:=∀(H:Hp) (Q:List V->Hp->Prop),iM l H->aB H0 (er l H)->(∀a H',aB H H'->H' a=some (.lst (zs.map V.str))->Q (pre++ .ref a::post) H')->ta σ H Q
theorem nW{H3:Hp}{dp:Addr}(hp:H p=none)(hdp:H dp=none)(b3:bR p (upd (upd H dp (.own p)) p (.ins C dp [])) H3):aB H H3:=λx o e=>b3 _ _ (bE e hp) (by rw[aF (bE e hp),aF (bE e hdp)];exact e)
theorem jL{H3:Hp}(k:iM l H)(h:H p=none)(e:H3 p=some o):er l H3 p=some o:=by rw[tR λa ea y=>k a ea (y▸h)];exact e
theorem a0v(hRL:RL C (pC C))(h:xT l H0 σ ta zs [] [.ref fa])(z6:zs.length<=6)(hz:∀z∈zs,Nl z)(bad:mS (eF (zs.map λz=>(("t":Str),z)))):Ev l H0 σ (mC C (sV K C) [] E0 ta) (cI RL):=λH Q k s q=>h H _ k s λa H1 s1 h1=>by
 intro p dp hp hdp ne;have k1:=k.mv s1;refine⟨p,dp,a,fa,zs,rfl,aG,aU.of (by rw[aF (bE h1 hp),aF (bE h1 hdp)];exact h1),bE h1 hp,z6,hz,λH3 nl b3 hnl p3 n3=>⟨rfl,q _ _ (s1.trans (nW hp hdp b3)) ?_⟩⟩;have hnl':H1 nl=none:=(fA (fA hnl).1).1;exact⟨p,dp,C,_,_,_,rfl,hRL,jL k1 hp p3,rfl,a0k (jL k1 hp p3) (jL k1 hnl' n3) z6 hz cF.1,bad⟩
theorem a5X{fn:Int}(hRL:RL C (uG C))(h:xT l H0 σ ta zs [.int fn] [.ref fa])(z6:zs.length<=6)(hz:∀z∈zs,Nl z)(hf:kR (.int fn)=true)(bad:mS (eF (zs.map λz=>(("t":Str),z)))):Ev l H0 σ (mC C (zQ K C) [] E0 ta) (cI RL):=λH Q k s q=>h H _ k s λa H1 s1 h1=>by
 intro p dp hp hdp ne;have k1:=k.mv s1;refine⟨p,dp,a,fa,fn,zs,rfl,aG,aU.of (by rw[aF (bE h1 hp),aF (bE h1 hdp)];exact h1),bE h1 hp,z6,hz,hf,λH3 nl b3 hnl p3 n3=>⟨rfl,q _ _ (s1.trans (nW hp hdp b3)) ?_⟩⟩;have hnl':H1 nl=none:=(fA (fA hnl).1).1;exact⟨p,dp,C,_,_,_,rfl,hRL,jL k1 hp p3,rfl,a99 (jL k1 hp p3) (jL k1 hnl' n3) z6 hz cF.1,bad⟩
theorem vL{ky o th:Str}(hRL:RL C (sX C))(h:xT l H0 σ ta zs [.str ky,.str o,.str th] [.ref fa])(z6:zs.length<=6)(hz:∀z∈zs,Nl z)(h1:Nl ky)(h2:Nl o)(h3:Nl th)(bad:mS (eF ((("t":Str),ky)::(th::zs).map λz=>(o,z)))):Ev l H0 σ (mC C (a0B K C) [] E0 ta) (cI RL):=λH Q k s q=>h H _ k s λa H1 s1 e1=>by
 intro p dp hp hdp ne;have k1:=k.mv s1;refine⟨p,dp,a,fa,ky,o,th,zs,rfl,aG,h1,h2,h3,aU.of (by rw[aF (bE e1 hp),aF (bE e1 hdp)];exact e1),bE e1 hp,z6,hz,λH3 nl b3 hnl p3 n3=>⟨rfl,q _ _ (s1.trans (nW hp hdp b3)) ?_⟩⟩;have hnl':H1 nl=none:=(fA (fA hnl).1).1;exact⟨p,dp,C,_,_,_,rfl,hRL,jL k1 hp p3,rfl,a9M (jL k1 hp p3) (jL k1 hnl' n3) z6 hz cF.1 h1 h2 h3,bad⟩
theorem a2b{ky n:Str}(hRL:RL C (rP C))(h:∀(H:Hp) (Q:List V->Hp->Prop),Q [.str ky,.str n,.ref fa] H->ta σ H Q)(h1:Nl ky)(h2:Nl n)(bad:mS (eF [(("t":Str),ky),(("t":Str),n)])):Ev l H0 σ (mC C (zC C) [] E0 ta) (cI RL):=λH Q k s q=>h H _ (by
 intro p dp hp hdp ne
 exact⟨p,dp,fa,ky,n,rfl,aG,h1,h2,λH3 b3 p3=>⟨rfl,q _ _ (nW hp hdp b3) ⟨p,dp,C,_,_,_,rfl,hRL,jL k hp p3,rfl,a6o (jL k hp p3) h1 h2 cF.1,bad⟩⟩⟩)
theorem a7W(hRL:RL C (uI C))(h:∀(H:Hp) (Q:List V->Hp->Prop),Q [.str z,.ref fa] H->ta σ H Q)(h1:Nl z)(bad:mS [(("t":Str),z)]):Ev l H0 σ (mC C (a0E C) [] E0 ta) (cI RL):=λH Q k s q=>h H _ (by
 intro p dp hp hdp ne
 exact⟨p,dp,fa,z,rfl,aG,h1,λH3 b3 p3=>⟨rfl,q _ _ (nW hp hdp b3) ⟨p,dp,C,_,_,_,rfl,hRL,jL k hp p3,rfl,a7D (jL k hp p3),bad⟩⟩⟩)
theorem bz{zs:List bZ}(pre post:List bZ)(z:bZ)(e:zs=pre++ z::post)(h:pre.all (λy=>decide (y.1= "t")&&decide (y.2∈(["a","b","run"]:List Str)))=true)(hz:z=(("t":Str),("zz":Str))\/ z=(("nope":Str),("a":Str))):mS zs:=⟨pre,post,z,e,λy hy=>by
 have:=List.all_eq_true.mp h y hy;simp only[Bool.and_eq_true,decide_eq_true_eq]at this
 exact this,hz⟩
end
def xK(m:Int)(d:PyData):Prop:=(∀ds,d= .list ds->ds.length<=1000/\∀e∈ds,hU e)/\rQ m d=false
def nSz(d:PyData):Prop:=sY d=false
theorem vM{K:Fg}{H:Hp}:∀n:Nat,cL K H (List.replicate n (V.int 0)) (List.replicate n (.int 0))
 |0=> .nil
 |n+ 1=> .cons (.int 0) (vM n)
theorem xF:∀n:Nat,(List.replicate n [V.int 0]).flatten=List.replicate n (V.int 0)
 |0=>rfl
 |n+ 1=>by rw[List.replicate_succ,List.flatten_cons,xF n];rfl
theorem a4U{m:Int}(hn:n<=1000)(h:(n:Int)≠m):xK m (.list (List.replicate n (.int 0))):=⟨λds e=>by
 cases e;refine⟨by rw[List.length_replicate];exact hn,λe he=> ?_⟩;cases (List.mem_replicate.mp he).2
 exact sD (by nofun),by
 show(decide (((List.replicate n (PyData.int 0)).length:Int)=m)&&_)=false
 rw[List.length_replicate,decide_eq_false h,Bool.false_and]⟩
theorem cL.set{K:Fg}{H:Hp}:∀{vs:List V} {ds:List PyData} {j:Nat} {v:V} {d:PyData},cL K H vs ds->Dt K H v d->cL K H (vs.set j v) (ds.set j d)
 |_,_,_,_,_,.nil,_=> .nil
 |_,_,0,_,_,.cons h t,hv=> .cons hv t
 |_,_,j+ 1,_,_,.cons h t,hv=> .cons h (cL.set t hv)
theorem a7y{m:Int}(hn:n<=1000)(hj:j<n)(h:xW d):xK m (.list ((List.replicate n (.int 0)).set j d)):=⟨λds e=>by
 cases e;refine⟨by rw[List.length_set,List.length_replicate];exact hn,λe he=> ?_⟩
 rcases List.mem_or_eq_of_mem_set he with he|rfl
 ·cases (List.mem_replicate.mp he).2
  exact sD (by nofun)
 ·exact h.1,by
 show(_&&((List.replicate n (PyData.int 0)).set j d).all eV)=false
 have:((List.replicate n (PyData.int 0)).set j d).all eV=false:=by
  rw[<- Bool.not_eq_true,List.all_eq_true];intro hall;have:=hall d (List.mem_iff_getElem?.mpr ⟨j,List.getElem?_set_self (by rw[List.length_replicate];exact hj)⟩);rw[h.2]at this;cases this
 rw[this,Bool.and_false]⟩
section
theorem yG{tk:TE}{k:Int}{φ:PyData->Prop}(ht:∀(H:Hp) (Q:VK),Q (.int k) H->tk σ H Q)(h0:0<=k)(h1:k<=100)(h:φ (.list (List.replicate k.toNat (.int 0)))):Ev none H0 σ (hJ rRep (kO (dM (tC (.int 0)) eL)) tk) (λH v=>bL K φ H v/\∃a,v= .ref a/\H a=some (.lst (List.replicate k.toNat (V.int 0)))):=λH Q _ s q=>⟨(show 1<=sizeLine by decide),λz hz=>ht _ _ ⟨z,k,_,rfl,rfl,aG,by omega,by omega,(by show 1* k.toNat<=sizeLine;rw[Nat.one_mul];exact Nat.le_trans (show k.toNat<=100 by omega) (by decide)),λp hp=>q _ _ ((aB.new hz).trans (aB.new hp)) (by
 rw[xF]
 exact⟨⟨_,.lst (aU.of aG) (vM _),h⟩,p,rfl,aG⟩)⟩⟩
theorem Ev.wk{t:TE}{Ψ:Hp->V->Prop}(e:Ev l H0 σ t Φ)(h:∀H v,Φ H v->Ψ H v):Ev l H0 σ t Ψ:=λH Q k s q=>e H Q k s λv H' s' hv=>q v H' s' (h _ _ hv)
theorem mL{tr:TA}{Q:List V->Hp->Prop}(h:te σ H λx H1=>tr σ H1 λxs H2=>Q (x::xs) H2):dM te tr σ H Q:=h
theorem uJ{ta:TE}(h:ta σ H λx H1=>tb σ H1 λy H2=>r x y H2 Q):hJ r ta tb σ H Q:=h
theorem c_(h:Q v H):tC v σ H Q:=h
def fK(CC CA CG CL CM:Addr)(C:Addr)(sp:Sp):Prop:=(C=CC/\sp=pC CC)\/ (C=CA/\sp=uG CA)\/ (C=CG/\sp=rP CG)\/ (C=CL/\sp=sX CL)\/ (C=CM/\sp=uI CM)
theorem a7x(T:aX K mg)(Cc:nM K mg CC)(Ca:pO K mg CA)(Cg:qY K mg CG)(Cl:qN K mg CL)(Cm:pQ K mg CM):∀C sp,fK CC CA CG CL CM C sp->dC K C/\aQ P w K mg af aN 3 C "leans" ["self","table"] sp:=by
 rintro C sp (⟨rfl,rfl⟩|⟨rfl,rfl⟩|⟨rfl,rfl⟩|⟨rfl,rfl⟩|⟨rfl,rfl⟩)
 ·exact⟨Cc.cl,xY T Cc⟩
 ·exact⟨Ca.cl,a89 T Ca⟩
 ·exact⟨Cg.cl,a5H T Cg⟩
 ·exact⟨Cl.cl,a6S T Cl⟩
 ·exact⟨Cm.cl,a9S T Cm⟩
theorem cI.mn:Mn (cI RL):=λ_ _ _ s h=>h.same s
inductive yL(K:Fg)(RN:Hp->V->Prop)(vs:List V)(H:Hp)(Q:VK)(E:XK):Prop
 |mk (x y:Int) (m k nt:Nat) (fa:Addr):vs= [.int x,.int y,.int m,.ref fa] ->1<=m->m<=30->(∀v H',aB H H'->fH K RN k nt m H' v->Q v H')->yL K RN vs H Q E
abbrev Nchg:List Str:=["_law_x","_law_y","_law_many","_law_told","_law_none","_law_values","_law_lists","_law_some","_law_strange","_law_rules"]
theorem jU:bD Nchg ["_law_x","_law_y","_law_many","_law_told"] (aS a2y):={}
theorem gY:∀z∈(["a","zz"]:List Str),Nl z:=by unfold Nl;decide+kernel
theorem b0y(T:aX K mg){CE:Addr}(Ru:lB K mg CE)(Cc:nM K mg CC)(Ca:pO K mg CA)(Cg:qY K mg CG)(Cl:qN K mg CL)(Cm:pQ K mg CM):cT P w K mg af aN 6 "_law_changes" ["_law_x","_law_y","_law_many","_law_told"] (yL K (cI (fK CC CA CG CL CM))):=by
 refine T.d_law_changes.known jU (λ_ _ _ _ _ _ us hl=>iH (λ_ _ _ _=>rfl) us hl) (λf ah A ag s H vs Q E hr h=> ?_)
 ·obtain⟨x,y,m,k,nt,fa,rfl,m1,m30,q⟩:=h
  refine nB ⟨_,(cH (dF (i:=4) jU.nd rfl (Or.inl rfl) (aR.mk (bI (a0c T) hr.mn aL (aA (pv 1) aC))))
   (cH (dF (i:=5) jU.nd rfl (Or.inl rfl) (eY rO (cQ (aH dP aO)) (aR.mk (pv 2))))
   (cH (iB.mk (a0D (bI (a1f T) hr.mn aL (aA (bX nG (pv 0) aT) aC)) (a1w (pv 5) (bX eZ (bX nG (pv 1) aT) (pv 2)) a3T (λ_=>rfl))))
   (cH (dF (i:=6) jU.nd rfl (Or.inl rfl) (cQ (cW (aR.mk (pv 5)) (kY (eY rO (cQ (aH dP aO)) (aR.mk (bX iO (pv 2) aT))) (aH gW (gE (aR.mk (jZ a8K (by rfl) T.tuple a4t (aA (bX rO (dQ (aA aT aC)) (pv 2)) aC))) (kY (eY rO (cQ (aH dP aO)) (aR.mk (bX xO (pv 2) aT))) aO)))))))
   (cH (dF (i:=7) jU.nd rfl (Or.inl rfl) (cQ (aZ (bA (aH aK (aZ (bA (cW (aR.mk (pv 4)) (aH dP aO))) (aH aK aO)))) (aZ (bA (aH aK (aZ (bA (aH aK (aH gW aO))) (aH aK aO)))) aO))))
   (cH (iB.mk (bT (jS F.plainAttrs_list F.slot_list_append F.type_list_append jJ (pv 7) (aA (dU (aA aW (aA (dU (aA aW (aA (cE fM (dQ (aA aT (aA (qS rB aT) (aA xQ (aA iD (aA aW (aA (dQ (aA aT aC)) (aA (bX uE aT aT) aC)))))))) (bX eZ (pv 1) aT) (λ_ _=>rfl)) aC))) (aA aW aC)))) aC))))
   (cH (dF (i:=7) jU.nd rfl (Or.inl rfl) (eY eR (aR.mk (pv 7)) (cQ (aZ (bA (aH aK (aZ (bA (aH aK (aH aK (qC (cQ (aH dP aO)) aO)))) (aH aK aO)))) (aZ (bA (aH aK (aZ (bA (cW (aR.mk (pv 4)) (aH aK (aH gW aO)))) (aH aK aO)))) aO)))))
   (cH (dF (i:=7) jU.nd rfl (Or.inl rfl) (eY eR (aR.mk (pv 7)) (cQ (aZ (bA (aH aK (aZ (bA (aH aK (cW (aR.mk (pv 4)) (aH gW aO)))) (aH aK aO)))) (aZ (bA (aH aK (aZ (bA (aH aK (aH aK (a2J (kC fM (aR.mk (pv 6)) (aR.mk (bX eZ (pv 1) aT)) (λ_ _=>rfl)) aO)))) (aH aK aO)))) aO)))))
   (cH (iB.mk (bT (jS F.plainAttrs_list F.slot_list_append F.type_list_append jJ (pv 7) (aA (dU (aA aW (aA (dU (aA aW (aA aW (aA (cE fM (pv 6) (bX eZ (bX nG (pv 1) aT) aT) (λ_ _=>rfl)) aC)))) (aA aW aC)))) aC))))
   (cH (dF (i:=8) jU.nd rfl (Or.inl rfl) (aR.mk (eX (rZ T Ru Cc) hr.mn Cc.c aL (aA (dQ (aA aW aC)) (aA (pv 3) aC)))))
   (cH (dF (i:=7) jU.nd rfl (Or.inl rfl) (eY eR (aR.mk (pv 7)) (cQ (aZ (bA (aH aK (aZ (bA (aH aK (aH aK (cW (aR.mk (pv 8)) aO)))) (aH aK aO)))) (aZ (bA (aH aK (aZ (bA (cW (aR.mk (pv 4)) (aH aK (cW (aR.mk (pv 8)) aO)))) (aH aK aO)))) aO)))))
   (cH (iB.mk (bT (jS F.plainAttrs_list F.slot_list_append F.type_list_append jJ (pv 7) (aA (dU (aA aW (aA (dU (aA aW (aA (pv 4) (aA (pv 8) aC)))) (aA aW aC)))) aC))))
   (cH (dF (i:=9) jU.nd rfl (Or.inl rfl) (cQ (gE (aR.mk (eX (rZ T Ru Cc) hr.mn Cc.c aL (aA (dQ (aA aW (aA aW aC))) (aA (pv 3) aC)))) (gE (aR.mk (eX (a8r T Ru Ca) hr.mn Ca.c aL (aA aT (aA (dQ (aA aW aC)) (aA (pv 3) aC))))) (gE (aR.mk (eX (a23 T Ru Cg) hr.mn Cg.c aL (aA aW (aA aW (aA (pv 3) aC))))) (gE (aR.mk (eX (a6e T Ru Cm) hr.mn Cm.c aL (aA aW (aA (pv 3) aC)))) aO))))))
   (cH (dF (i:=9) jU.nd rfl (Or.inl rfl) (eY eR (aR.mk (pv 9)) (cQ (gE (aR.mk (eX (a23 T Ru Cg) hr.mn Cg.c aL (aA aW (aA aW (aA (pv 3) aC))))) (gE (aR.mk (eX (uR T Ru Cl) hr.mn Cl.c aL (aA aW (aA aW (aA aW (aA (dQ aC) (aA (pv 3) aC))))))) (gE (aR.mk (eX (uR T Ru Cl) hr.mn Cl.c aL (aA aW (aA aW (aA aW (aA (dQ aC) (aA (pv 3) aC))))))) aO))))))
   (cH (dF (i:=9) jU.nd rfl (Or.inl rfl) (eY eR (aR.mk (pv 9)) (cQ (gE (aR.mk (eX (uR T Ru Cl) hr.mn Cl.c aL (aA aW (aA aW (aA aW (aA (dQ (aA aW aC)) (aA (pv 3) aC))))))) (gE (aR.mk (eX (uR T Ru Cl) hr.mn Cl.c aL (aA aW (aA aW (aA aW (aA (dQ (aA aW aC)) (aA (pv 3) aC))))))) aO)))))
   (cH (iB.mk (bT (jS F.plainAttrs_list F.slot_list_append F.type_list_append jJ (pv 7) (aA (dU (aA aW (aA (dU (aA aW (aA aW (aA (cE fM (pv 9) (bX eZ (pv 1) aT) (λ_ _=>rfl)) aC)))) (aA aW aC)))) aC))))
   (mX (oY (kC fM (aR.mk (pv 7)) (aR.mk (bX eZ (pv 0) (cM gU (by rfl) T.len fS (aA (pv 7) aC)))) (λ_ _=>rfl)))))))))))))))))))),?_⟩
  have hRN:Mn (cI (fK CC CA CG CL CM)):=cI.mn;have mn:Mn (fH K (cI (fK CC CA CG CL CM)) k nt m):=fH.mn hRN;refine gR ⟨_,rfl,y,rfl,λvn H1 s1 hn=> ?_⟩;refine gR ⟨(show 1<=sizeLine by decide),λz hz=>⟨_,rfl,z,(m:Int),_,rfl,rfl,aG,by omega,by omega,(by show 1* (m:Int).toNat<=sizeLine;rw[Nat.one_mul];exact Nat.le_trans (show(m:Int).toNat<=100 by omega) (by decide)),λlv hlv=> ?_⟩⟩;rw[xF];have n1:H1 lv=none:=(fA hlv).1;have s2:aB H1 (upd (upd H1 z (.lst [.int 0])) lv (.lst (List.replicate (m:Int).toNat (V.int 0)))):=(aB.new hz).trans (aB.new hlv);have e2:upd (upd H1 z (.lst [.int 0])) lv (.lst (List.replicate (m:Int).toNat (V.int 0))) lv=some (.lst (List.replicate (m:Int).toNat (V.int 0))):=aG
  generalize upd (upd H1 z (.lst [.int 0])) lv (.lst (List.replicate (m:Int).toNat (V.int 0)))=H2 at s2 e2|-
  have ok2:iM (some lv) H2:=λb e y=>by cases e;rw[e2]at y;cases y
  refine asg_ ⟨_,rfl,_,_,rfl,rfl,⟨by decide,by decide⟩,_,some lv,rfl,ok2,λvv H3 s3 hv=> ?_⟩;have j0:=Int.emod_nonneg (y/ 11) (show(m:Int)≠0 by omega);have j1:=Int.emod_lt_of_pos (y/ 11) (show(0:Int)<m by omega);obtain⟨j,ej⟩:=Int.eq_ofNat_of_zero_le j0;refine⟨_,rfl,_,rfl,_,_,rfl,rfl,⟨by decide,by decide⟩,_,rfl,_,_,rfl,rfl,(show(0:Int)<m by omega),lv,_,_,j,rfl,rfl,s3 _ _ e2,?_,?_⟩
  ·show lF _ (y/ 11% (m:Int))=some j
   rw[ej];unfold lF;rw[if_pos (by omega),if_pos (by rw[List.length_replicate];omega)];rfl
  obtain⟨dv,hv1,hv2⟩:=hv;have hvals:bL K (xK m) (upd H3 lv (.lst ((List.replicate (m:Int).toNat (V.int 0)).set j vv))) (.ref lv):=⟨_,.lst (aU.of aG) (cL.set (vM _) (hv1.same (zN (H:=H3) (o:=.lst ((List.replicate (m:Int).toNat (V.int 0)).set j vv))▸jK))),a7y (by omega) (by omega) hv2⟩;have s4:aB H1 (upd H3 lv (.lst ((List.replicate (m:Int).toNat (V.int 0)).set j vv))):=λb o e=>by rw[aF (bE e n1)];exact s3 _ _ (s2 _ _ e)
  generalize upd H3 lv (.lst ((List.replicate (m:Int).toNat (V.int 0)).set j vv))=H4 at hvals s4|-
  have hn4:=bL.mn _ _ _ s4 hn;refine gR ((Ev.lst (l:=none) (H0:=H4) (Φ:=bL K (xK m)) (n:=5) bL.mn ?_ (by decide)) H4 _ lC (aB.refl _) λvl H5 s5 hL=> ?_)
  ·refine .consN bL.mn ?_ (.consN bL.mn ?_ (.consN bL.mn ?_ (.consN bL.mn ?_ (.consN bL.mn ?_ .nilN))))
   ·exact λH Q _ s q=>⟨_,rfl,q _ _ (aB.refl _) (bL.mn _ _ _ s hvals)⟩
   ·exact(yG (k:=(m:Int)+ 1) (λ_ _ h=>⟨_,rfl,_,_,rfl,rfl,h⟩) (by omega) (by omega) (a4U (by omega) (by omega))).wk λ_ _ h=>h.1
   ·exact Ev.c (λ_=> .non) ⟨(λds e=>by cases e),rfl⟩
   ·exact λH Q kk s q=>yG (K:=K) (k:=(m:Int)) (φ:=λ_=>True) (λ_ _ h=>⟨_,rfl,h⟩) (by omega) (by omega) trivial H _ kk s λv H' s' ⟨_,a,ev,ha⟩=>⟨a,_,by rw[ev],.inl ⟨aU.of ha,λp hp=>q _ _ (s'.trans (aB.new hp)) ⟨_,.tup (bS.of aG) (vM _),(λds e=>by cases e),rfl⟩⟩⟩
   ·exact(yG (k:=(m:Int)- 1) (λ_ _ h=>⟨_,rfl,_,_,rfl,rfl,h⟩) (by omega) (by omega) (a4U (by omega) (by omega))).wk λ_ _ h=>h.1
  have hn5:=bL.mn _ _ _ s5 hn4;have bn:∀{Hx:Hp},aB H5 Hx->Bn K Hx vn:=λs=>hn5.imp λd h=>⟨h.1.same s,h.2⟩
  have nn:∀{Hx:Hp} {nm:Str},aB H5 Hx->eD K Hx nm vn:=λs=> .inl (bn s)
  have s05:aB H H5:=s1.trans (s4.trans s5);refine xJ (Hb:=H5) (Φ:=fH K (cI (fK CC CA CG CL CM)) k nt m) 2 ?_ (by decide) (aB.refl _) λv6 H6 c6=> ?_
  ·refine .consN mn ?_ (.consN mn ?_ .nilN)
   ·exact Ev.ask hRN 0 1 λH Q _ s q=>⟨_,rfl,q _ _ (aB.refl _) (.tN (bn s))⟩
   ·exact Ev.ask hRN 0 1 λH Q _ s q=>q _ _ (aB.refl _) .tT
  refine rE mn rfl c6 (by decide) (λa=> ?_) λH7 c7=> ?_
  ·refine Ev.ask hRN 0 3 λH Q kk s q=>mL (c_ (mL (uJ ((Ev.lst (l:=some a) (H0:=H5) (Φ:=bL K nSz) (n:=7) bL.mn ?_ (by decide)) H _ kk s λv H' s' hL=>⟨_,rfl,_,_,rfl,rfl,(show(0:Int)<_ by decide),hL.at (l:=some a) (Int.emod_nonneg _ (by decide)) (Int.emod_lt_of_pos _ (by decide)) λvz hz=>q _ _ s' (let ⟨d,h1,h2⟩:=hz; .tS h1 h2)⟩))))
   refine .consN bL.mn ?_ (.consN bL.mn ?_ (.consN bL.mn ?_ (.consN bL.mn ?_ (.consN bL.mn ?_ (.consN bL.mn ?_ (.consN bL.mn ?_ .nilN))))))
   ·exact Ev.c (λ_=> .int _) rfl
   ·exact λH Q _ s q=>⟨_,rfl,q _ _ (aB.refl _) ⟨_,.int _,rfl⟩⟩
   ·exact Ev.c (λ_=> .bl _) rfl
   ·exact Ev.c (λ_=> .non) rfl
   ·exact Ev.c (λ_=> .str _) rfl
   ·exact Ev.lstD (.consD (λ_=> .int _) .nilD) (by decide) rfl
   ·exact λH Q _ s q=>⟨_,_,rfl,rfl,⟨by decide,by decide,by decide⟩,q _ _ (aB.refl _) ⟨_,.int _,(by show sY (.int (10^ (20:Int).toNat))=false;decide+kernel)⟩⟩
  refine lH mn rfl c7 2 ?_ (by decide) λv8 H8 c8=> ?_
  ·refine .consN mn ?_ (.consN mn ?_ .nilN)
   ·exact Ev.ask hRN 1 0 λH Q _ s q=>⟨(show 1<=sizeLine by decide),λp hp=>q _ _ (aB.new hp) (.noT (.inr rfl) (by decide) (by decide) rfl)⟩
   ·exact Ev.ask hRN 1 0 λH Q _ s q=>⟨_,rfl,q _ _ (aB.refl _) (.noT (nn s) (by decide) (by decide) rfl)⟩
  refine lH mn rfl c8 2 ?_ (by decide) λv9 H9 c9=> ?_
  ·refine .consN mn ?_ (.consN mn ?_ .nilN)
   ·exact Ev.ask hRN 1 1 λH Q _ s q=>⟨_,rfl,q _ _ (aB.refl _) (.gN (bn s) (.inl rfl))⟩
   ·exact Ev.ask hRN 1 6 λH Q _ s q=>⟨_,rfl,_,rfl,_,_,rfl,rfl,(show(0:Int)<_ by decide),(IsL.mn bL.mn _ _ _ s hL).at (l:=none) (Int.emod_nonneg _ (by decide)) (Int.emod_lt_of_pos _ (by decide)) λvz hz=>q _ _ (aB.refl _) (let ⟨d,h1,h2,h3⟩:=hz; .gV (by decide+kernel) h1 h2 h3)⟩
  refine rE mn rfl c9 (by decide) (λa=> ?_) λH10 c10=> ?_
  ·exact Ev.ask hRN 1 6 λH Q kk s q=>⟨_,rfl,_,rfl,_,_,rfl,rfl,⟨by decide,by decide⟩,_,_,rfl,rfl,(show(0:Int)<_ by decide),(IsL.mn bL.mn _ _ _ s hL).at (l:=some a) (Int.emod_nonneg _ (by decide)) (Int.emod_lt_of_pos _ (by decide)) λvz hz=>q _ _ (aB.refl _) (let ⟨d,h1,h2,h3⟩:=hz; .gV (by decide+kernel) h1 h2 h3)⟩
  have names:∀{l:Option Addr} {Hx:Hp} {σ:St} {ta:TA} {zs:List Str} {pre:List V},(∀(H:Hp) (Q:List V->Hp->Prop),(∀p,H p=none->Q (pre++ [.ref p,.ref fa]) (upd H p (.lst (zs.map V.str))))->ta σ H Q)->xT l Hx σ ta zs pre [.ref fa]:=λh H Q kk s q=>h H Q λp hp=>q p _ (aB.new hp) aG
  refine gR (a0v (K:=K) (l:=none) (H0:=H10) (RL:=fK CC CA CG CL CM) (fa:=fa) (zs:=["zz"]) (.inl ⟨rfl,rfl⟩) (names λH Q q=>⟨(show 1<=sizeLine by decide),λp hp=>⟨_,rfl,q p hp⟩⟩) (by decide) (λz hz=>gY z (List.mem_cons_of_mem _ hz)) (bz [] [] _ rfl rfl (.inl rfl)) H10 _ lC (aB.refl _) λvs H11 s11 _=> ?_);have c11:=c10.mv mn s11;refine lH mn rfl c11 2 ?_ (by decide) λv12 H12 c12=> ?_
  ·refine .consN mn ?_ (.consN mn ?_ .nilN)
   ·exact Ev.ask hRN 2 0 λH Q _ s q=>⟨_,rfl,q _ _ (aB.refl _) (.noT (.inr rfl) (by decide) (by decide) rfl)⟩
   ·exact Ev.ask hRN 2 0 λH Q _ s q=>⟨_,rfl,_,rfl,q _ _ (aB.refl _) (.noT (nn s) (by decide) (by decide) rfl)⟩
  refine rE mn rfl c12 (by decide) (λa=> ?_) λH13 c13=> ?_
  ·exact Ev.ask hRN 2 1 λH Q _ s q=>⟨_,rfl,_,rfl,q _ _ (aB.refl _) (.gN (bn s) (.inr rfl))⟩
  have s13:=c13.le;obtain⟨a13,xs13,rfl,e13,f13,g13⟩:=c13;have ok13:iM (some a13) H13:=λb e y=>by cases e;rw[e13]at y;cases y
  have l1:∀{σ:St} {t3:TE} {zs:List Str},True:=trivial;refine gR ((Ev.lst (l:=some a13) (H0:=er (some a13) H13) (Φ:=cI (fK CC CA CG CL CM)) (n:=4) hRN ?_ (by decide)) H13 _ ok13 (aB.refl _) λv14 H14 s14 h14=> ?_)
  ·refine .consN hRN ?_ (.consN hRN ?_ (.consN hRN ?_ (.consN hRN ?_ .nilN)))
   ·exact a0v (fa:=fa) (zs:=["a","zz"]) (.inl ⟨rfl,rfl⟩) (names λH Q q=>⟨(show 2<=sizeLine by decide),λp hp=>⟨_,rfl,q p hp⟩⟩) (by decide) gY (bz [(("t":Str),("a":Str))] [] _ (by decide+kernel) (by decide+kernel) (.inl rfl))
   ·exact a5X (fa:=fa) (fn:=1) (zs:=["zz"]) (.inr (.inl ⟨rfl,rfl⟩)) (names λH Q q=>⟨(show 1<=sizeLine by decide),λp hp=>⟨_,rfl,q p hp⟩⟩) (by decide) (λz hz=>gY z (List.mem_cons_of_mem _ hz)) (by decide+kernel) (bz [] [] _ (by decide+kernel) rfl (.inl rfl))
   ·exact a2b (fa:=fa) (ky:= "zz") (n:= "a") (.inr (.inr (.inl ⟨rfl,rfl⟩))) (λH Q q=>⟨_,rfl,q⟩) (gY _ (by decide+kernel)) (gY _ (by decide+kernel)) (bz [] [(("t":Str),("a":Str))] _ (by decide+kernel) rfl (.inl rfl))
   ·exact a7W (fa:=fa) (z:= "zz") (.inr (.inr (.inr (.inr ⟨rfl,rfl⟩)))) (λH Q q=>⟨_,rfl,q⟩) (gY _ (by decide+kernel)) (bz [] [] _ rfl rfl (.inl rfl))
  have ok14:=ok13.mv s14;refine gR ((Ev.cat (l:=some a13) (H0:=er (some a13) H14) (Φ:=cI (fK CC CA CG CL CM)) (n:=4) (m:=3) hRN rfl h14 ((Ev.lst (n:=3) hRN ?_ (by decide))) (by decide)) H14 _ ok14 (aB.refl _) λv15 H15 s15 h15=> ?_)
  ·refine .consN hRN ?_ (.consN hRN ?_ (.consN hRN ?_ .nilN))
   ·exact a2b (fa:=fa) (ky:= "a") (n:= "zz") (.inr (.inr (.inl ⟨rfl,rfl⟩))) (λH Q q=>⟨_,rfl,q⟩) (gY _ (by decide+kernel)) (gY _ (by decide+kernel)) (bz [(("t":Str),("a":Str))] [] _ (by decide+kernel) (by decide+kernel) (.inl rfl))
   ·exact vL (fa:=fa) (ky:= "a") (o:= "nope") (th:= "a") (zs:=[]) (.inr (.inr (.inr (.inl ⟨rfl,rfl⟩)))) (names λH Q q=>⟨(show 0<=sizeLine by decide),λp hp=>⟨_,rfl,q p hp⟩⟩) (by decide) (λz hz=>by cases hz) (gY _ (by decide+kernel)) cF.2.1 (gY _ (by decide+kernel)) (bz [(("t":Str),("a":Str))] [] _ (by decide+kernel) (by decide+kernel) (.inr rfl))
   ·exact vL (fa:=fa) (ky:= "a") (o:= "t") (th:= "zz") (zs:=[]) (.inr (.inr (.inr (.inl ⟨rfl,rfl⟩)))) (names λH Q q=>⟨(show 0<=sizeLine by decide),λp hp=>⟨_,rfl,q p hp⟩⟩) (by decide) (λz hz=>by cases hz) (gY _ (by decide+kernel)) cF.1 (gY _ (by decide+kernel)) (bz [(("t":Str),("a":Str))] [] _ (by decide+kernel) (by decide+kernel) (.inl rfl))
  have ok15:=ok14.mv s15;refine gR ((Ev.cat (l:=some a13) (H0:=er (some a13) H15) (Φ:=cI (fK CC CA CG CL CM)) (n:=7) (m:=2) hRN rfl h15 ((Ev.lst (n:=2) hRN ?_ (by decide))) (by decide)) H15 _ ok15 (aB.refl _) λv16 H16 s16 h16=> ?_)
  ·refine .consN hRN ?_ (.consN hRN ?_ .nilN)
   ·exact vL (fa:=fa) (ky:= "a") (o:= "t") (th:= "b") (zs:=["zz"]) (.inr (.inr (.inr (.inl ⟨rfl,rfl⟩)))) (names λH Q q=>⟨(show 1<=sizeLine by decide),λp hp=>⟨_,rfl,q p hp⟩⟩) (by decide) (λz hz=>gY z (List.mem_cons_of_mem _ hz)) (gY _ (by decide+kernel)) cF.1 cF.2.2.2.2.2.1 (bz [(("t":Str),("a":Str)),(("t":Str),("b":Str))] [] _ (by decide+kernel) (by decide+kernel) (.inl rfl))
   ·exact vL (fa:=fa) (ky:= "zz") (o:= "t") (th:= "b") (zs:=["a"]) (.inr (.inr (.inr (.inl ⟨rfl,rfl⟩)))) (names λH Q q=>⟨(show 1<=sizeLine by decide),λp hp=>⟨_,rfl,q p hp⟩⟩) (by decide) (λz hz=>gY z (by cases List.mem_singleton.mp hz;exact List.mem_cons_self)) (gY _ (by decide+kernel)) cF.1 cF.2.2.2.2.2.1 (bz [] [(("t":Str),("b":Str)),(("t":Str),("a":Str))] _ (by decide+kernel) rfl (.inl rfl))
  have s1316:=s14.trans (s15.trans s16);have c16:gH (fH K (cI (fK CC CA CG CL CM)) k nt m) (er (some a13) H16) 11 H16 (.ref a13):=⟨a13,xs13,rfl,s1316 _ _ e13,f13.mn mn (jM s1316),aB.refl _⟩;refine rE mn rfl c16 (by decide) (λa=> ?_) λH17 c17=> ?_
  ·exact Ev.ask hRN 2 2 λH Q kk s q=>⟨_,rfl,_,rfl,_,_,rfl,rfl,(show(0:Int)<_ by decide),(IsL.mn hRN _ _ _ s h16).at (l:=some a) (Int.emod_nonneg _ (by decide)) (Int.emod_lt_of_pos _ (by decide)) λvz hz=>q _ _ (aB.refl _) (.rC hz)⟩
  exact vK mn rfl c17 (by decide) (λy h=>q _ _ (s05.trans (g13.trans ((jM s1316).trans c17.le))) h) (λH Q h=>⟨_,rfl,h⟩)
end
theorem a7e{tg:TG}{D:Addr}(Pv:Nat->List V->Hp->Prop)(h0:Pv 0 [] (upd H1 D (.lst [])))
 (hl:∀i ys H,H D=some (.lst ys)->Pv i ys H->aU K H a xs)
 (hs:∀i x ys H o o',xs[i]?=some x->H D=some (.lst ys)->Pv i ys H->tg x (o::o'::gM cp σ) H λσ' H4=>∃b b',σ'=some b::some b'::gM cp σ/\tt σ' H4 λk H5=>if k=true then te σ' H5 (nI D Pv i ys) else∃ys',H5 D=some (.lst ys')/\Pv (i+ 1) ys' H5)
 (mono:∀v σ0 H (R R':St->Hp->Prop),(∀σ' H',R σ' H'->R' σ' H')->tg v σ0 H R->tg v σ0 H R')
 (hd:∀ys H,H D=some (.lst ys)->Pv xs.length ys H->Q (.ref D) H):wX cp tg tt te σ (pI K a) D Q H1:=by
 refine⟨λi m H=>m=xs.length- i/\i<=xs.length/\∃ys,H D=some (.lst ys)/\Pv i ys H,⟨xs.length,by simp,Nat.zero_le _,[],aG,h0⟩,?_⟩;rintro i m H ⟨rfl,hi,ys,hD,p⟩;by_cases hlt:i<xs.length
 ·refine .inr ⟨⟨xs,xs[i],hl i ys H hD p,by simp[hlt]⟩,nI D Pv i ys,λH4=>∃ys',H4 D=some (.lst ys')/\Pv (i+ 1) ys' H4,λy H5 ⟨h1,h2,h3⟩=>⟨ys,xs.length- (i+ 1),h1,h2,by omega,rfl,hlt,_,aG,h3⟩,λH4 ⟨ys',h1,h2⟩=>⟨xs.length- (i+ 1),by omega,rfl,hlt,ys',h1,h2⟩,λv H' o o' y=> ?_⟩
  obtain⟨e,y⟩:=y;subst e;refine mono _ _ _ _ _ ?_ (hs i v ys _ o o' (y xs (hl i ys _ hD p)) hD p);rintro σ' H4 ⟨b,b',e,q⟩;exact⟨⟨_,_,e⟩,q⟩
 ·have e:i=xs.length:=by omega
  subst e;exact .inl ⟨⟨xs,hl _ ys H hD p,Nat.le_refl _⟩,hd ys H hD p⟩
theorem a8c:bootBuiltins "ValueError"=some (.type "ValueError"):=by kernel_rfl
structure ExJ(K:Fg)(c:Ad)(j:Nat):Prop where
 k:iS K (eU c j)
 e:W.exmOne K (.ref (eU c j)) (.ref c.ColsError)=some true
 v:W.kitOne K (.ref (eU c j)) (.type "ValueError")=some true
 i0:W.kitOne K (.ref (eU c j)) (.ref c.NoTable)=some (j==0)
 i1:W.kitOne K (.ref (eU c j)) (.ref c.NoName)=some (j==1)
 i2:W.kitOne K (.ref (eU c j)) (.ref c.NoColumn)=some (j==2)
 i3:W.kitOne K (.ref (eU c j)) (.ref c.NoSize)=some (j==3)
 i4:W.kitOne K (.ref (eU c j)) (.ref c.TooMuch)=some (j==4)
 i5:W.kitOne K (.ref (eU c j)) (.ref c.NoPlace)=some (j==5)
 i6:W.kitOne K (.ref (eU c j)) (.ref c.NoValue)=some (j==6)
 i7:W.kitOne K (.ref (eU c j)) (.ref c.Ruled)=some (j==7)
 o:∀D∈ [c.NoBack,c.Nobody,c.NoRow,c.NoText,c.Ring,c.Several],W.kitOne K (.ref (eU c j)) (.ref D)=some false
theorem mU{α:Type}{p:α->Prop}{a b c d e f:α}(h1:p a)(h2:p b)(h3:p c)(h4:p d)(h5:p e)(h6:p f):∀x∈ [a,b,c,d,e,f],p x:=by
 intro x hx;simp only[List.mem_cons,List.not_mem_nil,or_false]at hx
 rcases hx with rfl|rfl|rfl|rfl|rfl|rfl<;>assumption
theorem exJ{c:Ad}(X:dG K mg c)(h:j<8):ExJ K c j:=by
 have:j=0\/ j=1\/ j=2\/ j=3\/ j=4\/ j=5\/ j=6\/ j=7:=by omega
 rcases this with rfl|rfl|rfl|rfl|rfl|rfl|rfl|rfl
 ·exact⟨X.k_NoTable,X.e_NoTable_ColsError,X.v_NoTable,X.i_NoTable_NoTable,X.i_NoTable_NoName,X.i_NoTable_NoColumn,X.i_NoTable_NoSize,X.i_NoTable_TooMuch,X.i_NoTable_NoPlace,X.i_NoTable_NoValue,X.i_NoTable_Ruled,mU X.i_NoTable_NoBack X.i_NoTable_Nobody X.i_NoTable_NoRow X.i_NoTable_NoText X.i_NoTable_Ring X.i_NoTable_Several⟩
 ·exact⟨X.k_NoName,X.e_NoName_ColsError,X.v_NoName,X.i_NoName_NoTable,X.i_NoName_NoName,X.i_NoName_NoColumn,X.i_NoName_NoSize,X.i_NoName_TooMuch,X.i_NoName_NoPlace,X.i_NoName_NoValue,X.i_NoName_Ruled,mU X.i_NoName_NoBack X.i_NoName_Nobody X.i_NoName_NoRow X.i_NoName_NoText X.i_NoName_Ring X.i_NoName_Several⟩
 ·exact⟨X.k_NoColumn,X.e_NoColumn_ColsError,X.v_NoColumn,X.i_NoColumn_NoTable,X.i_NoColumn_NoName,X.i_NoColumn_NoColumn,X.i_NoColumn_NoSize,X.i_NoColumn_TooMuch,X.i_NoColumn_NoPlace,X.i_NoColumn_NoValue,X.i_NoColumn_Ruled,mU X.i_NoColumn_NoBack X.i_NoColumn_Nobody X.i_NoColumn_NoRow X.i_NoColumn_NoText X.i_NoColumn_Ring X.i_NoColumn_Several⟩
 ·exact⟨X.k_NoSize,X.e_NoSize_ColsError,X.v_NoSize,X.i_NoSize_NoTable,X.i_NoSize_NoName,X.i_NoSize_NoColumn,X.i_NoSize_NoSize,X.i_NoSize_TooMuch,X.i_NoSize_NoPlace,X.i_NoSize_NoValue,X.i_NoSize_Ruled,mU X.i_NoSize_NoBack X.i_NoSize_Nobody X.i_NoSize_NoRow X.i_NoSize_NoText X.i_NoSize_Ring X.i_NoSize_Several⟩
 ·exact⟨X.k_TooMuch,X.e_TooMuch_ColsError,X.v_TooMuch,X.i_TooMuch_NoTable,X.i_TooMuch_NoName,X.i_TooMuch_NoColumn,X.i_TooMuch_NoSize,X.i_TooMuch_TooMuch,X.i_TooMuch_NoPlace,X.i_TooMuch_NoValue,X.i_TooMuch_Ruled,mU X.i_TooMuch_NoBack X.i_TooMuch_Nobody X.i_TooMuch_NoRow X.i_TooMuch_NoText X.i_TooMuch_Ring X.i_TooMuch_Several⟩
 ·exact⟨X.k_NoPlace,X.e_NoPlace_ColsError,X.v_NoPlace,X.i_NoPlace_NoTable,X.i_NoPlace_NoName,X.i_NoPlace_NoColumn,X.i_NoPlace_NoSize,X.i_NoPlace_TooMuch,X.i_NoPlace_NoPlace,X.i_NoPlace_NoValue,X.i_NoPlace_Ruled,mU X.i_NoPlace_NoBack X.i_NoPlace_Nobody X.i_NoPlace_NoRow X.i_NoPlace_NoText X.i_NoPlace_Ring X.i_NoPlace_Several⟩
 ·exact⟨X.k_NoValue,X.e_NoValue_ColsError,X.v_NoValue,X.i_NoValue_NoTable,X.i_NoValue_NoName,X.i_NoValue_NoColumn,X.i_NoValue_NoSize,X.i_NoValue_TooMuch,X.i_NoValue_NoPlace,X.i_NoValue_NoValue,X.i_NoValue_Ruled,mU X.i_NoValue_NoBack X.i_NoValue_Nobody X.i_NoValue_NoRow X.i_NoValue_NoText X.i_NoValue_Ring X.i_NoValue_Several⟩
 ·exact⟨X.k_Ruled,X.e_Ruled_ColsError,X.v_Ruled,X.i_Ruled_NoTable,X.i_Ruled_NoName,X.i_Ruled_NoColumn,X.i_Ruled_NoSize,X.i_Ruled_TooMuch,X.i_Ruled_NoPlace,X.i_Ruled_NoValue,X.i_Ruled_Ruled,mU X.i_Ruled_NoBack X.i_Ruled_Nobody X.i_Ruled_NoRow X.i_Ruled_NoText X.i_Ruled_Ring X.i_Ruled_Several⟩
abbrev jY(i:Nat):Str:=rM.getD i ""
inductive PF(j:Nat)(H:Hp):Nat->List V->Prop
 |nil {i:Nat}:PF j H i []
 |cons {i:Nat} {t:Addr} {r:List V}:H t=some (.tup [.str (jY i),.bl (j==i)])->PF j H (i+ 1) r->PF j H i (.ref t::r)
theorem PF.same(s:aB H H')(h:PF j H i vs):PF j H' i vs:=by
 induction h with
 |nil=>exact .nil
 |cons h _ ih=>exact .cons (s _ _ h) ih
theorem PF.app(h:PF j H i xs)(h2:PF j H (i+ xs.length) ys):PF j H i (xs++ ys):=by
 induction h with
 |nil=>exact h2
 |cons h _ ih=>exact .cons h (ih (by rw[List.length_cons,<- Nat.add_assoc]at h2;rw[Nat.add_right_comm];exact h2))
theorem PF.at{k:Nat}{x:V}(h:PF j H i xs)(e:xs[k]?=some x):∃t,x= .ref t/\H t=some (.tup [.str (jY (i+ k)),.bl (j==i+ k)]):=by
 induction h generalizing k with
 |nil=>cases e
 |cons h _ ih=>
  cases k with
  |zero=>cases e;exact⟨_,rfl,h⟩
  |succ k=>
   obtain⟨t,a,b⟩:=ih (k:=k) (by simpa using e);exact⟨t,a,by rw[b,show∀a:Nat,a+ 1+ k=a+ (k+ 1) from λa=>by omega]⟩
section
theorem xM(h:ta σ H (yP Q)):kO ta σ H Q:=h
theorem xD(e:σ[i]?=some (some v))(h:Q v H):gI i σ H Q:=⟨v,e,h⟩
theorem sR{c:TT}{t u:TS}(h:c σ H λb H1=>if b=true then t {D with nx:=u D} σ H1 else u D σ H1):jD (qX c t qP) u D σ H:=h
theorem wC{t1 t2:TE}{n1 n2:Str}{Q:List V->Hp->Prop}(h1:∀(H':Hp) (Q:VK),aB H H'->Q (.bl (j==i)) H'->t1 σ H' Q)(h2:∀(H':Hp) (Q:VK),aB H H'->Q (.bl (j==i+ 1)) H'->t2 σ H' Q)(q:∀vs H',aB H H'->vs.length=2->PF j H' i vs->Q vs H')(e1:n1=jY i:=by rfl)(e2:n2=jY (i+ 1):=by rfl):dM (jP (dM (tC (.str n1)) (dM t1 eL))) (dM (jP (dM (tC (.str n2)) (dM t2 eL))) eL) σ H Q:=by
 subst e1 e2;exact h1 _ _ (aB.refl _) ⟨(show 2<=sizeLine by decide),λp hp=>h2 _ _ (aB.new hp) ⟨(show 2<=sizeLine by decide),λp2 hp2=>q _ _ ((aB.new hp).trans (aB.new hp2)) rfl (.cons (aB.new hp2 _ _ aG) (.cons aG .nil))⟩⟩
inductive a4P(c:Ad)(vs:List V)(H:Hp)(Q:VK)(E:XK):Prop
 |mk (ea:Addr) (j:Nat):vs= [.ref ea] ->H ea=some (mG ea (.ref (eU c j)))->j<8->(∀H' l,aB H H'->H' l=some (.lst [.str (jY j)])->Q (.ref l) H')->a4P c vs H Q E
theorem tL:bD ["_law_error","_law_some"] ["_law_error"] (aS a5g):={}
theorem a5S(T:aX K mg){c:Ad}(X:dG K mg c):cT P w K mg af aN 1 "_law_class" ["_law_error"] (a4P c):=by
 refine T.d_law_class.known tL (λ_ _ _ _ _ _ us hl=>fG (λ_=>rfl) us hl) (λf ah A ag s H vs Q E hr h=> ?_)
 ·obtain⟨ea,j,rfl,he,hj,q⟩:=h
  have J:=exJ X hj
  refine nB ⟨_,(cH (iB.mk (bO (PW.pt (fB (cY (cM a6V rfl T.isinstance fR (aA (pv 0) (aA (dU (aA (gC X.c_NoBack) (aA (gC X.c_Nobody) (aA (gC X.c_NoRow) (aA (gC X.c_NoText) (aA (gC X.c_Ring) (aA (gC X.c_Several) aC))))))) aC))) (λ_=>rfl)) (fY (cU (cY (cM mH rfl T.isinstance fR (aA (pv 0) (aA (jR T.ValueError a8c) aC))) (λ_=>rfl)))))) (aI (cC (dQ (aA aW aC)))) bW))
   (cH (dF (i:=1) tL.nd rfl (Or.inl rfl) (cQ (aZ (bA (aH aK (gE (aR.mk (cM mH (by rfl) T.isinstance fR (aA (pv 0) (aA (gC X.c_NoTable) aC)))) aO))) (aZ (bA (aH aK (gE (aR.mk (cM mH (by rfl) T.isinstance fR (aA (pv 0) (aA (gC X.c_NoName) aC)))) aO))) aO))))
   (cH (dF (i:=1) tL.nd rfl (Or.inl rfl) (eY eR (aR.mk (pv 1)) (cQ (aZ (bA (aH aK (gE (aR.mk (cM mH (by rfl) T.isinstance fR (aA (pv 0) (aA (gC X.c_NoColumn) aC)))) aO))) (aZ (bA (aH aK (gE (aR.mk (cM mH (by rfl) T.isinstance fR (aA (pv 0) (aA (gC X.c_NoSize) aC)))) aO))) aO)))))
   (cH (dF (i:=1) tL.nd rfl (Or.inl rfl) (eY eR (aR.mk (pv 1)) (cQ (aZ (bA (aH aK (gE (aR.mk (cM mH (by rfl) T.isinstance fR (aA (pv 0) (aA (gC X.c_TooMuch) aC)))) aO))) (aZ (bA (aH aK (gE (aR.mk (cM mH (by rfl) T.isinstance fR (aA (pv 0) (aA (gC X.c_NoPlace) aC)))) aO))) aO)))))
   (cH (dF (i:=1) tL.nd rfl (Or.inl rfl) (eY eR (aR.mk (pv 1)) (cQ (aZ (bA (aH aK (gE (aR.mk (cM mH (by rfl) T.isinstance fR (aA (pv 0) (aA (gC X.c_NoValue) aC)))) aO))) (aZ (bA (aH aK (gE (aR.mk (cM mH (by rfl) T.isinstance fR (aA (pv 0) (aA (gC X.c_Ruled) aC)))) aO))) aO)))))
   (mX (iB.mk (cC (a8S uY rfl rfl rfl (by decide) (kB (pv 1)) (λ_ _ _ _ _=>(a6d (cY (pv 1) (λ_=>rfl)))) (λ_ _ _ _ _=>(pv 0))))))))))),?_⟩
  refine sR ⟨_,rfl,(show 6<=sizeLine by decide),λtp htp=> ?_⟩;have s1:=aB.new (o:=.tup [.ref c.NoBack,.ref c.Nobody,.ref c.NoRow,.ref c.NoText,.ref c.Ring,.ref c.Several]) htp;refine⟨ea,eU c j,tp,[c.NoBack,c.Nobody,c.NoRow,c.NoText,c.Ring,c.Several],rfl,s1 _ _ he,J.k,aG,J.o,_,rfl,bU ?_⟩;refine⟨_,rfl,ea,eU c j,_,_,_,rfl,s1 _ _ he,J.k,.inr ⟨_,rfl,rfl⟩,J.v,_,rfl,bU ?_⟩
  generalize upd H tp (.tup [.ref c.NoBack,.ref c.Nobody,.ref c.NoRow,.ref c.NoText,.ref c.Ring,.ref c.Several])=H1 at s1|-
  have he1:=s1 _ _ he;have is:∀{σ:St} {D:Addr} {H':Hp} {Q:VK} {b:Bool},σ[0]?=some (some (V.ref ea))->aB H1 H'->W.kitOne K (.ref (eU c j)) (.ref D)=some b->Q (.bl b) H'->a0n 0 σ H' λv H'=>∃(ea' C:Addr) (z:V) (tv:Value) (k:Bool),[v,.ref D]= [.ref ea',z] /\H' ea'=some (mG ea' (.ref C))/\iS K C/\((∃a,z= .ref a/\tv= .ref a)\/ ∃n,z= .ty n/\tv= .type n)/\W.kitOne K (.ref C) tv=some k/\Q (.bl k) H':=λe0 s hk q=>⟨_,e0,ea,eU c j,_,_,_,rfl,s _ _ he1,J.k,.inl ⟨_,rfl,rfl⟩,hk,q⟩
  refine gR (xM ?_);refine wC (i:=0) (j:=j) ?_ ?_ ?_
  ·exact λH' Q s q=>is rfl s J.i0 q
  ·exact λH' Q s q=>is rfl s J.i1 q
  refine λva Ha sa la pa=>⟨(by rw[la];decide),λa1 ha1=> ?_⟩
  have e1:upd Ha a1 (.lst va) a1=some (.lst va):=aG;have t1:=sa.trans (aB.new (o:=.lst va) ha1);have p1:=pa.same (aB.new (o:=.lst va) ha1)
  generalize upd Ha a1 (.lst va)=H2 at e1 t1 p1|-
  refine gR (uJ (xD rfl (xM ?_)));refine wC (i:=2) (j:=j) ?_ ?_ ?_
  ·exact λH' Q s q=>is rfl (t1.trans s) J.i2 q
  ·exact λH' Q s q=>is rfl (t1.trans s) J.i3 q
  refine λvb Hb sb lb pb=>⟨(by rw[lb];decide),λb2 hb2=> ?_⟩
  have u2:=aB.new (o:=.lst vb) hb2;refine⟨a1,b2,va,vb,rfl,rfl,u2 _ _ (sb _ _ e1),aG,(by rw[la,lb];decide),λa2 ha2=> ?_⟩;have w2:=u2.trans (aB.new (o:=.lst (va++ vb)) ha2);have e2:upd (upd Hb b2 (.lst vb)) a2 (.lst (va++ vb)) a2=some (.lst (va++ vb)):=aG;have t2:=(t1.trans sb).trans w2;have p2:PF j (upd (upd Hb b2 (.lst vb)) a2 (.lst (va++ vb))) 0 (va++ vb):=(p1.same (sb.trans w2)).app (by rw[la];exact pb.same w2)
  have l2:(va++ vb).length=4:=by rw[List.length_append,la,lb]
  generalize upd (upd Hb b2 (.lst vb)) a2 (.lst (va++ vb))=H3 at e2 t2 p2|-
  generalize va++ vb=xa at e2 p2 l2|-
  refine gR (uJ (xD rfl (xM ?_)));refine wC (i:=4) (j:=j) ?_ ?_ ?_
  ·exact λH' Q s q=>is rfl (t2.trans s) J.i4 q
  ·exact λH' Q s q=>is rfl (t2.trans s) J.i5 q
  refine λvc Hc sc lc pc=>⟨(by rw[lc];decide),λb3 hb3=> ?_⟩
  have u3:=aB.new (o:=.lst vc) hb3;refine⟨a2,b3,xa,vc,rfl,rfl,u3 _ _ (sc _ _ e2),aG,(by rw[l2,lc];decide),λa3 ha3=> ?_⟩;have w3:=u3.trans (aB.new (o:=.lst (xa++ vc)) ha3);have e3:upd (upd Hc b3 (.lst vc)) a3 (.lst (xa++ vc)) a3=some (.lst (xa++ vc)):=aG;have t3:=(t2.trans sc).trans w3;have p3:PF j (upd (upd Hc b3 (.lst vc)) a3 (.lst (xa++ vc))) 0 (xa++ vc):=(p2.same (sc.trans w3)).app (by rw[l2];exact pc.same w3)
  have l3:(xa++ vc).length=6:=by rw[List.length_append,l2,lc]
  generalize upd (upd Hc b3 (.lst vc)) a3 (.lst (xa++ vc))=H4 at e3 t3 p3|-
  generalize xa++ vc=xb at e3 p3 l3|-
  refine gR (uJ (xD rfl (xM ?_)));refine wC (i:=6) (j:=j) ?_ ?_ ?_
  ·exact λH' Q s q=>is rfl (t3.trans s) J.i6 q
  ·exact λH' Q s q=>is rfl (t3.trans s) J.i7 q
  refine λvd Hd sd ld pd=>⟨(by rw[ld];decide),λb4 hb4=> ?_⟩
  have u4:=aB.new (o:=.lst vd) hb4;refine⟨a3,b4,xb,vd,rfl,rfl,u4 _ _ (sd _ _ e3),aG,(by rw[l3,ld];decide),λa4 ha4=> ?_⟩;have w4:=u4.trans (aB.new (o:=.lst (xb++ vd)) ha4);have e4:upd (upd Hd b4 (.lst vd)) a4 (.lst (xb++ vd)) a4=some (.lst (xb++ vd)):=aG;have t4:=(t3.trans sd).trans w4;have p4:PF j (upd (upd Hd b4 (.lst vd)) a4 (.lst (xb++ vd))) 0 (xb++ vd):=(p3.same (sd.trans w4)).app (by rw[l3];exact pd.same w4)
  have l4:(xb++ vd).length=8:=by rw[List.length_append,l3,ld]
  generalize upd (upd Hd b4 (.lst vd)) a4 (.lst (xb++ vd))=H5 at e4 t4 p4|-
  generalize xb++ vd=xs at e4 p4 l4|-
  refine⟨_,rfl,a4,rfl,⟨_,aU.of e4⟩,λD hD=> ?_⟩;refine a7e (K:=K) (a:=a4) (xs:=xs) (λi ys H2=>aB H5 H2/\ys=if j<i then [.str (jY j)] else []) ⟨aB.new hD,(if_neg (Nat.not_lt_zero j)).symm⟩ (λi ys H2 _ h=>aU.of (h.1 _ _ e4)) ?_ a5Q ?_
  ·rintro i x ys H2 o o' hx h2 ⟨s2,rfl⟩
   obtain⟨t,rfl,ht⟩:=p4.at hx;rw[Nat.zero_add]at ht;refine⟨t,_,rfl,bS.of (s2 _ _ ht),rfl,_,_,rfl,_,_,rfl,rfl,_,_,rfl,_,rfl,_,rfl,?_⟩;by_cases hji:j=i
   ·subst hji
    rw[show (j==j)=true from beq_self_eq_true j];refine cB ⟨_,rfl,h2,fU (by rw[if_neg (Nat.lt_irrefl j)];decide),s2.on hD,?_⟩;rw[if_neg (Nat.lt_irrefl j),if_pos (Nat.lt_succ_self j)];rfl
   ·rw[show (j==i)=false from beq_eq_false_iff_ne.mpr hji]
    refine bU ⟨_,h2,s2,?_⟩;by_cases hlt:j<i
    ·rw[if_pos hlt,if_pos (by omega)]
    ·rw[if_neg hlt,if_neg (by omega)]
  ·rintro ys H2 h2 ⟨s2,rfl⟩
   refine q _ D (s1.trans (t4.trans s2)) ?_;rw[h2,l4,if_pos hj]
end
theorem len4{r:List V}(h:r.length=4):∃a b c d,r= [a,b,c,d]:=by
 match r,h with
 | [a,b,c,d],_=>exact⟨a,b,c,d,rfl⟩
section
theorem bN{y:Str}{t u:TS}(h:x≠y)(e:σ[1]?=some (some (.str x)))(q:u D σ H):jD (qX (tG (hJ rEq (gI 1) (tC (.str y)))) t qP) u D σ H:=sR ⟨_,e,rfl,_,rfl,by
 rw[decide_eq_false (show¬V.str x=V.str y from λz=>h (V.str.inj z))]
 exact q⟩
theorem jO{t u:TS}(e:σ[1]?=some (some (.str x)))(q:t {D with nx:=u D} σ H):jD (qX (tG (hJ rEq (gI 1) (tC (.str x)))) t qP) u D σ H:=sR ⟨_,e,rfl,_,rfl,by
 rw[decide_eq_true (show V.str x=V.str x from rfl)]
 exact q⟩
inductive a4h(K:Fg)(c:Ad)(CS CB CT:Addr)(RN:Hp->V->Prop)(vs:List V)(H:Hp)(E':VK)(E:XK):Prop
 |mk (s bd ch fi:Addr) (B:BM) (kb:List (aD×V)) (k nt m:Nat) (b:Addr) (i j:Nat) (wd:Str) (args:List V):vs= [.ref s,.str wd,.ref b] ->gG CS CB CT s bd ch fi B kb k nt m H->wY[i]?=some wd->H b=some (.tup args)->eO K RN k nt m H i args j->(∀H',aB H H'->E (.ref (eU c j)) none H')->a4h K c CS CB CT RN vs H E' E
theorem a6X:bD ["_law_sheet","_law_word","_law_args"] ["_law_sheet","_law_word","_law_args"] (aS a4e):={}
theorem a6N(T:aX K mg){c:Ad}(X:dG K mg c)(Y:dA K mg CS)(W:cO K mg CB)(U:dE K mg CT)(VP:nX K mg CV)(PI:nQ K mg CI)(TO:nY K mg CO)(hRL:∀C sp,RL C sp->dC K C/\aQ P w K mg af aN 3 C "leans" ["self","table"] sp):cT P w K mg af (bV P w) 10 "_law_done" ["_law_sheet","_law_word","_law_args"] (a4h K c CS CB CT (cI RL)):=by
 have G0:aQ P w K mg af (bV P w) 9 CS "table" ["self","name","many"] (eI K c CS CB CT (cI RL) 0):=a6B T X Y;have G1:aQ P w K mg af (bV P w) 9 CS "give" ["self","table","column","values"] (eI K c CS CB CT (cI RL) 1):=a9i T X Y W U;have G2:aQ P w K mg af (bV P w) 9 CS "rule" ["self","table","column","rule"] (eI K c CS CB CT (cI RL) 2):=b0s T X Y W hRL;have G3:aQ P w K mg af (bV P w) 9 CS "put" ["self","table","column","place","value"] (eI K c CS CB CT (cI RL) 3):=a9r T X Y W U VP;have G4:aQ P w K mg af (bV P w) 9 CS "put_in" ["self","table","place","values"] (eI K c CS CB CT (cI RL) 4):=a8d T X Y W U PI;have G5:aQ P w K mg af (bV P w) 9 CS "take_out" ["self","table","place"] (eI K c CS CB CT (cI RL) 5):=a5J T X Y W U TO;have G6:aQ P w K mg af (bV P w) 9 CS "cell" ["self","table","column","place"] (eI K c CS CB CT (cI RL) 6):=a6s T X Y W U;have G7:aQ P w K mg af (bV P w) 9 CS "stretch" ["self","table","column","start","end"] (eI K c CS CB CT (cI RL) 7):=a5Z T X Y W U;have G8:aQ P w K mg af (bV P w) 9 CS "total" ["self","table","column"] (eI K c CS CB CT (cI RL) 8):=a6I T X Y W U;have G9:aQ P w K mg af (bV P w) 9 CS "came_of" ["self","table","column","place"] (eI K c CS CB CT (cI RL) 9):=a6T T X Y W U;have G10:aQ P w K mg af (bV P w) 9 CS "is_ruled" ["self","table","column"] (eI K c CS CB CT (cI RL) 10):=a9e T X Y W;have G11:aQ P w K mg af (bV P w) 9 CS "columns" ["self","table"] (eI K c CS CB CT (cI RL) 11):=a5A T X Y;have G12:aQ P w K mg af (bV P w) 9 CS "many" ["self","table"] (eI K c CS CB CT (cI RL) 12):=b1c T X Y U;refine T.d_law_done.knownE a6X (λ_ _ _ _ _ _ us hl=>eQ (λ_ _ _=>rfl) us hl) (λvs H Q E h=> ?_) (λf ah A ag s H vs Q E hr h=> ?_)
 ·obtain⟨s',bd,ch,fi,B,kb,k,nt,m,b,i,j,wd,args,rfl,_⟩:=h
  rfl
 ·obtain⟨s',bd,ch,fi,B,kb,k,nt,m,b,i,j,wd,args,rfl,S,hw,hb,hB,q⟩:=h
  obtain⟨dx,h1⟩:=S.sh
  refine⟨_,(aJ (bO (cK gL (pv 1) aW (cN _)) (aI (cC (bF (pv 0) Y.cl G0 hr.mn cG (aA (cE cV (pv 2) aT (λ_ _=>rfl)) (aA (cE cV (pv 2) aT (λ_ _=>rfl)) aC))))) bW)
   (aJ (bO (cK gL (pv 1) aW (cN _)) (aI (cC (bF (pv 0) Y.cl G1 hr.mn cG (aA (cE cV (pv 2) aT (λ_ _=>rfl)) (aA (cE cV (pv 2) aT (λ_ _=>rfl)) (aA (cE cV (pv 2) aT (λ_ _=>rfl)) aC)))))) bW)
   (aJ (bO (cK gL (pv 1) aW (cN _)) (aI (cC (bF (pv 0) Y.cl G2 hr.mn cG (aA (cE cV (pv 2) aT (λ_ _=>rfl)) (aA (cE cV (pv 2) aT (λ_ _=>rfl)) (aA (cE cV (pv 2) aT (λ_ _=>rfl)) aC)))))) bW)
   (aJ (bO (cK gL (pv 1) aW (cN _)) (aI (cC (bF (pv 0) Y.cl G3 hr.mn cG (aA (cE cV (pv 2) aT (λ_ _=>rfl)) (aA (cE cV (pv 2) aT (λ_ _=>rfl)) (aA (cE cV (pv 2) aT (λ_ _=>rfl)) (aA (cE cV (pv 2) aT (λ_ _=>rfl)) aC))))))) bW)
   (aJ (bO (cK gL (pv 1) aW (cN _)) (aI (cC (bF (pv 0) Y.cl G4 hr.mn cG (aA (cE cV (pv 2) aT (λ_ _=>rfl)) (aA (cE cV (pv 2) aT (λ_ _=>rfl)) (aA (cE cV (pv 2) aT (λ_ _=>rfl)) aC)))))) bW)
   (aJ (bO (cK gL (pv 1) aW (cN _)) (aI (cC (bF (pv 0) Y.cl G5 hr.mn cG (aA (cE cV (pv 2) aT (λ_ _=>rfl)) (aA (cE cV (pv 2) aT (λ_ _=>rfl)) aC))))) bW)
   (aJ (bO (cK gL (pv 1) aW (cN _)) (aI (cC (bF (pv 0) Y.cl G6 hr.mn cG (aA (cE cV (pv 2) aT (λ_ _=>rfl)) (aA (cE cV (pv 2) aT (λ_ _=>rfl)) (aA (cE cV (pv 2) aT (λ_ _=>rfl)) aC)))))) bW)
   (aJ (bO (cK gL (pv 1) aW (cN _)) (aI (cC (bF (pv 0) Y.cl G7 hr.mn cG (aA (cE cV (pv 2) aT (λ_ _=>rfl)) (aA (cE cV (pv 2) aT (λ_ _=>rfl)) (aA (cE cV (pv 2) aT (λ_ _=>rfl)) (aA (cE cV (pv 2) aT (λ_ _=>rfl)) aC))))))) bW)
   (aJ (bO (cK gL (pv 1) aW (cN _)) (aI (cC (bF (pv 0) Y.cl G8 hr.mn cG (aA (cE cV (pv 2) aT (λ_ _=>rfl)) (aA (cE cV (pv 2) aT (λ_ _=>rfl)) aC))))) bW)
   (aJ (bO (cK gL (pv 1) aW (cN _)) (aI (cC (bF (pv 0) Y.cl G9 hr.mn cG (aA (cE cV (pv 2) aT (λ_ _=>rfl)) (aA (cE cV (pv 2) aT (λ_ _=>rfl)) (aA (cE cV (pv 2) aT (λ_ _=>rfl)) aC)))))) bW)
   (aJ (bO (cK gL (pv 1) aW (cN _)) (aI (cC (bF (pv 0) Y.cl G10 hr.mn cG (aA (cE cV (pv 2) aT (λ_ _=>rfl)) (aA (cE cV (pv 2) aT (λ_ _=>rfl)) aC))))) bW)
   (aJ (bO (cK gL (pv 1) aW (cN _)) (aI (cC (bF (pv 0) Y.cl G11 hr.mn cG (aA (cE cV (pv 2) aT (λ_ _=>rfl)) aC)))) bW)
   (aI (cC (bF (pv 0) Y.cl G12 hr.mn cG (aA (cE cV (pv 2) aT (λ_ _=>rfl)) aC)))))))))))))))),?_⟩
  have hi:i<13:=(List.getElem?_eq_some_iff.mp hw).1
  have:i=0\/ i=1\/ i=2\/ i=3\/ i=4\/ i=5\/ i=6\/ i=7\/ i=8\/ i=9\/ i=10\/ i=11\/ i=12:=by omega
  rcases this with rfl|rfl|rfl|rfl|rfl|rfl|rfl|rfl|rfl|rfl|rfl|rfl|rfl
  ·cases hw
   obtain⟨x0,x1,rfl⟩:=kQ hB.len;refine jO rfl ?_;exact⟨_,rfl,s',dx,_,rfl,h1,bY,_,rfl,b,_,0,_,rfl,rfl,bS.of hb,rfl,_,rfl,b,_,1,_,rfl,rfl,bS.of hb,rfl,s',bd,ch,fi,B,kb,k,nt,m,_,j,rfl,S,hB,q⟩
  ·cases hw
   obtain⟨x0,x1,x2,rfl⟩:=pK hB.len;refine bN (by decide+kernel) rfl ?_;refine jO rfl ?_;exact⟨_,rfl,s',dx,_,rfl,h1,bY,_,rfl,b,_,0,_,rfl,rfl,bS.of hb,rfl,_,rfl,b,_,1,_,rfl,rfl,bS.of hb,rfl,_,rfl,b,_,2,_,rfl,rfl,bS.of hb,rfl,s',bd,ch,fi,B,kb,k,nt,m,_,j,rfl,S,hB,q⟩
  ·cases hw
   obtain⟨x0,x1,x2,rfl⟩:=pK hB.len;refine bN (by decide+kernel) rfl ?_;refine bN (by decide+kernel) rfl ?_;refine jO rfl ?_;exact⟨_,rfl,s',dx,_,rfl,h1,bY,_,rfl,b,_,0,_,rfl,rfl,bS.of hb,rfl,_,rfl,b,_,1,_,rfl,rfl,bS.of hb,rfl,_,rfl,b,_,2,_,rfl,rfl,bS.of hb,rfl,s',bd,ch,fi,B,kb,k,nt,m,_,j,rfl,S,hB,q⟩
  ·cases hw
   obtain⟨x0,x1,x2,x3,rfl⟩:=len4 hB.len;refine bN (by decide+kernel) rfl ?_;refine bN (by decide+kernel) rfl ?_;refine bN (by decide+kernel) rfl ?_;refine jO rfl ?_;exact⟨_,rfl,s',dx,_,rfl,h1,bY,_,rfl,b,_,0,_,rfl,rfl,bS.of hb,rfl,_,rfl,b,_,1,_,rfl,rfl,bS.of hb,rfl,_,rfl,b,_,2,_,rfl,rfl,bS.of hb,rfl,_,rfl,b,_,3,_,rfl,rfl,bS.of hb,rfl,s',bd,ch,fi,B,kb,k,nt,m,_,j,rfl,S,hB,q⟩
  ·cases hw
   obtain⟨x0,x1,x2,rfl⟩:=pK hB.len;refine bN (by decide+kernel) rfl ?_;refine bN (by decide+kernel) rfl ?_;refine bN (by decide+kernel) rfl ?_;refine bN (by decide+kernel) rfl ?_;refine jO rfl ?_;exact⟨_,rfl,s',dx,_,rfl,h1,bY,_,rfl,b,_,0,_,rfl,rfl,bS.of hb,rfl,_,rfl,b,_,1,_,rfl,rfl,bS.of hb,rfl,_,rfl,b,_,2,_,rfl,rfl,bS.of hb,rfl,s',bd,ch,fi,B,kb,k,nt,m,_,j,rfl,S,hB,q⟩
  ·cases hw
   obtain⟨x0,x1,rfl⟩:=kQ hB.len;refine bN (by decide+kernel) rfl ?_;refine bN (by decide+kernel) rfl ?_;refine bN (by decide+kernel) rfl ?_;refine bN (by decide+kernel) rfl ?_;refine bN (by decide+kernel) rfl ?_;refine jO rfl ?_;exact⟨_,rfl,s',dx,_,rfl,h1,bY,_,rfl,b,_,0,_,rfl,rfl,bS.of hb,rfl,_,rfl,b,_,1,_,rfl,rfl,bS.of hb,rfl,s',bd,ch,fi,B,kb,k,nt,m,_,j,rfl,S,hB,q⟩
  ·cases hw
   obtain⟨x0,x1,x2,rfl⟩:=pK hB.len;refine bN (by decide+kernel) rfl ?_;refine bN (by decide+kernel) rfl ?_;refine bN (by decide+kernel) rfl ?_;refine bN (by decide+kernel) rfl ?_;refine bN (by decide+kernel) rfl ?_;refine bN (by decide+kernel) rfl ?_;refine jO rfl ?_;exact⟨_,rfl,s',dx,_,rfl,h1,bY,_,rfl,b,_,0,_,rfl,rfl,bS.of hb,rfl,_,rfl,b,_,1,_,rfl,rfl,bS.of hb,rfl,_,rfl,b,_,2,_,rfl,rfl,bS.of hb,rfl,s',bd,ch,fi,B,kb,k,nt,m,_,j,rfl,S,hB,q⟩
  ·cases hw
   obtain⟨x0,x1,x2,x3,rfl⟩:=len4 hB.len;refine bN (by decide+kernel) rfl ?_;refine bN (by decide+kernel) rfl ?_;refine bN (by decide+kernel) rfl ?_;refine bN (by decide+kernel) rfl ?_;refine bN (by decide+kernel) rfl ?_;refine bN (by decide+kernel) rfl ?_;refine bN (by decide+kernel) rfl ?_;refine jO rfl ?_;exact⟨_,rfl,s',dx,_,rfl,h1,bY,_,rfl,b,_,0,_,rfl,rfl,bS.of hb,rfl,_,rfl,b,_,1,_,rfl,rfl,bS.of hb,rfl,_,rfl,b,_,2,_,rfl,rfl,bS.of hb,rfl,_,rfl,b,_,3,_,rfl,rfl,bS.of hb,rfl,s',bd,ch,fi,B,kb,k,nt,m,_,j,rfl,S,hB,q⟩
  ·cases hw
   obtain⟨x0,x1,rfl⟩:=kQ hB.len;refine bN (by decide+kernel) rfl ?_;refine bN (by decide+kernel) rfl ?_;refine bN (by decide+kernel) rfl ?_;refine bN (by decide+kernel) rfl ?_;refine bN (by decide+kernel) rfl ?_;refine bN (by decide+kernel) rfl ?_;refine bN (by decide+kernel) rfl ?_;refine bN (by decide+kernel) rfl ?_;refine jO rfl ?_;exact⟨_,rfl,s',dx,_,rfl,h1,bY,_,rfl,b,_,0,_,rfl,rfl,bS.of hb,rfl,_,rfl,b,_,1,_,rfl,rfl,bS.of hb,rfl,s',bd,ch,fi,B,kb,k,nt,m,_,j,rfl,S,hB,q⟩
  ·cases hw
   obtain⟨x0,x1,x2,rfl⟩:=pK hB.len;refine bN (by decide+kernel) rfl ?_;refine bN (by decide+kernel) rfl ?_;refine bN (by decide+kernel) rfl ?_;refine bN (by decide+kernel) rfl ?_;refine bN (by decide+kernel) rfl ?_;refine bN (by decide+kernel) rfl ?_;refine bN (by decide+kernel) rfl ?_;refine bN (by decide+kernel) rfl ?_;refine bN (by decide+kernel) rfl ?_;refine jO rfl ?_;exact⟨_,rfl,s',dx,_,rfl,h1,bY,_,rfl,b,_,0,_,rfl,rfl,bS.of hb,rfl,_,rfl,b,_,1,_,rfl,rfl,bS.of hb,rfl,_,rfl,b,_,2,_,rfl,rfl,bS.of hb,rfl,s',bd,ch,fi,B,kb,k,nt,m,_,j,rfl,S,hB,q⟩
  ·cases hw
   obtain⟨x0,x1,rfl⟩:=kQ hB.len;refine bN (by decide+kernel) rfl ?_;refine bN (by decide+kernel) rfl ?_;refine bN (by decide+kernel) rfl ?_;refine bN (by decide+kernel) rfl ?_;refine bN (by decide+kernel) rfl ?_;refine bN (by decide+kernel) rfl ?_;refine bN (by decide+kernel) rfl ?_;refine bN (by decide+kernel) rfl ?_;refine bN (by decide+kernel) rfl ?_;refine bN (by decide+kernel) rfl ?_;refine jO rfl ?_;exact⟨_,rfl,s',dx,_,rfl,h1,bY,_,rfl,b,_,0,_,rfl,rfl,bS.of hb,rfl,_,rfl,b,_,1,_,rfl,rfl,bS.of hb,rfl,s',bd,ch,fi,B,kb,k,nt,m,_,j,rfl,S,hB,q⟩
  ·cases hw
   obtain⟨x0,rfl⟩:=oJ hB.len;refine bN (by decide+kernel) rfl ?_;refine bN (by decide+kernel) rfl ?_;refine bN (by decide+kernel) rfl ?_;refine bN (by decide+kernel) rfl ?_;refine bN (by decide+kernel) rfl ?_;refine bN (by decide+kernel) rfl ?_;refine bN (by decide+kernel) rfl ?_;refine bN (by decide+kernel) rfl ?_;refine bN (by decide+kernel) rfl ?_;refine bN (by decide+kernel) rfl ?_;refine bN (by decide+kernel) rfl ?_;refine jO rfl ?_;exact⟨_,rfl,s',dx,_,rfl,h1,bY,_,rfl,b,_,0,_,rfl,rfl,bS.of hb,rfl,s',bd,ch,fi,B,kb,k,nt,m,_,j,rfl,S,hB,q⟩
  ·cases hw
   obtain⟨x0,rfl⟩:=oJ hB.len;refine bN (by decide+kernel) rfl ?_;refine bN (by decide+kernel) rfl ?_;refine bN (by decide+kernel) rfl ?_;refine bN (by decide+kernel) rfl ?_;refine bN (by decide+kernel) rfl ?_;refine bN (by decide+kernel) rfl ?_;refine bN (by decide+kernel) rfl ?_;refine bN (by decide+kernel) rfl ?_;refine bN (by decide+kernel) rfl ?_;refine bN (by decide+kernel) rfl ?_;refine bN (by decide+kernel) rfl ?_;refine bN (by decide+kernel) rfl ?_;exact⟨_,rfl,s',dx,_,rfl,h1,bY,_,rfl,b,_,0,_,rfl,rfl,bS.of hb,rfl,s',bd,ch,fi,B,kb,k,nt,m,_,j,rfl,S,hB,q⟩
theorem a8e:∀j<8,PyData.eqv (.list [.str (jY j)]) (.list [.str (jY j)])=true/\(PyData.list [.str (jY j)]).canLay0=true/\(PyData.list [.str (jY j)]).depth<=64/\rM[j]?=some (jY j):=by decide+kernel
inductive yU(K:Fg)(CS CB CT:Addr)(RN:Hp->V->Prop)(vs:List V)(H:Hp)(Q:VK)(E:XK):Prop
 |mk (s bd ch fi:Addr) (B:BM) (kb:List (aD×V)) (k nt m:Nat) (v:V):vs= [.ref s,v] ->gG CS CB CT s bd ch fi B kb k nt m H->fH K RN k nt m H v->(∀H',aB H H'->Q (.bl true) H')->yU K CS CB CT RN vs H Q E
theorem wH:bD ["_law_sheet","_law_asked","_law_caught","e"] ["_law_sheet","_law_asked"] (aS a3K):={}
theorem a9F(T:aX K mg){c:Ad}(X:dG K mg c)(Y:dA K mg CS)(W:cO K mg CB)(U:dE K mg CT)(VP:nX K mg CV)(PI:nQ K mg CI)(TO:nY K mg CO)(hRL:∀C sp,RL C sp->dC K C/\aQ P w K mg af aN 3 C "leans" ["self","table"] sp):cT P w K mg af aN 11 "_law_refused" ["_law_sheet","_law_asked"] (yU K CS CB CT (cI RL)):=by
 refine T.d_law_refused.known wH (λ_ _ _ _ _ _ us hl=>dI (λ_ _=>rfl) us hl) (λf ah A ag s H vs Q E hr h=> ?_)
 ·obtain⟨s',bd,ch,fi,B,kb,k,nt,m,v,rfl,S,⟨a,b,i,j,wd,cn,args,rfl,ha,hw,hc,hb,hB⟩,q⟩:=h
  have hj:j<8:=(List.getElem?_eq_some_iff.mp hc).1;have J:=exJ X hj;obtain⟨c1,c2,c3,c4⟩:=a8e j hj;rw[c4]at hc;obtain rfl:=Option.some.inj hc
  refine⟨_,(aJ (cD (i:=2) wH.nd rfl (Or.inl rfl) iD)
   (aJ (b0C (j:=3) rfl rfl rfl wH.nd rfl rfl X.c_ColsError (a6N T X Y W U VP PI TO hRL) hr.mn (λpn E1=>aA (pv 0) (aA (cE (show oR _ (zV K) from cV) (pv 1) aT (λ_ _=>rfl)) (aA (cE (show oR _ (zV K) from cV) (pv 1) aT (λ_ _=>rfl)) aC))) (λea=>aI (cD (i:=2) wH.nd rfl (Or.inl rfl) (pv 3))))
   (aI (cC (lM (lP a2T (pv 2) iD (cN _)) (lE (lP (wU hr.units) (bI (a5S T X) hr.mn aL (aA (pv 2) aC)) (dQ (aA (cE cV (pv 1) aT (λ_ _=>rfl)) aC)) (cN _)))))))),?_⟩
  refine⟨_,rfl,_,rfl,a,_,0,_,rfl,rfl,bS.of ha,rfl,_,rfl,a,_,1,_,rfl,rfl,bS.of ha,rfl,s',bd,ch,fi,B,kb,k,nt,m,b,i,j,wd,args,rfl,S,hw,hb,hB,λH1 s1=> ?_⟩;refine⟨J.e,λea hea=>⟨_,rfl,?_⟩⟩;have s2:=aB.new (o:=mG ea (.ref (eU c j))) hea;have he2:=aG (H:=H1) (a:=ea) (o:=mG ea (.ref (eU c j)));have s12:=s1.trans s2
  generalize upd H1 ea (mG ea (.ref (eU c j)))=H2 at s12 he2|-
  refine⟨_,rfl,rfl,_,rfl,cB ?_⟩;refine⟨_,rfl,ea,j,rfl,he2,hj,λH3 l s3 hl=> ?_⟩;refine⟨_,rfl,a,_,2,_,rfl,rfl,bS.of (s3 _ _ (s12 _ _ ha)),rfl,(show 1<=sizeLine by decide),λp hp=> ?_⟩;have s4:=aB.new (o:=.lst [.str (jY j)]) hp;refine⟨_,_,.lst (aU.of (s4 _ _ hl)) (.cons (.str _) .nil),.lst (aU.of aG) (.cons (.str _) .nil),c2,c2,c3,?_⟩;rw[c1];exact q _ (s12.trans (s3.trans s4))
end
section
variable{u:TS}
theorem a1A(mn:Mn Φ){tc:TT}{b:Bool}(hc:∀Q,Q b H->tc σ H Q)(hi:σ[i]?=some (some v))(h:gH Φ Hb n H v)(hn:n<1000)(r:b=true->∀a,Ev (some a) Hb σ te Φ)(k:∀n' H',n<=n'->n'<=n+ 1->gH Φ Hb n' H' v->u D σ H'):jD (qX tc (a0w (yO K "list" a0h (gI i) (dM te eL))) qP) u D σ H:=sR (hc _ (by
 cases b with
 |false=>exact bU (k n H (Nat.le_refl _) (Nat.le_succ _) h)
 |true=>exact cB (rE (u:=u) (D:=D) mn hi h hn (r rfl) λH' c=>k _ H' (Nat.le_succ _) (Nat.le_refl _) c)))
theorem a7K(mn:Mn Φ){tc:TT}{b:Bool}(m:Nat)(hc:∀Q,Q b H->tc (σ.set i (some v)) H Q)(hi:i<σ.length)(h:gH Φ Hb n H v)(hn:n+ m<=1000)(r:b=true->fW none Hb (σ.set i (some v)) ta (iT Φ m))(k:∀n' v' H',n<=n'->n'<=n+ m->gH Φ Hb n' H' v'->u D (σ.set i (some v')) H'):jD (qX tc (lI (hJ uF (gI i) (kO ta)) (fT i)) qP) u D (σ.set i (some v)) H:=sR (hc _ (by
 cases b with
 |false=>exact bU (k n v H (Nat.le_refl _) (Nat.le_add_right _ _) h)
 |true=>exact cB (lZ (u:=u) (D:=D) mn hi h m (r rfl) hn λv' H' c=>k _ v' H' (Nat.le_add_right _ _) (Nat.le_refl _) c)))
end
section
variable{k:Nat}
theorem Ev.use{t:TE}(e:Ev l H0 σ t Φ)(k:iM l H)(s:aB H0 (er l H))(q:∀v H',aB H H'->Φ (er l H') v->Q v H'):t σ H Q:=e H Q k s q
theorem Ev.askX(hRN:Mn RN){wd cn:Str}(i j:Nat)(ha:fW none H0 σ ta (λH vs=>eO K RN k nt m H i vs j))(ht:∀(H:Hp) (Q:VK),(∀H',aB H H'->Q (.str cn) H')->tc σ H Q)(hw:wY[i]?=some wd)(hc:rM[j]?=some cn):Ev none H0 σ (jP (dM (tC (.str wd)) (dM (jP ta) (dM tc eL)))) (fH K RN k nt m):=λH Q kk s q=>ha H _ kk s λvs H1 s1 h1=>⟨by rw[h1.len];exact Nat.le_trans (ar4 i) (by decide),λp hp=>ht _ _ λH2 s2=>⟨(show 3<=sizeLine by decide),λp2 hp2=>q _ _ (s1.trans ((aB.new hp).trans (s2.trans (aB.new hp2)))) ⟨p2,p,i,j,wd,cn,vs,rfl,aG,hw,hc,(s2.trans (aB.new hp2)) _ _ aG,h1.same hRN ((aB.new hp).trans (s2.trans (aB.new hp2)))⟩⟩⟩
end
def jN(K:Fg)(H:Hp)(v:V):Prop:=∃d,Dt K H v d/\nV K H v d ["a","b"]
theorem jN.mn:Mn (jN K):=λ_ _ _ s h=>let ⟨d,a,b⟩:=h;⟨d,a.same s,b.same s⟩
theorem rT(e:H p=some (.dK kvs))(h:kvs.length≠2\/ (kvs.length=2/\∃i0 q0,kvs[i0]?=some q0/\(∀q∈kvs.take i0,pS K H ["a","b"] q)/\sU K H ["a","b"] q0)):jN K H (.ref p):=⟨_,.dK e,.inr ⟨p,kvs,rfl,rfl,e,h⟩⟩
section
inductive a0x(K:Fg)(RN:Hp->V->Prop)(vs:List V)(H:Hp)(Q:VK)(E:XK):Prop
 |mk (s:V) (x:Int) (m k nt:Nat) (fa:Addr):vs= [s,.int x,.int nt,.int ((3+ k:Nat):Int),.int m,.ref fa] ->1<=m->m<=30->(k=0\/ k=5)->(∀v H',aB H H'->fH K RN k nt m H' v->Q v H')->a0x K RN vs H Q E
abbrev a8C:List Str:=["_law_sheet","_law_x","_law_tables","_law_columns","_law_many","_law_told","_law_values","_law_some"]
theorem xG:bD a8C ["_law_sheet","_law_x","_law_tables","_law_columns","_law_many","_law_told"] (aS a4A):={}
theorem xX:eE ("a":Str)=true/\eE ("b":Str)=true/\eE ("c":Str)=true:=by decide+kernel
theorem a8w(T:aX K mg){CE:Addr}(Ru:lB K mg CE)(Cc:nM K mg CC):cT P w K mg af aN 6 "_law_full" ["_law_sheet","_law_x","_law_tables","_law_columns","_law_many","_law_told"] (a0x K (cI (fK CC CA CG CL CM))):=by
 refine T.d_law_full.known xG (λ_ _ _ _ _ _ us hl=>bi6 (λ_ _ _ _ _ _=>rfl) us hl) (λf ah A ag s H vs Q E hr h=> ?_)
 ·obtain⟨sv,x,m,k,nt,fa,rfl,m1,m30,hk,q⟩:=h
  refine nB ⟨_,(cH (dF (i:=6) xG.nd rfl (Or.inl rfl) (kC fM (cQ (rG (aR.mk nH) (rG (wW (qB aK dP wL)) (rG (wW (qB aK dP (qB aK gW wL))) (rG (wW (qB aK dP (qB aK dP wL))) (aH gW (qC (cQ (aZ (bA (aH aK (aH dP aO))) (aZ (bA (aH aK (aH dP aO))) aO))) aO))))))) (aR.mk (bX eZ (pv 1) aT)) (λ_ _=>rfl)))
   (cH (dF (i:=7) xG.nd rfl (Or.inl rfl) (cQ (aZ (bA (aH aK (aZ (bA (aH aK (aH dP (cW (aR.mk (pv 6)) aO)))) (a2J (kC fM (cQ (aH aK (aH aK aO))) (aR.mk (jZ a6D (by rfl) T.int a2S (aA (lP gL (pv 4) aT (cN _)) aC))) (λ_ _=>rfl)) aO)))) aO)))
   (cH (iB.mk (bO (cK sB (pv 4) aT (cN _)) (aI (bT (jS F.plainAttrs_list F.slot_list_append F.type_list_append jJ (pv 7) (aA (dU (aA aW (aA (dU (aA aW (aA (pv 4) (aA (a3t (vR aW aT (vR aW aT (vR aW aT a2F))) rfl rfl (by simp) (by decide)) aC)))) (aA aW aC)))) aC)))) bW))
   (cH (iB.mk (bO (cK gL (pv 2) aT (cN _)) (aI (bT (jS F.plainAttrs_list F.slot_list_append F.type_list_append jJ (pv 7) (aA (dU (aA aW (aA (dU (aA aW (aA aT aC))) (aA aW aC)))) aC)))) bW))
   (cH (iB.mk (bO (cK gL (pv 3) aT (cN _)) (aI (cD (i:=7) xG.nd rfl (Or.inl rfl) (bX eR (pv 7) (dQ (aA (dU (aA aW (aA (dU (aA aW (aA aW (aA iD aC)))) (aA aW aC)))) (aA (dU (aA aW (aA (dU (aA aW (aA aW (aA (eX (rZ T Ru Cc) hr.mn Cc.c aL (aA (dQ (aA aW aC)) (aA (pv 5) aC))) aC)))) (aA aW aC)))) aC)))))) bW))
   (mX (oY (kC fM (aR.mk (pv 7)) (aR.mk (bX eZ (bX nG (pv 1) aT) (cM gU (by rfl) T.len fS (aA (pv 7) aC)))) (λ_ _=>rfl))))))))),?_⟩
  have hRN:Mn (cI (fK CC CA CG CL CM)):=cI.mn;have mn:Mn (fH K (cI (fK CC CA CG CL CM)) k nt m):=fH.mn hRN;have gA:∀{Hx:Hp} {kvs:List (aD×V)},∀q∈((((.inr "a":aD),V.int 1)::kvs).take 1),pS K Hx ["a","b"] q:=λq hq=>by
   cases List.mem_singleton.mp hq;exact⟨"a",.int 1,rfl,by decide+kernel,xX.1,by decide,.int 1,rfl,sD (by nofun),by decide+kernel⟩
  refine gR (uJ ((Ev.lst (l:=none) (H0:=H) (Φ:=jN K) (n:=6) jN.mn ?_ (by decide)) H _ lC (aB.refl _) λvr H1 s1 hL=>⟨_,rfl,_,_,rfl,rfl,(show(0:Int)<_ by decide),hL.at (l:=none) (Int.emod_nonneg _ (by decide)) (Int.emod_lt_of_pos _ (by decide)) λvr hr1=> ?_⟩))
  ·refine .consN jN.mn ?_ (.consN jN.mn ?_ (.consN jN.mn ?_ (.consN jN.mn ?_ (.consN jN.mn ?_ (.consN jN.mn ?_ .nilN)))))
   ·exact Ev.dnew λH p e=>rT e (.inl (by decide))
   ·exact Ev.disp (kvs:=[((.inr "a":aD),.int 1)]) (λ_ _ q=>q) (by decide) rfl λH p e=>rT e (.inl (by decide))
   ·exact Ev.disp (kvs:=[((.inr "a":aD),.int 1),((.inr "b":aD),.non)]) (λ_ _ q=>q) (by decide) (by decide+kernel) λH p e=>rT e (.inr ⟨rfl,1,_,rfl,gA,"b",rfl,xX.2.1,by decide,.inr ⟨by decide+kernel,.none,.non,rfl,sD (by nofun),rfl⟩⟩)
   ·exact Ev.disp (kvs:=[((.inr "a":aD),.int 1),((.inr "c":aD),.int 2)]) (λ_ _ q=>q) (by decide) (by decide+kernel) λH p e=>rT e (.inr ⟨rfl,1,_,rfl,gA,"c",rfl,xX.2.2,by decide,.inl (by decide+kernel)⟩)
   ·exact λH Q _ s q=>q _ _ (aB.refl _) ⟨_,.non,.inl (by decide)⟩
   ·exact λH Q _ s q=>⟨(show 2<=sizeLine by decide),λp1 h1=>⟨(show 2<=sizeLine by decide),λp2 h2=>⟨(show 2<=sizeLine by decide),λp3 h3=>q _ _ ((aB.new h1).trans ((aB.new h2).trans (aB.new h3))) ⟨_,.lst (aU.of aG) (.cons (.tup (bS.of (((aB.new h2).trans (aB.new h3)) _ _ aG)) (.cons (.str _) (.cons (.int _) .nil))) (.cons (.tup (bS.of ((aB.new h3) _ _ aG)) (.cons (.str _) (.cons (.int _) .nil))) .nil)),.inl (by decide)⟩⟩⟩⟩
  obtain⟨dr,hr2,hr3⟩:=hr1
  have p0:eS ((m:Int)+ 1) (.int 0)=true:=by
   show(decide ((0:Int)<=0)&&decide ((0:Int)<(m:Int)+ 1))=true;rw[decide_eq_true (Int.le_refl 0),decide_eq_true (show(0:Int)<(m:Int)+ 1 by omega)];rfl
  refine xJ (Hb:=H1) (Φ:=fH K (cI (fK CC CA CG CL CM)) k nt m) 1 ?_ (by decide) (aB.refl _) λv2 H2 c2=> ?_
  ·refine .consN mn ?_ .nilN
   by_cases h30:m=30
   ·refine Ev.askX hRN 4 4 (cn:= "TooMuch") (λH Q _ s q=>⟨_,rfl,q _ _ (aB.refl _) (.iV ⟨_,dr,.int 0,hr2.same s,.inr (.inl ⟨p0,by omega,rfl⟩)⟩)⟩) (λH Q q=>⟨(show 2<=sizeLine by decide),λp hp=> ?_⟩) rfl rfl
    refine⟨_,rfl,rfl,.inr ⟨_,rfl,p,_,1,_,rfl,?_,aU.of aG,rfl,q _ (aB.new hp)⟩⟩;rw[decide_eq_true (show V.int (m:Int)=V.int 30 by rw[h30];rfl)];rfl
   ·refine Ev.askX hRN 4 6 (cn:= "NoValue") (λH Q _ s q=>⟨_,rfl,q _ _ (aB.refl _) (.iV ⟨_,dr,.int 0,hr2.same s,.inr (.inr ⟨p0,by omega,hr3.same s,rfl⟩)⟩)⟩) (λH Q q=>⟨(show 2<=sizeLine by decide),λp hp=> ?_⟩) rfl rfl
    refine⟨_,rfl,rfl,.inr ⟨_,rfl,p,_,0,_,rfl,?_,aU.of aG,rfl,q _ (aB.new hp)⟩⟩;rw[decide_eq_false (show¬V.int (m:Int)=V.int 30 from λz=>h30 (by have:=V.int.inj z;omega))];rfl
  refine a1A mn (b:=decide ((m:Int)<30)) (λQ q=>⟨_,rfl,_,_,rfl,rfl,_,rfl,q⟩) rfl c2 (by decide) (λhb a=> ?_) λn3 H3 l3 u3 c3=> ?_
  ·refine Ev.ask hRN 4 6 λH Q kk s q=>mL (c_ (mL (xD rfl (mL (Ev.use (l:=some a) (H0:=H1) (Φ:=jN K) (Ev.disp (kvs:=[((.inr "a":aD),.int 1),((.inr "b":aD),.int 2),((.inr "run":aD),.int 3)]) (λ_ _ q=>q) (by decide) (by decide+kernel) (λH p e=>rT e (.inl (by decide)))) kk s λvz Hz sz hz=>q _ _ sz (let ⟨d,h1,h2⟩:=hz; .iV ⟨_,d,.int m,h1,.inr (.inr ⟨?_,by have:=of_decide_eq_true hb;omega,h2,rfl⟩)⟩))))))
   show(decide ((0:Int)<=m)&&decide ((m:Int)<(m:Int)+ 1))=true;rw[decide_eq_true (show(0:Int)<=m by omega),decide_eq_true (show(m:Int)<(m:Int)+ 1 by omega)];rfl
  refine a1A mn (b:=decide (V.int (nt:Int)=V.int 4)) (λQ q=>⟨_,rfl,rfl,_,rfl,q⟩) rfl c3 (by omega) (λhb a=> ?_) λn4 H4 l4 u4 c4=> ?_
  ·exact Ev.ask hRN 0 4 λH Q kk s q=>q _ _ (aB.refl _) (.tF (by have:=V.int.inj (of_decide_eq_true hb);omega))
  refine a7K mn (b:=decide (V.int ((3+ k:Nat):Int)=V.int 8)) 2 (λQ q=>⟨_,rfl,rfl,_,rfl,q⟩) (Nat.le_refl 8) c4 (by omega) (λhb=> ?_) λn5 v5 H5 l5 u5 c5=> ?_
  ·have k5:k=5:=by have:=V.int.inj (of_decide_eq_true hb);omega
   refine .consN mn ?_ (.consN mn ?_ .nilN)
   ·exact Ev.ask hRN 1 4 λH Q _ s q=>q _ _ (aB.refl _) (.gF k5 (.inl rfl))
   ·refine Ev.ask hRN 2 4 λH Q kk s q=>mL (c_ (mL (c_ (mL (a0v (K:=K) (l:=none) (H0:=H) (RL:=fK CC CA CG CL CM) (fa:=fa) (zs:=["zz"]) (.inl ⟨rfl,rfl⟩) (λHx Qx _ _ qx=>⟨(show 1<=sizeLine by decide),λp hp=>⟨_,rfl,qx p _ (aB.new hp) aG⟩⟩) (by decide) (λz hz=>gY z (List.mem_cons_of_mem _ hz)) (bz [] [] _ rfl rfl (.inl rfl)) H _ lC (aB.refl _) λvs H' s' _=>q _ _ s' (.gF k5 (.inr rfl)))))))
  exact vK mn (by rfl) c5 (by omega) (λy h=>q _ _ (s1.trans c5.le) h) (λH Q h=>⟨_,rfl,_,_,rfl,rfl,⟨by decide,by decide⟩,h⟩)
end
def lJ(Ks:List Ky)(kvs:List (Ky×V)):Prop:=(kvs.map (·.1)).Nodup/\∀k∈kvs.map (·.1),k∈Ks
theorem a38{α:Type} [DecidableEq α]:∀{l m:List α},l.Nodup->(∀x∈l,x∈m)->l.length<=m.length
 | [],_,_,_=>Nat.zero_le _
 |x::r,m,h,hs=>by
  rw[List.nodup_cons]at h;have hx:=hs x List.mem_cons_self;have:=a38 (l:=r) (m:=m.erase x) h.2 λy hy=>(List.mem_erase_of_ne (λe=>by rw[e]at hy;exact h.1 hy)).mpr (hs y (List.mem_cons_of_mem _ hy))
  rw[List.length_erase_of_mem hx]at this;have:0<m.length:=List.length_pos_of_mem hx;rw[List.length_cons];omega
theorem lJ.len{Ks:List Ky}{kvs:List (Ky×V)}(h:lJ Ks kvs):kvs.length<=Ks.length:=by
 have:=a38 h.1 h.2
 rwa [List.length_map]at this
theorem lJ.nil{Ks:List Ky}:lJ Ks []:=⟨List.nodup_nil,λk hk=>by cases hk⟩
theorem b0R{kvs:List (Ky×V)}{k:Ky}{x:V}(h:bC kvs k=some x):(bH kvs k v).map (·.1)=kvs.map (·.1):=by
 unfold bH;rw[oC,h,if_pos (show(some x).isSome=true from rfl),List.map_map];refine List.map_congr_left λp _=> ?_
 show(if p.1=k then _ else _:Ky×V).1=p.1;split<;>rfl
theorem lJ.put{Ks:List Ky}{kvs:List (Ky×V)}{k:Ky}(h:lJ Ks kvs)(hk:k∈Ks):lJ Ks (bH kvs k v):=by
 cases e:bC kvs k with
 |some x=>unfold lJ;rw[b0R e];exact h
 |none=>
  refine⟨a6Z v h.1 e,λk' hk'=> ?_⟩;rw[qU v e,List.map_append]at hk'
  rcases List.mem_append.mp hk' with hk'|hk'
  ·exact h.2 k' hk'
  ·rw[List.mem_singleton.mp hk']
   exact hk
theorem b0N{t t' c c':Str}{p p':Nat}(h:dH t c p=dH t' c' p'):t=t'/\c=c'/\p=p':=by
 unfold dH at h;simp only[List.cons.injEq,Sum.inr.injEq,Sum.inl.injEq,and_true]at h;exact⟨h.1,h.2.1,by omega⟩
abbrev a2d(nt:Nat):List Str:=(["t","u","v","w"]:List Str).take nt
abbrev nK(m:Nat):List Int:=List.replicate m 0
abbrev nE(m:Nat):List Int:=(List.range m).map Int.ofNat
noncomputable def qJ (nt k m:Nat):PyData:=.list [.list ((a2d nt).map .str),.list ((lU k).map .str),.int m,.bool true,.list ((nK m).map .int),.list ((nE m).map .int)]
theorem a9C:∀nt∈ [2,3,4],∀k∈ [0,5],∀m∈ [1,2,3,30],PyData.eqv (qJ nt k m) (qJ nt k m)=true/\(qJ nt k m).canLay0=true/\(qJ nt k m).depth<=64:=by decide+kernel
noncomputable def mF (m:Nat):List Ky:=(List.range m).map (dH "t" "a")++ (List.range m).map (dH "t" "b")
theorem mF.len(h:m<=30):(mF m).length<899:=by
 unfold mF;rw[List.length_append,List.length_map,List.length_map,List.length_range];omega
structure SG(CS CF CB CT s bd ch fi fd lk:Addr)(B:BM)(kb:List (aD×V))(k nt m:Nat)(Hz:Hp):Prop where
 S:gG CS CB CT s bd ch fi B kb k nt m Hz
 fin:∃df,Hz fi=some (.ins CF df (gO bd fd lk))
 fdn:Hz fd=none
 kn:kb.map (λp=>kV p.1)=(a2d nt).map V.str
 co:∃la lb,B.kvs= [((.inr "a":aD),V.ref la),((.inr "b":aD),V.ref lb)] /\Hz la=some (.lst ((nK m).map V.int))/\Hz lb=some (.lst ((nE m).map V.int))
 mm:m∈ [1,2,3,30] /\nt∈ [2,3,4]
def iL(m:Nat)(c:Str)(is:List Int):Prop:=(c= "a" /\is=nK m)\/ (c= "b" /\is=nE m)
def IG(fd:Addr)(m:Nat)(Hz H:Hp):Prop:=aB Hz H/\∃kf,H fd=some (.dT kf)/\lJ (mF m) kf/\∀c is p v,iL m c is->bC kf (dH "t" c p)=some v->fE (is.map V.int) (p:Int)=some v
section
variable{s fd:Addr}{k:Nat}{Hz:Hp}
theorem IG.same(h:IG fd m Hz H)(e:aB H H'):IG fd m Hz H':=let ⟨a,kf,b,c⟩:=h;⟨a.trans e,kf,e _ _ b,c⟩
theorem IG.on{D:Addr}(h:IG fd m Hz H)(hD:Hz D=none)(h2:H D=some (.lst ys)):IG fd m Hz (upd H D o):=by
 obtain⟨a,kf,b,c⟩:=h;exact⟨λx u e=>by rw[aF (bE e hD)];exact a _ _ e,kf,by rw[aF (λy=>by rw[y,h2]at b;cases b)];exact b,c⟩
theorem SG.sh(G:SG CS CF CB CT s bd ch fi fd lk B kb k nt m Hz)(e:aB Hz H):ShAt CS CB CT s bd ch fi kb "t" B H:=
 have S:=G.S.same e
 ⟨S.sh,S.hb,cF.1,S.tT,S.bt⟩
theorem iL.in{c:Str}(h:iL m c is):c∈(["a","b"]:List Str)/\is.length=m:=by
 rcases h with⟨rfl,rfl⟩|⟨rfl,rfl⟩
 ·exact⟨by decide+kernel,List.length_replicate⟩
 ·exact⟨by decide+kernel,by rw[List.length_map,List.length_range]⟩
theorem SG.col(G:SG CS CF CB CT s bd ch fi fd lk B kb k nt m Hz){c:Str}(h:iL m c is):∃l,bC B.kvs (.inr c:aD)=some (.ref l)/\Hz l=some (.lst (is.map V.int))/\bC B.rus (.inr c:aD)=none:=by
 obtain⟨la,lb,e,h1,h2⟩:=G.co;rw[e]
 rcases h with⟨rfl,rfl⟩|⟨rfl,rfl⟩
 ·exact⟨la,by kernel_rfl,h1,G.S.ru.2.1⟩
 ·exact⟨lb,by kernel_rfl,h2,G.S.ru.2.2⟩
theorem mF.in{c:Str}{p:Nat}(h:iL m c is)(hp:p<m):dH "t" c p∈mF m:=by
 unfold mF
 rcases h with⟨rfl,rfl⟩|⟨rfl,rfl⟩
 ·exact List.mem_append_left _ (List.mem_map.mpr ⟨p,List.mem_range.mpr hp,rfl⟩)
 ·exact List.mem_append_right _ (List.mem_map.mpr ⟨p,List.mem_range.mpr hp,rfl⟩)
theorem iL.fn{c:Str}{is':List Int}(h:iL m c is)(h':iL m c is'):is=is':=by
 rcases h with⟨rfl,rfl⟩|⟨rfl,rfl⟩<;>rcases h' with⟨e,rfl⟩|⟨e,rfl⟩
 ·rfl
 ·exact absurd e (by decide+kernel)
 ·exact absurd e (by decide+kernel)
 ·rfl
theorem SG.cell(G:SG CS CF CB CT s bd ch fi fd lk B kb k nt m Hz)(h:IG fd m Hz H){c:Str}(hc:iL m c is){p:Nat}(hp:p<m)(q:∀H' i,is[p]?=some i->IG fd m Hz H'->bR fd H H'->Q (.int i) H'):spSc CS CF CB CT (pN CF (oX CF CB CT)) [.ref s,.str "t",.str c,.int (p:Int)] H Q E0:=by
 obtain⟨e,kf,h1,h2,h3⟩:=id h;obtain⟨l,c1,c2,c3⟩:=G.col hc;obtain⟨df,hf⟩:=G.fin;have S:=G.S.same e;have hl:=(iL.in hc).2;obtain⟨v,a1,a2⟩:=xH (is.map V.int) (p:Int) (by omega) (by rw[List.length_map,hl];omega);rw[Int.toNat_natCast,List.getElem?_map]at a2;obtain⟨i,a3,rfl⟩:=Option.map_eq_some_iff.mp a2;have kl:=Nat.lt_of_le_of_lt h2.len (mF.len G.S.m1.2);have c4:c∈(["a","b","run"]:List Str):=(by decide+kernel:∀c∈(["a","b"]:List Str),c∈(["a","b","run"]:List Str)) c (iL.in hc).1;refine b0u (l:=l) (fd:=fd) (lk:=lk) ⟨⟨df,e _ _ hf⟩,⟨kb,S.hb,S.tT⟩,S.bt,h1,by omega⟩ (G.sh e) (mT c c4).2.2 (S.no.2.2.2 _ c4) c3 c1 (e _ _ c2) (by rw[S.xm];exact hp) a1 (λv' hv=> ?_) kl λH' kf' hk hfd b=>q H' i a3 ⟨?_,kf',hfd,?_,?_⟩ b
 ·rw[h3 c is p v' hc hv]at a1
  exact Option.some.inj a1
 ·intro x o ex
  exact b _ _ (bE ex G.fdn) (e _ _ ex)
 ·rcases hk with rfl|rfl
  ·exact h2
  ·exact h2.put (mF.in hc hp)
 ·intro c' is' p' v' hc' hv
  rcases hk with rfl|rfl
  ·exact h3 c' is' p' v' hc' hv
  ·rw[yF]at hv
   by_cases y:dH "t" c' p'=dH "t" c p
   ·rw[if_pos y]at hv
    obtain⟨_,rfl,rfl⟩:=b0N y;cases hv;rw[iL.fn hc' hc];exact a1
   ·rw[if_neg y]at hv
    exact h3 c' is' p' v' hc' hv
end
section
inductive a1J(CS CF CB CT:Addr)(vs:List V)(H:Hp)(Q:VK)(E:XK):Prop
 |mk (s bd ch fi fd lk:Addr) (B:BM) (kb:List (aD×V)) (k nt m:Nat) (Hz:Hp) (c:Str) (is:List Int):vs= [.ref s,.str "t",.str c,.int 0,.int (m:Int)] ->SG CS CF CB CT s bd ch fi fd lk B kb k nt m Hz->IG fd m Hz H->iL m c is->(∀H' l,IG fd m Hz H'->bR fd H H'->H' l=some (.lst (is.map V.int))->Q (.ref l) H')->a1J CS CF CB CT vs H Q E
theorem a24(T:aX K mg)(Y:dA K mg CS)(F:jF K mg CF)(Wb:cO K mg CB)(U:dE K mg CT):aQ P w K mg af aN 8 CS "stretch" ["self","table","column","start","end"] (a1J CS CF CB CT):=by
 have G:aQ P w K mg af aN 6 CF "value_of" ["self","cell"] (pN CF (oX CF CB CT)):=a9o T F a7Y (a9h T F Wb U);have G_with:aQ P w K mg af aN 3 CS "board_with" ["self","table","column"] (oB CS CB CT):=sO T Y Wb;refine Y.m_stretch.known tH (λ_ _ _ _ _ _ us hl=>vS (λ_ _ _ _ _=>rfl) us hl) (λf ah A ag s H vs Q E hr h=> ?_)
 ·obtain⟨s',bd,ch,fi,fd,lk,B,kb,k,nt,m,Hz,c,is,rfl,GS,hI,hc,q⟩:=h
  have hcl:∀x,(fV aN P w K mg af qH "Sheet.stretch" (aS oI) f ah A ag s H E).nox.env.scope.names.lookup x=some .cell->∃c,(fV aN P w K mg af qH "Sheet.stretch" (aS oI) f ah A ag s H E).nox.env.cells.lookup x=some c:=λx hx=>Option.isSome_iff_exists.mp (W.cellsFrom_some _ _ _ (.inl hx))
  refine⟨_,(aJ (cD (i:=5) tH.nd rfl ad (fQ (bB (bF (pv 0) Y.cl G_with hr.mn aL (aA (pv 1) (aA (pv 2) aC))) rfl) U.cl (gZ T U) hr.mn aL))
   (aJ (bO (PW.pt (fB (cU (cY (bI (lY T) hr.mn aL (aA (pv 3) aC)) (λ_=>rfl))) (fB (cU (cY (bI (lY T) hr.mn aL (aA (pv 4) aC)) (λ_=>rfl))) (fY (cU (a3D iR iR iR aT (pv 3) (pv 4) (pv 5))))))) (aI bP) bW)
   (aI (cC (rD (te:=uN CF "value_of" (pN CF (oX CF CB CT)) [] E0 (zK K (gI 3) "finder") (dM (jP (dM (gI 1) (dM (gI 2) (dM (gI 0) eL)))) eL)) (rY (sc:=aS oI) (N:=qH) (cp:=[(1,"table"),(2,"column"),(0,"self")]) hcl) rfl rfl (by decide) (a1T rfl T.range (aA (pv 3) (aA (pv 4) aC))) (λ_ _ _ _ _=>oM) (λ_ _ _ _ _=>(bF (bB (pv 3) rfl) F.cl G hr.mn aL (aA (dU (aA (pv 1) (aA (pv 2) (aA (pv 0) aC)))) aC)))))))),?_⟩
  have S:=GS.S.same hI.1;obtain⟨dx,hs⟩:=S.sh;have c4:c∈(["a","b","run"]:List Str):=(by decide+kernel:∀c∈(["a","b"]:List Str),c∈(["a","b","run"]:List Str)) c (iL.in hc).1;have m30:=GS.S.m1;refine⟨_,rfl,s',dx,_,rfl,hs,bY,_,rfl,_,rfl,s',bd,ch,fi,dx,kb,"t",c,B,rfl,hs,S.hb,cF.1,S.tT,S.bt,(mT c c4).2.2,S.no.2.2.2 _ c4,λH1 s1=> ?_⟩;have hB:=(S.same s1).bt;obtain⟨dB,hb⟩:=hB.at_;obtain⟨dT,hT⟩:=hB.tab.at_;refine⟨B.b,CB,dB,_,_,rfl,hb,Wb.cl,Wb.n_given,(dS _ _ _ _).1,B.g,dT,_,rfl,hT,fF,B.g,B.r,B.e,B.xs,B.n,B.kvs,rfl,hB.tab,?_⟩;have i1:=hI.same s1;rw[S.xm];refine⟨_,rfl,_,.int 0,rfl,.int _,_,rfl,bU ⟨_,rfl,_,.int (m:Int),rfl,.int _,_,rfl,bU ?_⟩⟩;refine⟨_,rfl,_,_,rfl,rfl,_,rfl,cB ⟨_,rfl,_,_,rfl,rfl,_,rfl,?_⟩⟩;rw[decide_eq_true (show(0:Int)<=(m:Int)by omega)];refine cB ⟨_,rfl,_,_,rfl,rfl,_,rfl,?_⟩;rw[decide_eq_true (show(m:Int)<=(m:Int) from Int.le_refl _)];refine bU ?_;refine⟨_,rfl,_,rfl,0,(m:Int),rfl,⟨by omega,by omega,by omega,by omega⟩,λD hD=> ?_⟩;rw[Int.sub_zero,Int.toNat_natCast];have zD:Hz D=none:=kG i1.1 hD;have hl:=(iL.in hc).2;refine a8Y (lo:=0) (n:=m) (λi ys H2=>IG fd m Hz H2/\bR fd H1 H2/\ys=(is.take i).map V.int) ⟨i1.same (aB.new hD),bR.of (aB.new hD),rfl⟩ ?_ ?_
  ·rintro i ys H2 hi h2 ⟨i2,b2,rfl⟩
   rw[Int.zero_add];obtain⟨dx2,hs2⟩:=(GS.S.same i2.1).sh;obtain⟨df2,hf2⟩:=GS.fin;have hp:=GS.cell (Q:=nI D (λi ys H2=>IG fd m Hz H2/\bR fd H1 H2/\ys=(is.take i).map V.int) i ((is.take i).map V.int)) i2 hc hi λH3 j hj i3 b3=>by
    have nD:D≠fd:=λy=>by
     obtain⟨_,kf,e,_⟩:=i2;rw[<- y,h2]at e;cases e
    have h3D:=b3 _ _ nD h2;refine⟨h3D,fU (by rw[List.length_map,List.length_take];omega),i3.on zD h3D,λb o nb e=> ?_,?_⟩
    ·rw[aF (bE e hD)]
     exact b3 _ _ nb (b2 _ _ nb e)
    ·rw[List.take_add_one,hj,List.map_append]
     rfl
   obtain⟨sa,bda,cha,fia,dfa,kba,nma,ca,pa,Ba,fsa,ea,hSa,_,_,_,hfa,hna,qa⟩:=hp
   injection ea with e1 ea
   injection ea with e2 ea
   injection ea with e3 ea
   injection ea with e4 ea
   injection e1 with e1
   injection e2 with e2
   injection e3 with e3
   injection e4 with e4
   obtain rfl:i=pa:=by omega
   subst e1 e2 e3;obtain⟨⟨dxa,hsa⟩,_⟩:=hSa;exact⟨_,rfl,s',CS,dxa,_,_,rfl,hsa,Y.cl,Y.n_finder,(iN _ _ _).2.2.1,fia,dfa,fsa,rfl,hfa,hna,_,rfl,_,rfl,_,rfl,sl,λce hce=>qa _ ce hce (aB.new hce) aG⟩
  ·rintro ys H2 h2 ⟨i2,b2,rfl⟩
   rw[List.take_of_length_le (by omega)]at h2;exact q H2 D i2 (λb o nb e=>b2 _ _ nb (s1 _ _ e)) h2
inductive a4Y(CS:Addr)(vs:List V)(H:Hp)(Q:VK)(E:XK):Prop
 |mk (s bd ch fi dx:Addr) (kb:List (aD×V)):vs= [.ref s] ->H s=some (.ins CS dx (eB bd ch fi))->H bd=some (.dK kb)->(∀H' l,aB H H'->H l=none->H' l=some (.lst (kb.map λp=>kV p.1))->Q (.ref l) H')->a4Y CS vs H Q E
theorem b0A:bD ["self"] ["self"] (aS a4n):={}
theorem a8j(T:aX K mg)(Y:dA K mg CS):aQ P w K mg af aN 1 CS "tables" ["self"] (a4Y CS):=by
 refine Y.m_tables.known b0A (λ_ _ _ _ _ _ us hl=>fG (λ_=>rfl) us hl) (λf ah A ag s H vs Q E hr h=> ?_)
 ·obtain⟨s',bd,ch,fi,dx,kb,rfl,h1,h2,q⟩:=h
  refine⟨_,(aI (cC (jZ (a2D rfl) rfl T.list jC (aA (bB (pv 0) rfl) aC)))),?_⟩;exact⟨_,rfl,s',CS,dx,_,_,rfl,h1,Y.cl,Y.n_boards,(iN _ _ _).1,bd,kb,rfl,h2,λl hl=>q _ l (aB.new hl) hl aG⟩
theorem zP{H:Hp}:∀zs:List Str,cL K H (zs.map V.str) (zs.map .str)
 | []=> .nil
 |z::r=> .cons (.str z) (zP r)
theorem yS{H:Hp}:∀is:List Int,cL K H (is.map V.int) (is.map .int)
 | []=> .nil
 |z::r=> .cons (.int z) (yS r)
inductive xV(K:Fg)(CS CF CB CT:Addr)(vs:List V)(H:Hp)(Q:VK)(E:XK):Prop
 |mk (s bd ch fi fd lk:Addr) (B:BM) (kb:List (aD×V)) (k nt m:Nat) (Hz:Hp):vs= [.ref s,.int (m:Int)] ->SG CS CF CB CT s bd ch fi fd lk B kb k nt m Hz->IG fd m Hz H->(∀H' v,IG fd m Hz H'->bR fd H H'->Dt K (er (some fd) H') v (qJ nt k m)->Q v H')->xV K CS CF CB CT vs H Q E
theorem a3l:bD ["_law_sheet","_law_many","_law_found"] ["_law_sheet","_law_many"] (aS a4c):={}
theorem a16(T:aX K mg)(Y:dA K mg CS)(F:jF K mg CF)(Wb:cO K mg CB)(U:dE K mg CT):cT P w K mg af aN 9 "_law_state" ["_law_sheet","_law_many"] (xV K CS CF CB CT):=by
 have G_cols:aQ P w K mg af aN 3 CS "columns" ["self","table"] (a0j CS CB CT):=b00 T Y Wb;have G_isr:aQ P w K mg af aN 4 CS "is_ruled" ["self","table","column"] (zT CS CB CT):=b07 T Y Wb;refine T.d_law_state.known a3l (λ_ _ _ _ _ _ us hl=>dI (λ_ _=>rfl) us hl) (λf ah A ag s H vs Q E hr h=> ?_)
 ·obtain⟨s',bd,ch,fi,fd,lk,B,kb,k,nt,m,Hz,rfl,GS,hI,q⟩:=h
  refine⟨_,(aJ (cD (i:=2) a3l.nd rfl (Or.inl rfl) (dQ (aA (fQ (pv 0) Y.cl (a8j T Y) hr.mn aL) (aA (bF (pv 0) Y.cl G_cols hr.mn aL (aA aW aC)) (aA (bF (pv 0) Y.cl (b1g T Y Wb U) hr.mn aL (aA aW aC)) (aA (bF (pv 0) Y.cl G_isr hr.mn aL (aA aW (aA aW aC))) aC))))))
   (aI (cC (bX eR (pv 2) (dQ (aA (bF (pv 0) Y.cl (a24 T Y F Wb U) hr aL (aA aW (aA aW (aA aT (aA (pv 1) aC))))) (aA (bF (pv 0) Y.cl (a24 T Y F Wb U) hr aL (aA aW (aA aW (aA aT (aA (pv 1) aC))))) aC))))))),?_⟩
  have S:=GS.S.same hI.1;obtain⟨dx,hs⟩:=S.sh;have hfd:∀{x:Addr} {xs:List V} {Hx:Hp},IG fd m Hz Hx->Hx x=some (.lst xs)->x≠fd:=λhI e y=>by
   obtain⟨_,kf,e2,_⟩:=hI;rw[y,e2]at e;cases e
  refine⟨_,rfl,s',dx,_,rfl,hs,bY,s',bd,ch,fi,dx,kb,rfl,hs,S.hb,λH1 l1 s1 n1 e1=> ?_⟩;refine⟨_,rfl,s',dx,_,rfl,s1 _ _ hs,bY,s',bd,ch,fi,dx,kb,"t",B,rfl,s1 _ _ hs,s1 _ _ S.hb,cF.1,S.tT,S.bt.same s1,λH2 l2 s2 n2 e2=> ?_⟩;have s12:=s1.trans s2;refine⟨_,rfl,s',dx,_,rfl,s12 _ _ hs,bY,s',bd,ch,fi,dx,kb,"t",B,rfl,s12 _ _ hs,s12 _ _ S.hb,cF.1,S.tT,S.bt.same s12,λH3 s3=> ?_⟩;have s13:=s12.trans s3;refine⟨_,rfl,s',dx,_,rfl,s13 _ _ hs,bY,s',bd,ch,fi,dx,kb,"t","run",B,rfl,s13 _ _ hs,s13 _ _ S.hb,cF.1,S.tT,S.bt.same s13,cF.2.2.2.2.2.2,S.no.2.2.2 _ (by decide+kernel),λH4 s4=> ?_⟩;rw[S.ru.1,S.xm];have s14:=s13.trans s4;refine⟨(show 4<=sizeLine by decide),λl4 n4=> ?_⟩;have s5:=aB.new (o:=.lst [.ref l1,.ref l2,.int m,.bl true]) n4;have e5:upd H4 l4 (.lst [.ref l1,.ref l2,.int m,.bl true]) l4=some (.lst [.ref l1,.ref l2,.int m,.bl true]):=aG;have s15:=s14.trans s5;have e1':=(s2.trans (s3.trans (s4.trans s5))) _ _ e1;have e2':=(s3.trans (s4.trans s5)) _ _ e2
  generalize upd H4 l4 (.lst [.ref l1,.ref l2,.int m,.bl true])=H5 at s15 e5 e1' e2'|-
  have i5:=hI.same s15;refine⟨_,rfl,_,rfl,s',dx,_,rfl,s15 _ _ hs,bY,_,rfl,s',bd,ch,fi,fd,lk,B,kb,k,nt,m,Hz,"a",nK m,rfl,GS,i5,.inl ⟨rfl,rfl⟩,λH6 l6 i6 b6 e6=> ?_⟩;obtain⟨dx6,hs6⟩:=(GS.S.same i6.1).sh;refine⟨_,rfl,s',dx6,_,rfl,hs6,bY,_,rfl,s',bd,ch,fi,fd,lk,B,kb,k,nt,m,Hz,"b",nE m,rfl,GS,i6,.inr ⟨rfl,rfl⟩,λH7 l7 i7 b7 e7=> ?_⟩;refine⟨(show 2<=sizeLine by decide),λl8 n8=> ?_⟩;have s8:=aB.new (o:=.lst [.ref l6,.ref l7]) n8;have e8:upd H7 l8 (.lst [.ref l6,.ref l7]) l8=some (.lst [.ref l6,.ref l7]):=aG;have nf1:=hfd i5 e1';have nf2:=hfd i5 e2';have nf5:=hfd i5 e5;have nf6:=hfd i6 e6;have nf7:=hfd i7 e7;have e5':=s8 _ _ (b7 _ _ nf5 (b6 _ _ nf5 e5))
  generalize hH8:upd H7 l8 (.lst [.ref l6,.ref l7])=H8 at s8 e8 e5'|-
  refine⟨l4,l8,_,_,rfl,rfl,e5',e8,(show 6<=sizeLine by decide),λl9 n9=> ?_⟩;have s9:=aB.new (o:=.lst ([.ref l1,.ref l2,.int m,.bl true] ++ [.ref l6,.ref l7])) n9;have i8:=i7.same s8;have nf9:l9≠fd:=λy=>by
   obtain⟨_,kf,e,_⟩:=i8;rw[y,e]at n9;cases n9
  have at_:∀{x:Addr} {xs:List V},x≠fd->upd H8 l9 (.lst ([.ref l1,.ref l2,.int m,.bl true] ++ [.ref l6,.ref l7])) x=some (.lst xs)->er (some fd) (upd H8 l9 (.lst ([.ref l1,.ref l2,.int m,.bl true] ++ [.ref l6,.ref l7]))) x=some (.lst xs):=λn e=>by rw[tR (λa ea y=>n (by cases ea;exact y))];exact e
  refine q _ _ (i8.same s9) (λb o nb e=>s9 _ _ (s8 _ _ (b7 _ _ nb (b6 _ _ nb (s15 _ _ e))))) (.lst (aU.of (at_ nf9 aG)) (.cons (.lst (aU.of (at_ nf1 (s9 _ _ (s8 _ _ (b7 _ _ nf1 (b6 _ _ nf1 e1')))))) ?_) (.cons (.lst (aU.of (at_ nf2 (s9 _ _ (s8 _ _ (b7 _ _ nf2 (b6 _ _ nf2 e2')))))) ?_) (.cons (.int _) (.cons (.bl _) (.cons (.lst (aU.of (at_ nf6 (s9 _ _ (s8 _ _ (b7 _ _ nf6 e6))))) (yS _)) (.cons (.lst (aU.of (at_ nf7 (s9 _ _ (s8 _ _ e7)))) (yS _)) .nil)))))))
  ·rw[GS.kn]
   exact zP _
  ·rw[GS.S.od]
   exact zP _
end
def eW(L:List Addr)(H:Hp):Hp:=λb=>if b∈L then none else H b
theorem jX{L:List Addr}:aB (eW L H) H:=λb o e=>by
 by_cases y:b∈L
 ·rw[show eW L H b=none from if_pos y]at e;cases e
 ·rw[show eW L H b=H b from if_neg y]at e;exact e
theorem nU{L:List Addr}(h:H b=some o)(n:b∉L):eW L H b=some o:=(if_neg n:eW L H b=H b).trans h
theorem qD{L:List Addr}(f:∀x o,x∉L->H x=some o->H' x=some o):aB (eW L H) (eW L H'):=λb o e=>by
 by_cases y:b∈L
 ·rw[show eW L H b=none from if_pos y]at e;cases e
 ·rw[show eW L H b=H b from if_neg y]at e
  exact nU (f _ _ y e) y
def mu(s bd ch:Addr)(B:BM):List Addr:=[s,ch,bd,B.od,B.ru,B.me]
def hW(B:BM)(os:List (Str×BM)):List (aD×V):=((.inr "t":aD),V.ref B.b)::os.map λo=>((.inr o.1:aD),V.ref o.2.b)
abbrev kF:List Str:=["run","c","d","e","f","g"]
abbrev iK:List Str:=["u","v","w"]
structure Bu(CS CB CT CC:Addr)(s bd ch:Addr)(csh:List V)(B:BM)(os:List (Str×BM))(m j:Nat)(la lb:Addr)(H:Hp):Prop where
 sh:wD CS s bd ch csh (hW B os) H
 bt:dD CB CT H B
 sp:B.sep
 ss:rR bd ch B
 xm:B.xs.length=m
 kv:B.kvs= [((.inr "a":aD),V.ref la),((.inr "b":aD),V.ref lb)]
 ha:eW (mu s bd ch B) H la=some (.lst ((nK m).map V.int))
 hb:eW (mu s bd ch B) H lb=some (.lst ((nE m).map V.int))
 od:B.ord=(["a","b"]:List Str)++ kF.take j
 rk:B.rus.map (·.1)=(kF.take j).map Sum.inr
 me:B.mes.length<=j
 ru:∀rv∈B.rus,∃(c:Str) (gr dx nl fa:Addr) (zs:List Str),rv=((.inr c:aD),V.ref gr)/\Nl c/\eW (mu s bd ch B) H gr=some (.ins CC dx (kZ nl fa))/\eW (mu s bd ch B) H nl=some (.lst (zs.map V.str))/\(zs=(["a"]:List Str)\/ zs=(["run"]:List Str))
 ob:∀o∈os,dD CB CT (eW (mu s bd ch B) H) o.2/\o.2.rus= []
 on:os.map (·.1)=iK.take os.length
 o3:os.length<=3
 cl:csh.length<=4+ j+ os.length
 j6:j<=6
def qK(CC:Addr)(C:Addr)(sp:Sp):Prop:=C=CC/\sp=pC CC
section
variable{s la lb:Addr}{csh:List V}{os:List (Str×BM)}
theorem yE:∀z∈iK,Nl z/\z≠ "t":=by unfold Nl;decide+kernel
theorem uT:∀z∈kF,Nl z/\z≠ "a":=by unfold Nl;decide+kernel
theorem Bu.mv(h:Bu CS CB CT CC s bd ch csh B os m j la lb H)(e:aB H H'):Bu CS CB CT CC s bd ch csh B os m j la lb H':=by
 have k:aB (eW (mu s bd ch B) H) (eW (mu s bd ch B) H'):=qD λx o _ q=>e _ _ q
 obtain⟨⟨dx,fi,a1⟩,a2,a3⟩:=h.sh
 exact⟨⟨⟨dx,fi,e _ _ a1⟩,e _ _ a2,e _ _ a3⟩,h.bt.same e,h.sp,h.ss,h.xm,h.kv,k _ _ h.ha,k _ _ h.hb,h.od,h.rk,h.me,λrv hv=>by
  obtain⟨c,gr,dx,nl,fa,zs,q1,q2,q3,q4,q5⟩:=h.ru rv hv;exact⟨c,gr,dx,nl,fa,zs,q1,q2,k _ _ q3,k _ _ q4,q5⟩,λo ho=>⟨(h.ob o ho).1.same k,(h.ob o ho).2⟩,h.on,h.o3,h.cl,h.j6⟩
theorem Bu.oin(h:Bu CS CB CT CC s bd ch csh B os m j la lb H){o:Str×BM}(ho:o∈os):o.1∈iK:=List.mem_of_mem_take (h.on▸List.mem_map.mpr ⟨o,ho,rfl⟩)
theorem Bu.kn(h:Bu CS CB CT CC s bd ch csh B os m j la lb H):(hW B os).map (·.1)=(("t":Str)::iK.take os.length).map Sum.inr:=by
 unfold hW;rw[List.map_cons,List.map_map,List.map_cons,<- h.on,List.map_map];rfl
theorem wV:∀{zs:List Str},zs.Nodup->(zs.map (Sum.inr:Str->aD)).Nodup
 | [],_=>List.nodup_nil
 |z::r,h=>by
  rw[List.nodup_cons]at h;rw[List.map_cons,List.nodup_cons]
  exact⟨λy=>by
   obtain⟨z',hz,e⟩:=List.mem_map.mp y;cases e
   exact h.1 hz,wV h.2⟩
theorem tU{α:Type}{zs:List α}(h:zs.Nodup):(zs.take n).Nodup:=h.sublist (List.take_sublist n zs)
theorem vY:kF.Nodup/\(("t":Str)::iK).Nodup:=by decide+kernel
theorem Bu.nd(h:Bu CS CB CT CC s bd ch csh B os m j la lb H):((hW B os).map (·.1)).Nodup:=by
 rw[h.kn]
 exact wV (by
  have:=tU (n:=os.length+ 1) vY.2
  rwa [List.take_succ_cons]at this)
theorem Bu.tv(h:Bu CS CB CT CC s bd ch csh B os m j la lb H):bC (hW B os) (.inr "t":aD)=some (.ref B.b):=tX h.nd List.mem_cons_self
theorem Bu.mus(h:Bu CS CB CT CC s bd ch csh B os m j la lb H):∀y∈mu s bd ch B,∃o,H y=some o:=by
 obtain⟨⟨dx,fi,a1⟩,a2,a3⟩:=h.sh;intro y hy;unfold My.mu at hy;simp only[List.mem_cons,List.not_mem_nil,or_false]at hy
 rcases hy with y|y|y|y|y|y<;>rw[y]
 ·exact⟨_,a1⟩
 ·exact⟨_,a2⟩
 ·exact⟨_,a3⟩
 ·exact⟨_,h.bt.ord⟩
 ·exact⟨_,h.bt.rul⟩
 ·exact⟨_,h.bt.mem⟩
theorem xN:eF ((([z]:List Str)).map λz=>(("t":Str),z))= [(("t":Str),z)]:=rfl
theorem Bu.bdr(h:Bu CS CB CT CC s bd ch csh B os m j la lb H)(hg:∀rv∈B.rus,(("t":Str),("a":Str))∈gl/\(("t":Str),("run":Str))∈gl):∀kv∈hW B os,oZ CB CT bd (qK CC) gl H kv:=by
 intro kv hkv;unfold hW at hkv
 rcases List.mem_cons.mp hkv with rfl|hkv
 ·refine⟨"t",B,rfl,cF.1,h.bt,h.ss.u,?_,?_,λrv hv=> ?_⟩
  ·rw[h.rk]
   exact wV (tU vY.1)
  ·have:=congrArg List.length h.rk
   rw[List.length_map,List.length_map,List.length_take]at this;have:=h.j6;omega
  ·obtain⟨c,gr,dx,nl,fa,zs,q1,q2,q3,q4,q5⟩:=h.ru rv hv
   have hz:∀z∈zs,Nl z:=λz hz=>by
    rcases q5 with rfl|rfl
    ·cases List.mem_singleton.mp hz;exact cF.2.2.2.2.1
    ·cases List.mem_singleton.mp hz;exact cF.2.2.2.2.2.2
   refine⟨c,gr,dx,CC,_,_,eF (zs.map λz=>(("t":Str),z)),⟨rfl,rfl⟩,q1,q2,jX _ _ q3,rfl,a0k (jX _ _ q3) (jX _ _ q4) (by rcases q5 with rfl|rfl<;>decide) hz cF.1,λy hy=> ?_,by rcases q5 with rfl|rfl<;>decide⟩
   rcases q5 with rfl|rfl
   ·rw[xN]at hy
    cases List.mem_singleton.mp hy;exact⟨⟨cF.1,cF.2.2.2.2.1⟩,(hg rv hv).1⟩
   ·rw[xN]at hy
    cases List.mem_singleton.mp hy;exact⟨⟨cF.1,cF.2.2.2.2.2.2⟩,(hg rv hv).2⟩
 ·obtain⟨o,ho,rfl⟩:=List.mem_map.mp hkv
  obtain⟨b1,b2⟩:=h.ob o ho;refine⟨o.1,o.2,rfl,(yE _ (h.oin ho)).1,b1.same jX,λy=> ?_,by rw[b2];exact List.nodup_nil,by rw[b2];exact Nat.zero_le _,λrv hv=>by rw[b2]at hv;cases hv⟩;have:=b1.rul;rw[<- y,show eW (My.mu s bd ch B) H bd=none from if_pos (by unfold My.mu;simp)]at this;cases this
theorem Bu.rule(h:Bu CS CB CT CC s bd ch csh B os m j la lb H){t:Str}(ht:kF[j]?=some t)(hz:(z= "a" /\j=0)\/ (z= "run" /\0<j)){dg:Addr}(hg:H gr=some (.ins CC dg (kZ nl fa)))(hn:H nl=some (.lst [.str z]))(ng:gr∉mu s bd ch B)(nn:nl∉mu s bd ch B)
 (q:∀H' fi fd lk csh' B',Bu CS CB CT CC s bd ch csh' B' os m (j+ 1) la lb H'->My.mu s bd ch B'=My.mu s bd ch B->(∃dx,H' s=some (.ins CS dx (eB bd ch fi)))->(∃df,H' fi=some (.ins CF df (gO bd fd lk)))->H' fd=some (.dT [])->(∀x o,x∉My.mu s bd ch B->H x=some o->H' x=some o)->Q .non H'):oH K CS CF CB CT (qK CC) [.ref s,.str "t",.str t,.ref gr] H Q E0:=by
 have j6:j<6:=(List.getElem?_eq_some_iff.mp ht).1;have tin:t∈kF:=List.mem_of_getElem? ht;have tnew:t∉kF.take j:=λy=>by
  have:=tU (n:=j+ 1) vY.1;rw[List.take_add_one,ht]at this;exact(List.nodup_append.mp this).2.2 t y t (by simp) rfl
 have nza:Nl z/\z∈B.ord:=by
  rw[h.od]
  rcases hz with⟨rfl,_⟩|⟨rfl,h0⟩
  ·exact⟨cF.2.2.2.2.1,List.mem_append_left _ (by decide+kernel)⟩
  ·refine⟨cF.2.2.2.2.2.2,List.mem_append_right _ ?_⟩
   obtain⟨j',rfl⟩:∃j',j=j'+ 1:=⟨j- 1,by omega⟩;rw[List.take_succ_cons];exact List.mem_cons_self
 have ol:B.ord.length=2+ j:=by
  rw[h.od,List.length_append,List.length_take];show 2+ min j 6=2+ j;omega
 have rl:B.rus.length=j:=by
  have:=congrArg List.length h.rk;rw[List.length_map,List.length_map,List.length_take]at this;rw[this];show min j 6=j;omega
 have gl:∃gl:List bZ,(("t":Str),z)∈gl/\(("t":Str),t)∉gl/\gl.length<=100/\∀rv∈B.rus,(("t":Str),("a":Str))∈gl/\(("t":Str),("run":Str))∈gl:=by
  rcases hz with⟨rfl,rfl⟩|⟨rfl,h0⟩
  ·refine⟨[(("t":Str),("a":Str))],List.mem_cons_self,λy=> ?_,by decide,λrv hv=> ?_⟩
   ·have:=List.mem_singleton.mp y
    exact(uT t tin).2 (congrArg Prod.snd this)
   ·rw[List.length_eq_zero_iff.mp rl]at hv
    cases hv
  ·refine⟨[(("t":Str),("a":Str)),(("t":Str),("run":Str))],by simp,λy=> ?_,by decide,λrv hv=>⟨by simp,by simp⟩⟩
   rcases List.mem_cons.mp y with y|y
   ·exact(uT t tin).2 (congrArg Prod.snd y)
   ·have e:t= "run":=congrArg Prod.snd (List.mem_singleton.mp y)
    refine tnew ?_;obtain⟨j',rfl⟩:∃j',j=j'+ 1:=⟨j- 1,by omega⟩;rw[e,List.take_succ_cons];exact List.mem_cons_self
 obtain⟨gl,g1,g2,g3,g4⟩:=gl
 have new:oS B t:=by
  refine⟨?_,?_⟩
  ·cases e:bC B.rus (.inr t:aD)with
   |none=>rfl
   |some x=>
    exfalso
    have hm:(.inr t:aD)∈B.rus.map (·.1):=by
     unfold bC at e;obtain⟨p,hp,_⟩:=Option.map_eq_some_iff.mp e;have:=List.find?_some hp;exact List.mem_map.mpr ⟨p,List.mem_of_find?_eq_some hp,by simpa using this⟩
    rw[h.rk]at hm;obtain⟨t',ht',e'⟩:=List.mem_map.mp hm;cases e';exact tnew ht'
  ·rw[h.od]
   intro y
   rcases List.mem_append.mp y with y|y
   ·exact(by decide+kernel:∀t∈kF,t∉(["a","b"]:List Str)) t tin y
   ·exact tnew y
 have cl:=h.cl;have o3:=h.o3;have me:=h.me;refine⟨CC,pC CC,s,bd,ch,gr,dg,csh,hW B os,"t",t,_,B,eF (([z]:List Str).map λz=>(("t":Str),z)),gl,rfl,⟨rfl,rfl⟩,h.sh,by omega,cF.1,h.tv,h.bt,h.sp,h.ss,new,(uT t tin).1,hg,rfl,a0k hg hn (show 1<=6 by decide) (λy hy=>by cases List.mem_singleton.mp hy;exact nza.1) cF.1,λy hy=> ?_,by rw[xN];exact(show 1<=100 by decide),g2,g3,h.nd,?_,h.bdr g4,by omega,by omega,by omega,λH' fi fd lk c mm fr hm hB' hmm f=> ?_⟩
 ·rw[xN]at hy
  cases List.mem_singleton.mp hy;exact⟨⟨cF.1,nza.1⟩,g1,B,h.tv,h.bt,nza.2⟩
 ·unfold hW
  rw[List.length_cons,List.length_map];omega
 ·obtain⟨f1,f2,f3,f4,f5,_⟩:=fr
  have ff:∀x o,x∉My.mu s bd ch B->H x=some o->H' x=some o:=λx o n e=>by
   unfold My.mu at n;simp only[List.mem_cons,List.not_mem_nil,or_false,not_or]at n;exact f x o n.1 n.2.1 n.2.2.2.1 n.2.2.2.2.1 n.2.2.2.2.2 e
  have k:=qD (L:=My.mu s bd ch B) ff;refine q H' fi fd lk _ {B with rus:=bH B.rus (.inr t:aD) (.ref gr),mes:=bH B.mes (.inr t:aD) (.ref mm),ord:=B.ord++ [t]} ⟨⟨let ⟨dx,e⟩:=f1;⟨dx,fi,e⟩,f2,f3⟩,hB',⟨h.sp.ro,h.sp.eu,h.sp.em,h.sp.um⟩,⟨h.ss.r,h.ss.o,h.ss.e,h.ss.u,h.ss.m⟩,h.xm,h.kv,k _ _ h.ha,k _ _ h.hb,?_,?_,?_,λrv hv=> ?_,λo ho=>⟨(h.ob o ho).1.same k,(h.ob o ho).2⟩,h.on,h.o3,?_,by omega⟩ rfl f1 f4 f5 ff
  ·show B.ord++ [t]=_
   rw[h.od,List.append_assoc,List.take_add_one,ht];rfl
  ·show(bH B.rus (.inr t:aD) (.ref gr)).map (·.1)=_
   rw[qU _ new.1,List.map_append,h.rk,List.take_add_one,ht,List.map_append];rfl
  ·show(bH B.mes (.inr t:aD) (.ref mm)).length<=j+ 1
   have:=tJ B.mes (.inr t:aD) (.ref mm);omega
  ·have hv':rv∈bH B.rus (.inr t:aD) (.ref gr):=hv
   rw[qU _ new.1]at hv'
   rcases List.mem_append.mp hv' with hv'|hv'
   ·obtain⟨c,gr',dx,nl',fa',zs,q1,q2,q3,q4,q5⟩:=h.ru rv hv'
    exact⟨c,gr',dx,nl',fa',zs,q1,q2,k _ _ q3,k _ _ q4,q5⟩
   ·cases List.mem_singleton.mp hv'
    exact⟨t,gr,dg,nl,fa,[z],rfl,(uT t tin).1,nU (ff _ _ ng hg) ng,nU (ff _ _ nn hn) nn,by rcases hz with⟨rfl,_⟩|⟨rfl,_⟩;exact .inl rfl;exact .inr rfl⟩
  ·rw[List.length_append]
   show csh.length+ 1<=_;omega
end
theorem dD.off3{s:Addr}{cs:List V}(h:dD CB CT H B)(hs:∃dx bd ch' fi,H s=some (.ins CS dx (eB bd ch' fi)))(hc:H ch=some (.lst cs))(hd:H bd=some (.dK kb))(ss:rR bd ch B)(u:∀x o,x≠s->x≠ch->x≠bd->H x=some o->H' x=some o):dD CB CT H' B:=by
 obtain⟨dx,bd',ch',fi,hs⟩:=hs;obtain⟨⟨d1,e1⟩,⟨⟨d2,e2⟩,e3,e4⟩,e5,e6,e7⟩:=h;have ns:∀{x:Addr} {o:HO},H x=some o->(∀a b c,o≠ .ins a b c)->x≠s:=λe n y=>by rw[y,hs]at e;exact n _ _ _ (Option.some.inj e).symm
 have nc:∀{x:Addr} {o:HO},H x=some o->(∀a,o≠ .lst a)->x≠ch:=λe n y=>by rw[y,hc]at e;exact n _ (Option.some.inj e).symm
 have nd:∀{x:Addr} {o:HO},H x=some o->(∀a,o≠ .dK a)->x≠bd:=λe n y=>by rw[y,hd]at e;exact n _ (Option.some.inj e).symm
 have nT:B.g≠s:=λy=>by
  rw[y,hs]at e2;cases e2
 exact⟨⟨d1,u _ _ (a03 e1 hs (show 4≠3 by decide)) (nc e1 nk) (nd e1 nk) e1⟩,⟨⟨d2,u _ _ nT (nc e2 nk) (nd e2 nk) e2⟩,u _ _ (ns e3 (λ_ _ _ y=>by cases y)) ss.r.symm (nd e3 nk) e3,u _ _ (ns e4 (λ_ _ _ y=>by cases y)) (nc e4 nk) ss.e.symm e4⟩,u _ _ (ns e5 (λ_ _ _ y=>by cases y)) (nc e5 nk) ss.u.symm e5,u _ _ (ns e6 (λ_ _ _ y=>by cases y)) (nc e6 nk) ss.m.symm e6,u _ _ (ns e7 (λ_ _ _ y=>by cases y)) ss.o.symm (nd e7 nk) e7⟩
theorem vI{k:aD}(h:k∉kvs.map (·.1)):bC kvs k=none:=by
 cases e:bC kvs k with
 |none=>rfl
 |some x=>
  unfold bC at e;obtain⟨p,hp,_⟩:=Option.map_eq_some_iff.mp e;have:=List.find?_some hp;exact absurd (List.mem_map.mpr ⟨p,List.mem_of_find?_eq_some hp,by simpa using this⟩) h
section
variable{s la lb:Addr}{csh:List V}{os:List (Str×BM)}
theorem Bu.table(h:Bu CS CB CT CC s bd ch csh B os m j la lb H){nm:Str}(hn:iK[os.length]?=some nm){mm:Nat}(m30:mm<=30)
 (q:∀H' fi fd lk csh' O,Bu CS CB CT CC s bd ch csh' B (os++ [(nm,O)]) m j la lb H'->(∃dx,H' s=some (.ins CS dx (eB bd ch fi)))->(∃df,H' fi=some (.ins CF df (gO bd fd lk)))->H' fd=some (.dT [])->(∀x o,x∉mu s bd ch B->H x=some o->H' x=some o)->Q .non H'):oU CS CF CB CT [.ref s,.str nm,.int (mm:Int)] H Q E0:=by
 have o3:os.length<3:=(List.getElem?_eq_some_iff.mp hn).1;have nin:nm∈iK:=List.mem_of_getElem? hn;have cl:=h.cl;have j6:=h.j6
 have nnew:(.inr nm:aD)∉(hW B os).map (·.1):=by
  rw[h.kn,List.map_cons];intro y
  rcases List.mem_cons.mp y with y|y
  ·exact(yE nm nin).2 (Sum.inr.inj y)
  ·obtain⟨z,hz,e⟩:=List.mem_map.mp y
   cases e;have:=tU (n:=os.length+ 1) (show iK.Nodup by decide+kernel);rw[List.take_add_one,hn]at this;exact(List.nodup_append.mp this).2.2 nm hz nm (by simp) rfl
 refine⟨s,bd,ch,csh,hW B os,nm,mm,rfl,h.sh,by omega,?_,(yE nm nin).1,vI nnew,m30,λH' fi fd lk c b g r e ru me od fr hB sep nw f=> ?_⟩
 ·unfold hW
  rw[List.length_cons,List.length_map];omega
 obtain⟨f1,f2,f3,f4,f5,f6,f7,f8,f9,f10⟩:=fr;have ff:∀x o,x∉mu s bd ch B->H x=some o->H' x=some o:=λx o n e=>by
  unfold mu at n;simp only[List.mem_cons,List.not_mem_nil,or_false,not_or]at n;exact f x o n.1 n.2.1 n.2.2.1 e
 have k:=qD (L:=mu s bd ch B) ff;obtain⟨⟨dx,fi0,a1⟩,a2,a3⟩:=h.sh;have nmu:∀{x:Addr} {o:HO},x∈ [b,g,r,e,ru,me,od] ->H' x=some o->eW (mu s bd ch B) H' x=some o:=λhx e=>nU e λhm=>by
  obtain⟨o',e'⟩:=h.mus _ hm;rw[nw _ hx]at e';cases e'
 refine q H' fi fd lk _ ⟨b,g,r,e,ru,me,od,eM 0 mm,(mm:Int),[],[],[],[]⟩ ⟨⟨let ⟨dx,e⟩:=f1;⟨dx,fi,e⟩,f2,?_⟩,h.bt.off3 ⟨dx,bd,ch,fi0,a1⟩ a2 a3 h.ss f,h.sp,h.ss,h.xm,h.kv,k _ _ h.ha,k _ _ h.hb,h.od,h.rk,h.me,λrv hv=> ?_,λo ho=> ?_,?_,?_,?_,h.j6⟩ f1 f4 f5 ff
 ·rw[f3,qU _ (vI nnew)]
  unfold hW;rw[List.map_append];rfl
 ·obtain⟨c,gr,dx,nl,fa,zs,q1,q2,q3,q4,q5⟩:=h.ru rv hv
  exact⟨c,gr,dx,nl,fa,zs,q1,q2,k _ _ q3,k _ _ q4,q5⟩
 ·rcases List.mem_append.mp ho with ho|ho
  ·exact⟨(h.ob o ho).1.same k,(h.ob o ho).2⟩
  ·cases List.mem_singleton.mp ho
   obtain⟨⟨d1,e1⟩,⟨⟨d2,e2⟩,e3,e4⟩,e5,e6,e7⟩:=hB;exact⟨⟨⟨d1,nmu (by simp) e1⟩,⟨⟨d2,nmu (by simp) e2⟩,nmu (by simp) e3,nmu (by simp) e4⟩,nmu (by simp) e5,nmu (by simp) e6,nmu (by simp) e7⟩,rfl⟩
 ·rw[List.map_append,h.on,List.length_append]
  show _=iK.take (os.length+ 1);rw[List.take_add_one,hn];rfl
 ·rw[List.length_append]
  show os.length+ 1<=3;omega
 ·rw[List.length_append,List.length_append]
  show csh.length+ 1<=4+ j+ (os.length+ 1);omega
theorem Bu.done(h:Bu CS CB CT CC s bd ch csh B os m j la lb H)(hj:j=1\/ j=6)(ho:1<=os.length)(hm:m∈ [1,2,3,30]){fd:Addr}(f1:∃dx,H s=some (.ins CS dx (eB bd ch fi)))(f2:∃df,H fi=some (.ins CF df (gO bd fd lk)))(f3:H fd=some (.dT [])):SG CS CF CB CT s bd ch fi fd lk B (hW B os) (j- 1) (os.length+ 1) m (er (some fd) H)/\IG fd m (er (some fd) H) H:=by
 have e:∀{x:Addr} {o:HO},H x=some o->(∀y,o≠ .dT y)->er (some fd) H x=some o:=fun{x o} q n=>by
  rw[tR λa ea y=> ?_]
  ·exact q
  ·cases ea
   rw[y,f3]at q;exact n _ (Option.some.inj q).symm
 have bt:dD CB CT (er (some fd) H) B:=by
  obtain⟨⟨d1,e1⟩,⟨⟨d2,e2⟩,e3,e4⟩,e5,e6,e7⟩:=h.bt;exact⟨⟨d1,e e1 nk⟩,⟨⟨d2,e e2 nk⟩,e e3 nk,e e4 nk⟩,e e5 nk,e e6 nk,e e7 nk⟩
 obtain⟨_,_,a3⟩:=h.sh;have o3:=h.o3;have hm':1<=m/\m<=30:=(by decide:∀m∈ [1,2,3,30],1<=m/\m<=30) m hm;have ha:=e (jX _ _ h.ha) nk;have hb:=e (jX _ _ h.hb) nk;have no:∀z:Str,z≠ "t" ->z∉iK->bC (hW B os) (.inr z:aD)=none:=λz h1 h2=>vI (by
  rw[h.kn,List.map_cons];intro y
  rcases List.mem_cons.mp y with y|y
  ·exact h1 (Sum.inr.inj y)
  ·obtain⟨z',hz,ez⟩:=List.mem_map.mp y
   cases ez
   exact h2 (List.mem_of_mem_take hz))
 have rnd:(B.rus.map (·.1)).Nodup:=by rw[h.rk];exact wV (tU vY.1)
 have run:(.inr "run":aD)∈B.rus.map (·.1):=by
  rw[h.rk]
  rcases hj with rfl|rfl<;>exact List.mem_cons_self
 obtain⟨p,hp,ep⟩:=List.mem_map.mp run;have nor:∀z:Str,z∉kF->bC B.rus (.inr z:aD)=none:=λz hz=>vI (by
  rw[h.rk];intro y;obtain⟨z',hz',ez⟩:=List.mem_map.mp y;cases ez
  exact hz (List.mem_of_mem_take hz'))
 refine⟨⟨⟨let ⟨dx,q⟩:=f1;⟨dx,e q nk⟩,e a3 nk,h.tv,⟨no "nope" (by decide+kernel) (by decide+kernel),no "q" (by decide+kernel) (by decide+kernel)⟩,?_,bt,h.xm,hm',?_,?_,⟨?_,nor "a" (by decide+kernel),nor "b" (by decide+kernel)⟩,⟨la,lb,_,_,h.kv,ha,hb,?_,?_⟩⟩,let ⟨df,q⟩:=f2;⟨df,e q nk⟩,if_pos rfl,?_,⟨la,lb,h.kv,ha,hb⟩,hm,?_⟩,jK,[],f3,lJ.nil,λc is p v _ hv=>by cases hv⟩
 ·unfold hW
  rw[List.length_cons,List.length_map]
 ·rcases hj with rfl|rfl
  ·exact .inl rfl
  ·exact .inr rfl
 ·rw[h.od]
  rcases hj with rfl|rfl<;>rfl
 ·have:=tX rnd hp
  rw[ep]at this;rw[this];rfl
 ·rw[List.length_map];exact List.length_replicate
 ·rw[List.length_map,List.length_map,List.length_range]
 ·have:=congrArg (List.map kV) h.kn
  rw[List.map_map,List.map_map]at this
  exact this.trans (by
   show(("t":Str)::iK.take os.length).map (λz=>V.str z)=((["t","u","v","w"]:List Str).take (os.length+ 1)).map V.str
   rw[List.take_succ_cons])
 ·have:os.length=1\/ os.length=2\/ os.length=3:=by omega
  rcases this with e|e|e<;>rw[e]<;>decide
end
theorem a6R(i:Int)(h1: -1000000<=i)(h2:i<=1000000):kR (.int i)=true:=by
 have e3:(1000000:Int)<10^ (60:Int).toNat:=by decide+kernel
 show decide ((if i<0 then-i else i)<10^ (60:Int).toNat)=true;rw[decide_eq_true_eq];split<;>omega
section
inductive rS(K:Fg)(vs:List V)(H:Hp)(Q:VK)(E:XK):Prop
 |mk (a:Addr) (ns:List Int) (k:Int):vs= [.ref a,.int k] ->aU K H a (ns.map V.int)->ns.length<=63->0<=k->k<=1000000->(∀m:Int,0<=m->m<2147483629->Q (.int m) H)->rS K vs H Q E
theorem vE:bD ["_law_script","_law_k","_law_cell"] ["_law_script","_law_k"] (aS uU):={}
theorem zY(T:aX K mg):cT P w K mg af aN 1 "_law_mixed" ["_law_script","_law_k"] (rS K):=by
 refine T.d_law_mixed.known vE (λ_ _ _ _ _ _ us hl=>dI (λ_ _=>rfl) us hl) (λf ah A ag s H vs Q E hr h=> ?_)
 ·obtain⟨a,ns,k,rfl,hS,hl,h0,h6,q⟩:=h
  have fI:∃t,dL (fV aN P w K mg af ["_law_script","_law_k","_law_cell"] "_law_mixed" (aS uU) f ah A ag s H E).nox ((dY uU).drop 2) t/\∀c:Int,t {nx:=λ_ H'=>Q .non H',rt:=Q} [some (.ref a),some (.int k),some (.int c)] H:=by
   refine⟨_,(aJ (cD (i:=2) vE.nd rfl (Or.inl rfl) (bX eZ (bX rF (bX iO (bX iO (bX eZ (pv 2) aT) (bX rF aT (pv 1))) aT) aT) aT))
    (aI (cC (bX eZ (bX rF (pv 2) (bX iO (bX iO (bX eZ (pv 2) aT) (pv 1)) aT)) aT)))),λc=> ?_⟩
   refine⟨_,rfl,_,_,rfl,rfl,(show(0:Int)<2147483629 by decide),_,rfl,_,_,rfl,rfl,.inl ⟨by decide,by decide⟩,_,_,rfl,rfl,_,_,rfl,rfl,_,_,rfl,rfl,.inr ⟨by decide,by decide⟩,_,_,rfl,rfl,(show(0:Int)<2147483647 by decide),?_⟩;have e1:=Int.emod_nonneg ((c% 2147483629+ 6151* k+ 1)* 48271) (show(2147483647:Int)≠0 by decide);have e2:=Int.emod_lt_of_pos ((c% 2147483629+ 6151* k+ 1)* 48271) (show(0:Int)<2147483647 by decide);refine⟨_,rfl,_,rfl,_,_,rfl,rfl,(show(0:Int)<65519 by decide),_,rfl,_,_,rfl,rfl,_,_,rfl,rfl,_,_,rfl,rfl,.inl ⟨by omega,by omega⟩,_,_,rfl,rfl,(show(0:Int)<2147483629 by decide),?_⟩;exact q _ (Int.emod_nonneg _ (by decide)) (Int.emod_lt_of_pos _ (by decide))
  obtain⟨t,ht,hq⟩:=fI
  refine⟨_,(aJ (cD (i:=2) vE.nd rfl (Or.inl rfl) aT)
   (aJ (bO (cK a5q (cM gU rfl T.len fS (aA (pv 0) aC)) aT (cN _)) (aI (cD (i:=2) vE.nd rfl (Or.inl rfl) (cE fM (pv 0) (bX eZ (pv 1) (cM gU rfl T.len fS (aA (pv 0) aC))) (λ_ _=>rfl)))) bW) ht)),?_⟩
  have el:((ns.map V.int).length:Int)=(ns.length:Int):=by rw[List.length_map]
  refine⟨_,rfl,_,_,rfl,.inl ⟨_,hS,rfl⟩,_,_,rfl,rfl,_,rfl,?_⟩;rw[el];refine dJ (λh2=> ?_) (λh2=> ?_)
  ·have h2':0<(ns.length:Int):=by simpa using h2
   have hm:=Int.emod_nonneg k (Int.ne_of_gt h2');have hm':=Int.emod_lt_of_pos k h2';exact⟨_,rfl,_,rfl,_,rfl,_,_,rfl,.inl ⟨_,hS,rfl⟩,_,_,rfl,rfl,by rw[el];exact h2',a,_,_,_,rfl,rfl,hS,by rw[el];exact a6t ns _ hm hm',hq _⟩
  ·exact hq _
end
end My
namespace L2
open PySem PySem.Spec PyProof.Rows
theorem iU.okT{c:Addr}{k:Nat}(F:iU K x qual st f fd)(hc:fd.code= .ref c)(S:bD N ps (aS st))(len:∀vs H Q E,sp vs H Q E->vs.length=ps.length)
 (hbody:∀(A:Around) (ag:List Env) (s:Shared) (H:Hp) (vs:List V) (Q:VK) (E:XK),cR k (A.deeper (envOfC qual (aS st) s.heap.objs.size f (.ref c)))->sp vs H Q E->
  ∃t,dL (fV aN P w K mg af N qual (aS st) f (.ref c) A ag s H E).nox (dY st) t/\t {nx:=λ_ H'=>Q .non H',rt:=Q} (fJ N vs) H):gJ P w K mg af aN (k+ 1) f fd ps sp:=by
 obtain⟨oc,od,kV,doc,pm,an,ah,ct,osl,rfl,lk,hcd⟩:=F.ex;have e:ah= .ref c:=hc;subst e;refine a0t lk hcd S len λA ag s H vs Q E hr hsp=> ?_
 obtain⟨t,h,q⟩:=hbody A ag s H vs Q E hr hsp;exact⟨t,h.nox,q⟩
end L2
namespace My
open PySem L2
theorem cut4{G:V->Hp->Prop}{goal:Prop}(A:V->Hp->Prop)(main:(∀v H',A v H'->G v H')->goal)(tail:∀v H',A v H'->G v H'):goal:=main tail
section
inductive a0z(K:Fg)(tabs:List (Addr×Addr))(vs:List V)(H:Hp)(Q:VK)(E:XK):Prop
 |mk (a:Addr) (ns:List Int):vs= [.ref a] ->aU K H a (ns.map V.int)->ns.length<=63->rK tabs H->(∀H',nA tabs H'->Q (.bl true) H')->a0z K tabs vs H Q E
abbrev Nlaw:List Str:=["_law_script","_law_sheet","_law_calls","_law_told","_law_many","_law_tables","_law_k","_law_columns","_law_state_here","_law_x","_law_y","_law_kind","_law_asked"]
theorem gQ:bD Nlaw ["_law_script"] (aS kJ):={}
abbrev wB(P:Program)(w:World)(K:Fg)(mg:Str->Option Value)(af:Heap)(f c:Addr)(A:Around)(ag:List Env)(s:Shared)(H:Hp)(E:XK):Cx:=(fV aN P w K mg af Nlaw "law" (aS kJ) f (.ref c) A ag s H E).nox
structure yT(K:Fg)(mg:Str->Option Value)(CS CF CB CT CE CC CA CG CL CM CV CI CO CU CW:Addr):Prop where
 Y:dA K mg CS
 Fi:jF K mg CF
 Wb:cO K mg CB
 U:dE K mg CT
 Ru:lB K mg CE
 Cc:nM K mg CC
 Ca:pO K mg CA
 Cg:qY K mg CG
 Cl:qN K mg CL
 Cm:pQ K mg CM
 VP:nX K mg CV
 PI:nQ K mg CI
 TO:nY K mg CO
 CU:qO K mg CU
 CW:sC K mg CW
variable{CE CU CW:Addr}
theorem b0P(T:aX K mg){c:Ad}(X:dG K mg c)(Z:yT K mg CS CF CB CT CE CC CA CG CL CM CV CI CO CU CW)(A:Around)(ag:List Env)(s:Shared)(H:Hp)(Q:VK)(E:XK)(hr:cR 17 (A.deeper (PyProof.Rows.envOfC "law" (aS kJ) s.heap.objs.size f (.ref z1.1))))(q:∀H',nA [z1,z2] H'->Q (.bl true) H'):
 ∃t,dL (wB P w K mg af f z1.1 A ag s H E) ((dY kJ).drop 13) t/\
  ∀(H1 Hz:Hp) (s' bd ch fi fd lk ca fa a:Addr) (B:BM) (kb:List (aD×V)) (k nt m:Nat) (v8:V) (sc:List Int) (o6 o9 o10 o11 o12:Option V),SG CS CF CB CT s' bd ch fi fd lk B kb k nt m Hz->IG fd m Hz H1->Dt K (er (some fd) H1) v8 (qJ nt k m)->H1 ca=some (.lst [])->aU K H1 a (sc.map V.int)->sc.length<=63->nA [z1,z2] H1->
   t {nx:=λ_ H'=>Q .non H',rt:=Q} [some (.ref a),some (.ref s'),some (.ref ca),some (.ref fa),some (.int m),some (.int nt),o6,some (.int ((3+ k:Nat):Int)),some v8,o9,o10,o11,o12] H1:=by
 have hRN:Mn (cI (fK CC CA CG CL CM)):=cI.mn;have G_mixed:cT P w K mg af aN 1 "_law_mixed" ["_law_script","_law_k"] (rS K):=zY T;have G_full:cT P w K mg af aN 6 "_law_full" ["_law_sheet","_law_x","_law_tables","_law_columns","_law_many","_law_told"] (a0x K (cI (fK CC CA CG CL CM))):=a8w T Z.Ru Z.Cc;have G_changes:cT P w K mg af aN 6 "_law_changes" ["_law_x","_law_y","_law_many","_law_told"] (yL K (cI (fK CC CA CG CL CM))):=b0y T Z.Ru Z.Cc Z.Ca Z.Cg Z.Cl Z.Cm;have G_rows:cT P w K mg af aN 2 "_law_rows" ["_law_x","_law_y","_law_many"] (sM K (cI (fK CC CA CG CL CM))):=b0L T hRN;have G_looks:cT P w K mg af aN 2 "_law_looks" ["_law_x","_law_y","_law_many"] (sM K (cI (fK CC CA CG CL CM))):=a83 T hRN;have G_refused:cT P w K mg af aN 11 "_law_refused" ["_law_sheet","_law_asked"] (yU K CS CB CT (cI (fK CC CA CG CL CM))):=a9F T X Z.Y Z.Wb Z.U Z.VP Z.PI Z.TO (a7x T Z.Cc Z.Ca Z.Cg Z.Cl Z.Cm);have G_state:cT P w K mg af aN 9 "_law_state" ["_law_sheet","_law_many"] (xV K CS CF CB CT):=a16 T Z.Y Z.Fi Z.Wb Z.U;have L:∀{x:Str} {p:Prop},True:=trivial
 refine⟨_,(aJ (jQ PassesOwn.never rfl (zM rfl T.range (aA aT aC)) (fO (i:=6) gQ.nd rfl ad)
  (aJ (cD (i:=9) gQ.nd rfl ad (bI G_mixed hr.mn aL (aA (pv 0) (aA (bX iO aT (bX rF aT (pv 6))) aC))))
  (aJ (cD (i:=10) gQ.nd rfl ad (bI G_mixed hr.mn aL (aA (pv 0) (aA (bX iO aT (bX rF aT (pv 6))) aC))))
  (aJ (cD (i:=11) gQ.nd rfl ad (bX eZ (bI G_mixed hr.mn aL (aA (pv 0) (aA (bX iO aT (bX rF aT (pv 6))) aC))) aT))
  (aJ (bO (cK gL (pv 11) aT (cN _)) (aI (cD (i:=12) gQ.nd rfl ad (bI G_full hr.mn aL (aA (pv 1) (aA (pv 9) (aA (pv 5) (aA (pv 7) (aA (pv 4) (aA (pv 3) aC))))))))) (aI (bO (cK sB (pv 11) aT (cN _)) (aI (cD (i:=12) gQ.nd rfl ad (bI G_changes hr.mn aL (aA (pv 9) (aA (pv 10) (aA (pv 4) (aA (pv 3) aC))))))) (aI (bO (cK gL (pv 11) aT (cN _)) (aI (cD (i:=12) gQ.nd rfl ad (bI G_rows hr.mn aL (aA (pv 9) (aA (pv 10) (aA (pv 4) aC)))))) (aI (cD (i:=12) gQ.nd rfl ad (bI G_looks hr.mn aL (aA (pv 9) (aA (pv 10) (aA (pv 4) aC)))))))))))
  (aI (bO (cU (cY (bI G_refused hr.mn aL (aA (pv 1) (aA (pv 12) aC))) (λ_=>rfl))) (aI bP) bW)))))))
  (aI (cC (lM (lP (wU hr.units) (pv 2) (dQ aC) (cN _)) (lE (lP (wU hr.units) (bI G_state hr.mn aL (aA (pv 1) (aA (pv 4) aC))) (pv 8) (cN _))))))),?_⟩
 intro H1 Hz s' bd ch fi fd lk ca fa a B kb k nt m v8 sc o6 o9 o10 o11 o12 GS hI hv8 hca hS hl hT;have m30:=GS.S.m1;refine⟨_,rfl,by decide,by decide,?_⟩;refine a0b (lo:=0) (n:=(12:Int).toNat) (λi σ Hi=>∃o6 o9 o10 o11 o12,σ= [some (.ref a),some (.ref s'),some (.ref ca),some (.ref fa),some (.int m),some (.int nt),o6,some (.int ((3+ k:Nat):Int)),some v8,o9,o10,o11,o12] /\aB H1 Hi) ⟨_,_,_,_,_,rfl,aB.refl _⟩ ?_ ?_
 ·rintro i σ Hi hi ⟨o6,o9,o10,o11,o12,rfl,si⟩
  have hi:i<12:=hi;rw[Int.zero_add];refine⟨_,rfl,_,rfl,_,_,rfl,rfl,.inl ⟨by decide,by decide⟩,_,_,rfl,rfl,a,sc,_,rfl,si.seq hS,hl,by omega,by omega,λx hx1 hx2=> ?_⟩;refine⟨_,rfl,_,rfl,_,_,rfl,rfl,.inl ⟨by decide,by decide⟩,_,_,rfl,rfl,a,sc,_,rfl,si.seq hS,hl,by omega,by omega,λy hy1 hy2=> ?_⟩;refine⟨_,rfl,_,rfl,_,_,rfl,rfl,.inl ⟨by decide,by decide⟩,_,_,rfl,rfl,a,sc,_,rfl,si.seq hS,hl,by omega,by omega,λz hz1 hz2=>⟨_,_,rfl,rfl,(show(0:Int)<5 by decide),?_⟩⟩
  refine cut4 (A:=λv H'=>aB Hi H'/\fH K (cI (fK CC CA CG CL CM)) k nt m H' v) (λfin=>by
   refine⟨_,rfl,rfl,_,rfl,dJ (λ_=> ?_) (λ_=> ?_)⟩
   ·exact⟨_,rfl,_,rfl,_,rfl,_,rfl,_,rfl,_,rfl,_,x,m,k,nt,fa,rfl,m30.1,m30.2,GS.S.k5,λv H' s' hv=>fin v H' ⟨s',hv⟩⟩
   ·refine⟨_,rfl,_,_,rfl,rfl,_,rfl,dJ (λ_=> ?_) (λ_=> ?_)⟩
    ·exact⟨_,rfl,_,rfl,_,rfl,_,rfl,x,y,m,k,nt,fa,rfl,m30.1,m30.2,λv H' s' hv=>fin v H' ⟨s',hv⟩⟩
    ·refine⟨_,rfl,rfl,_,rfl,dJ (λ_=> ?_) (λ_=> ?_)⟩
     ·exact⟨_,rfl,_,rfl,_,rfl,x,y,m,k,nt,rfl,m30.1,m30.2,λv H' s' hv=>fin v H' ⟨s',hv⟩⟩
     ·exact⟨_,rfl,_,rfl,_,rfl,x,y,m,k,nt,rfl,m30.1,m30.2,λv H' s' hv=>fin v H' ⟨s',hv⟩⟩) ?_
  rintro v H' ⟨s2,hv⟩;refine⟨_,rfl,_,rfl,s',bd,ch,fi,B,kb,k,nt,m,v,rfl,GS.S.same (hI.1.trans (si.trans s2)),hv,λH3 s3=>⟨_,rfl,bU ⟨_,_,_,_,_,rfl,si.trans (s2.trans s3)⟩⟩⟩
 ·rintro σ Hi ⟨o6,o9,o10,o11,o12,rfl,si⟩
  have iI:=hI.same si;refine⟨_,rfl,(show 0<=sizeLine by decide),λp hp=>⟨_,_,.lst (aU.of (aB.new hp _ _ (si _ _ hca))) .nil,.lst (aU.of aG) .nil,rfl,rfl,by decide,_,rfl,cB ?_⟩⟩;have s2:=aB.new (o:=.lst []) hp;refine⟨_,rfl,_,rfl,s',bd,ch,fi,fd,lk,B,kb,k,nt,m,Hz,rfl,GS,iI.same s2,λH' v i' b' hv=> ?_⟩;obtain⟨d1,d2,d3⟩:=a9C nt GS.mm.2 k (by rcases GS.S.k5 with rfl|rfl<;>decide) m GS.mm.1;have e':aB (er (some fd) H1) (er (some fd) H'):=λb o e=>by
   by_cases y:b=fd
   ·rw[show er (some fd) H1 b=none from if_pos y]at e;cases e
   ·rw[show er (some fd) H1 b=H1 b from if_neg y]at e
    rw[show er (some fd) H' b=H' b from if_neg y];exact b' _ _ y (s2 _ _ (si _ _ e))
  refine⟨_,rfl,_,_,hv.same jK,(hv8.same e').same jK,d2,d2,d3,?_⟩;rw[d1];refine q _ λz hz=> ?_
  obtain⟨S,e⟩:=hT z hz;refine⟨S,b' _ _ (λy=> ?_) (s2 _ _ (si _ _ e))⟩;obtain⟨_,kf,e2,_⟩:=iI;rw[<- y,si _ _ e]at e2;cases e2
end
theorem a86{fd:Addr}{kf:List (List aD×V)}(f3:H fd=some (.dT kf))(le:aB H0 H)(h:aU K H0 a xs):aU K (er (some fd) H0) a xs:=by
 have n:∀{o:HO},H0 a=some o->(∀y,o≠ .dT y)->er (some fd) H0 a=some o:=λe n=>by
  rw[tR λb eb y=> ?_]
  ·exact e
  ·cases eb
   have:=le _ _ e;rw[y,f3]at this;exact n _ (Option.some.inj this).symm
 rcases h with(h|⟨o,h⟩)|h
 ·exact .inl (.inl (n h nk))
 ·exact .inl (.inr ⟨o,n h nk⟩)
 ·exact .inr h
theorem a8P:∀i:Nat,i<3->fE ((iK).map V.str) (i:Int)=(iK[i]?).map V.str:=by
 intro i hi
 have:i=0\/ i=1\/ i=2:=by omega
 rcases this with rfl|rfl|rfl<;>rfl
theorem a7g:∀i:Nat,i<5->∃c,fE (("cdefg":Str).cps.toList) (i:Int)=some c/\kF[i+ 1]?=some (⟨#[c]⟩:Str):=by
 intro i hi
 have:i=0\/ i=1\/ i=2\/ i=3\/ i=4:=by omega
 rcases this with rfl|rfl|rfl|rfl|rfl
 ·exact⟨99,by decide+kernel,by decide+kernel⟩
 ·exact⟨100,by decide+kernel,by decide+kernel⟩
 ·exact⟨101,by decide+kernel,by decide+kernel⟩
 ·exact⟨102,by decide+kernel,by decide+kernel⟩
 ·exact⟨103,by decide+kernel,by decide+kernel⟩
section
variable{CE CU CW:Addr}
structure qZ(K:Fg)(CS CF CB CT CC:Addr)(z1 z2:Addr×Addr)(s bd ch:Addr)(B:BM)(os:List (Str×BM))(m j:Nat)(la lb ca a:Addr)(sc:List Int)(H:Hp):Prop where
 bu:∃csh,Bu CS CB CT CC s bd ch csh B os m j la lb H
 fn:∃fi fd lk,(∃dx,H s=some (.ins CS dx (eB bd ch fi)))/\(∃df,H fi=some (.ins CF df (gO bd fd lk)))/\H fd=some (.dT [])
 ca:eW (mu s bd ch B) H ca=some (.lst [])
 sc:aU K (eW (mu s bd ch B) H) a (sc.map V.int)
 tb:nA [z1,z2] (eW (mu s bd ch B) H)
theorem qZ.mv{s la lb ca:Addr}{os:List (Str×BM)}{sc:List Int}(h:qZ K CS CF CB CT CC z1 z2 s bd ch B os m j la lb ca a sc H)(e:aB H H'):qZ K CS CF CB CT CC z1 z2 s bd ch B os m j la lb ca a sc H':=by
 have k:aB (eW (mu s bd ch B) H) (eW (mu s bd ch B) H'):=qD λx o _ q=>e _ _ q
 obtain⟨⟨csh,b⟩,⟨fi,fd,lk,⟨dx,f1⟩,⟨df,f2⟩,f3⟩,c,d,t⟩:=h;exact⟨⟨csh,b.mv e⟩,⟨fi,fd,lk,⟨dx,e _ _ f1⟩,⟨df,e _ _ f2⟩,e _ _ f3⟩,k _ _ c,k.seq d,λz hz=>let ⟨S,q⟩:=t z hz;⟨S,k _ _ q⟩⟩
theorem a8l(T:aX K mg){c:Ad}(X:dG K mg c)(Z:yT K mg CS CF CB CT CE CC CA CG CL CM CV CI CO CU CW)(A:Around)(ag:List Env)(s:Shared)(H:Hp)(Q:VK)(E:XK)(hr:cR 17 (A.deeper (PyProof.Rows.envOfC "law" (aS kJ) s.heap.objs.size f (.ref z1.1))))(q:∀H',nA [z1,z2] H'->Q (.bl true) H'):
 ∃t,dL (wB P w K mg af f z1.1 A ag s H E) ((dY kJ).drop 8) t/\
  ∀(H1:Hp) (s' bd ch ca fa a la lb:Addr) (B:BM) (m:Nat) (sc:List Int) (o5 o6 o7 o8 o9 o10 o11 o12:Option V),qZ K CS CF CB CT CC z1 z2 s' bd ch B [] m 1 la lb ca a sc H1->sc.length<=63->m∈ [1,2,3,30] ->
   t {nx:=λ_ H'=>Q .non H',rt:=Q} [some (.ref a),some (.ref s'),some (.ref ca),some (.ref fa),some (.int m),o5,o6,o7,o8,o9,o10,o11,o12] H1:=by
 have G_mixed:cT P w K mg af aN 1 "_law_mixed" ["_law_script","_law_k"] (rS K):=zY T;have G_table:aQ P w K mg af aN 9 CS "table" ["self","name","many"] (oU CS CF CB CT):=a43 T Z.Y Z.Fi Z.Wb Z.U Z.CW;have G_rule:aQ P w K mg af aN 9 CS "rule" ["self","table","column","rule"] (oH K CS CF CB CT (qK CC)):=a0V T Z.Y Z.Fi Z.Wb Z.U Z.CU (λC sp h=>h.1▸a1Q Z.Cc) (λC sp h=>by obtain⟨rfl,rfl⟩:=h;exact⟨Z.Cc.cl,xY T Z.Cc⟩);have GI:fX P w K mg af aN 4 CC ["self","names","function"] (sV K CC):=rZ T Z.Ru Z.Cc;have G_state:cT P w K mg af aN 9 "_law_state" ["_law_sheet","_law_many"] (xV K CS CF CB CT):=a16 T Z.Y Z.Fi Z.Wb Z.U;obtain⟨tE,hE,qE⟩:=b0P (P:=P) (w:=w) (af:=af) T X Z (z1:=z1) (z2:=z2) (f:=f) A ag s H Q E hr q
 refine⟨_,(aJ (cD (i:=5) gQ.nd rfl ad (bX iO aT (bX eZ (bI G_mixed hr.mn aL (aA (pv 0) (aA aT aC))) aT)))
  (aJ (jQ PassesOwn.never rfl (a1T rfl T.range (aA aT (aA (pv 5) aC))) (fO (i:=6) gQ.nd rfl ad) (aI (bT (bF (pv 1) Z.Y.cl G_table hr.mn aL (aA (cE fM (dQ (aA aW (aA aW (aA aW aC)))) (bX xO (pv 6) aT) (λ_ _=>rfl)) (aA (pv 6) aC))))))
  (aJ (cD (i:=7) gQ.nd rfl ad (cE fM (dQ (aA aT (aA aT aC))) (bX eZ (bI G_mixed hr.mn aL (aA (pv 0) (aA aT aC))) aT) (λ_ _=>rfl)))
  (aJ (jQ PassesOwn.never rfl (zM rfl T.range (aA (bX xO (pv 7) aT) aC)) (fO (i:=6) gQ.nd rfl ad) (aI (bT (bF (pv 1) Z.Y.cl G_rule hr.mn aL (aA aW (aA (cE a80 aW (pv 6) (λ_ _=>rfl)) (aA (eX GI hr.mn Z.Cc.c aL (aA (dQ (aA aW aC)) (aA (pv 3) aC))) aC)))))))
  (aJ (cD (i:=8) gQ.nd rfl ad (bI G_state hr.mn aL (aA (pv 1) (aA (pv 4) aC))))
  hE))))),?_⟩
 intro H1 s' bd ch ca fa a la lb B m sc o5 o6 o7 o8 o9 o10 o11 o12 M hl hm;refine⟨_,rfl,a,sc,_,rfl,jX.seq M.sc,hl,by decide,by decide,λx hx1 hx2=>⟨_,_,rfl,rfl,(show(0:Int)<3 by decide),_,_,rfl,rfl,?_⟩⟩
 obtain⟨n,en,hn⟩:∃n:Nat,2+ x% 3=((n+ 1:Nat):Int)/\(n=1\/ n=2\/ n=3):=by
  have h1:=Int.emod_nonneg x (show(3:Int)≠0 by decide);have h2:=Int.emod_lt_of_pos x (show(0:Int)<3 by decide);exact⟨(1+ x% 3).toNat,by omega,by omega⟩
 rw[show V.int (2+ x% 3)=V.int ((n+ 1:Nat):Int) from congrArg V.int en]
 have o3:n<=3:=by omega
 refine⟨_,rfl,1,((n+ 1:Nat):Int),rfl,⟨by decide,by decide,by omega,by omega⟩,?_⟩;refine a0b (lo:=1) (n:=(((n+ 1:Nat):Int)- 1).toNat) (λi σ Hi=>∃os o6 o7 o8 o9 o10 o11 o12,σ= [some (.ref a),some (.ref s'),some (.ref ca),some (.ref fa),some (.int m),some (.int ((n+ 1:Nat):Int)),o6,o7,o8,o9,o10,o11,o12] /\os.length=i/\qZ K CS CF CB CT CC z1 z2 s' bd ch B os m 1 la lb ca a sc Hi) ⟨[],_,_,_,_,_,_,_,rfl,rfl,M⟩ ?_ ?_
 ·rintro i σ Hi hi ⟨os,o6,o7,o8,o9,o10,o11,o12,rfl,ei,Mi⟩
  have hi3:i<3:=by omega
  obtain⟨nm,hnm⟩:∃nm,iK[i]?=some nm:=⟨iK[i]'(by show i<3;exact hi3),List.getElem?_eq_getElem _⟩;obtain⟨⟨csh,Bi⟩,⟨_,_,_,⟨dx,hs⟩,_⟩,_⟩:=id Mi;refine⟨_,rfl,s',dx,_,rfl,hs,bY,(show 3<=sizeLine by decide),λl3 hl3=> ?_⟩;have s3:=aB.new (o:=.lst [.str ("u":Str),.str ("v":Str),.str ("w":Str)]) hl3;have M3:=Mi.mv s3;have B3:=Bi.mv s3;have e3:upd Hi l3 (.lst [.str ("u":Str),.str ("v":Str),.str ("w":Str)]) l3=some (.lst [.str ("u":Str),.str ("v":Str),.str ("w":Str)]):=aG;change (λHx:Hp=>_) (upd Hi l3 (.lst [.str ("u":Str),.str ("v":Str),.str ("w":Str)]))
  generalize upd Hi l3 (.lst [.str ("u":Str),.str ("v":Str),.str ("w":Str)])=H3 at s3 M3 B3 e3|-
  refine⟨_,rfl,_,_,rfl,rfl,l3,_,(i:Int),.str nm,rfl,?_,aU.of e3,?_,_,rfl,?_⟩
  ·show V.int (1+ (i:Int)- 1)=V.int (i:Int)
   congr 1;omega
  ·exact(a8P i hi3).trans (by rw[hnm];rfl)
  rw[show V.int (1+ (i:Int))=V.int (((i+ 1:Nat)):Int)by congr 1;omega];dsimp only[eL,List.cons_append,List.nil_append,List.append_nil];show oU CS CF CB CT [.ref s',.str nm,.int ((i+ 1:Nat):Int)] H3 _ E0;refine Bu.table (CF:=CF) B3 (by rw[ei];exact hnm) (mm:=i+ 1) (by omega) λH' fi fd lk csh' O B' f1 f2 f3 ff=> ?_
  have k:=qD (L:=mu s' bd ch B) ff;exact⟨_,_,_,_,_,_,_,_,rfl,by rw[List.length_append,ei];rfl,⟨csh',B'⟩,⟨fi,fd,lk,f1,f2,f3⟩,k _ _ M3.ca,k.seq M3.sc,λz hz=>let ⟨S,q⟩:=M3.tb z hz;⟨S,k _ _ q⟩⟩
 ·rintro σ Hi ⟨os,o6,o7,o8,o9,o10,o11,o12,rfl,ei,Mi⟩
  have en:os.length=n:=by omega
  refine⟨(show 2<=sizeLine by decide),λl4 hl4=> ?_⟩;have s4:=aB.new (o:=.lst [.int 3,.int 8]) hl4;have M4:=Mi.mv s4;have e4:upd Hi l4 (.lst [.int 3,.int 8]) l4=some (.lst [.int 3,.int 8]):=aG;change (λHx:Hp=>_) (upd Hi l4 (.lst [.int 3,.int 8]))
  generalize upd Hi l4 (.lst [.int 3,.int 8])=H4 at s4 M4 e4|-
  refine⟨_,rfl,a,sc,_,rfl,jX.seq M4.sc,hl,by decide,by decide,λy hy1 hy2=>⟨_,_,rfl,rfl,(show(0:Int)<2 by decide),?_⟩⟩
  obtain⟨k,hk,ek⟩:∃k:Nat,(k=0\/ k=5)/\fE [V.int 3,V.int 8] (y% 2)=some (V.int ((3+ k:Nat):Int)):=by
   rcases Int.emod_two_eq y with e|e
   ·exact⟨0,.inl rfl,by rw[e];rfl⟩
   ·exact⟨5,.inr rfl,by rw[e];rfl⟩
  refine⟨l4,_,_,_,rfl,rfl,aU.of e4,ek,?_⟩
  have k5:k<=5:=by omega
  refine⟨_,rfl,_,_,rfl,rfl,_,rfl,by omega,by omega,?_⟩;refine a0b (lo:=0) (n:=(((3+ k:Nat):Int)- 3).toNat) (λi σ Hi=>∃B' o6 o8 o9 o10 o11 o12,σ= [some (.ref a),some (.ref s'),some (.ref ca),some (.ref fa),some (.int m),some (.int ((n+ 1:Nat):Int)),o6,some (.int ((3+ k:Nat):Int)),o8,o9,o10,o11,o12] /\qZ K CS CF CB CT CC z1 z2 s' bd ch B' os m (1+ i) la lb ca a sc Hi) ⟨B,_,_,_,_,_,_,rfl,M4⟩ ?_ ?_
  ·rintro i σ Hi hi ⟨B',o6,o8,o9,o10,o11,o12,rfl,Mi⟩
   have hi5:i<5:=by omega
   obtain⟨cc,c1,c2⟩:=a7g i hi5;obtain⟨⟨csh,Bi⟩,⟨_,_,_,⟨dx,hs⟩,_⟩,_⟩:=id Mi;rw[Int.zero_add];refine⟨_,rfl,s',dx,_,rfl,hs,bY,_,rfl,"cdefg",(i:Int),cc,rfl,rfl,by decide,c1,(show 1<=sizeLine by decide),λl5 hl5=>⟨_,rfl,?_⟩⟩;have s5:=aB.new (o:=.lst [.str ("run":Str)]) hl5;have e5:upd Hi l5 (.lst [.str ("run":Str)]) l5=some (.lst [.str ("run":Str)]):=aG
   generalize upd Hi l5 (.lst [.str ("run":Str)])=H5 at s5 e5|-
   intro p dp hp hdp ne;refine⟨p,dp,l5,fa,["run"],rfl,aG,aU.of (by rw[aF (bE e5 hp),aF (bE e5 hdp)];exact e5),bE e5 hp,by decide,λz hz=>by cases List.mem_singleton.mp hz;exact cF.2.2.2.2.2.2,λH6 nl b6 hnl p6 n6=>⟨rfl,?_⟩⟩;have s6:=nW hp hdp b6;have hnl':H5 nl=none:=(fA (fA hnl).1).1;have M6:=Mi.mv (s5.trans s6);have B6:=Bi.mv (s5.trans s6);have np:∀{x:Addr},H5 x=none->x∉mu s' bd ch B':=λhx hm=>by
    obtain⟨o,e⟩:=(Bi.mv s5).mus _ hm;rw[hx]at e;cases e
   dsimp only[eL,List.cons_append,List.nil_append,List.append_nil];show oH K CS CF CB CT (qK CC) [.ref s',.str "t",.str ⟨#[cc]⟩,.ref p] H6 _ E0;refine Bu.rule (CF:=CF) B6 (show kF[1+ i]?=some _ by rw[Nat.add_comm];exact c2) (.inr ⟨rfl,by omega⟩) p6 n6 (np hp) (np hnl') λH' fi fd lk csh' B'' Bn em f1 f2 f3 ff=> ?_
   have k:=qD (L:=mu s' bd ch B') ff;exact⟨B'',_,_,_,_,_,_,rfl,⟨csh',Bn⟩,⟨fi,fd,lk,f1,f2,f3⟩,by rw[em];exact k _ _ M6.ca,by rw[em];exact k.seq M6.sc,by rw[em];exact λz hz=>let ⟨S,q⟩:=M6.tb z hz;⟨S,k _ _ q⟩⟩
  ·rintro σ Hi ⟨B',o6,o8,o9,o10,o11,o12,rfl,Mi⟩
   obtain⟨⟨csh,Bi⟩,⟨fi,fd,lk,f1,f2,f3⟩,mc,ms,mt⟩:=Mi
   have ek':1+ (((3+ k:Nat):Int)- 3).toNat=1+ k:=by omega
   rw[ek']at Bi;obtain⟨GS,IS⟩:=Bi.done (by omega) (by omega) hm f1 f2 f3;rw[show 1+ k- 1=k by omega,en]at GS;refine⟨_,rfl,_,rfl,s',bd,ch,fi,fd,lk,B',_,k,n+ 1,m,_,rfl,GS,IS,λH' v i' b' hv=> ?_⟩;have nf:∀{x:Addr} {o:HO},Hi x=some o->(∀y,o≠ .dT y)->H' x=some o:=λe n'=>b' _ _ (λy=>by rw[y,f3]at e;exact n' _ (Option.some.inj e).symm) e
   refine qE H' _ s' bd ch fi fd lk ca fa a B' _ k (n+ 1) m v sc _ _ _ _ _ GS i' hv (nf (jX _ _ mc) nk) ?_ hl λz hz=> ?_
   ·refine aB.seq (H:=er (some fd) (eW (mu s' bd ch B') Hi)) (λx o e=> ?_) ?_
    ·have hx:x≠fd:=λy=>by rw[show er (some fd) (eW (mu s' bd ch B') Hi) x=none from if_pos y]at e;cases e
     exact b' _ _ hx (jX _ _ (jK _ _ e))
    ·exact a86 f3 jX ms
   ·obtain⟨S,e⟩:=mt z hz
    exact⟨S,nf (jX _ _ e) nk⟩
end
theorem a1Z(f:∀o,H a=some o->(∀y,o≠ .dK y)->(∀φ,o≠ .ext φ)->H' a=some o)(h:aU K H a xs):aU K H' a xs:=by
 rcases h with(h|⟨o,h⟩)|h
 ·exact .inl (.inl (f _ h nk nk))
 ·exact .inl (.inr ⟨o,f _ h nk nk⟩)
 ·exact .inr h
section
theorem a0d{H:Hp}:∀{is:List Int},(∀i∈is,-1000000<=i/\i<=1000000)->iP K H (is.map V.int) (is.map .int)
 | [],_=> .nil
 |i::r,h=> .cons (.inl ⟨i,rfl,rfl,a6R i (h i List.mem_cons_self).1 (h i List.mem_cons_self).2⟩) (a0d λj hj=>h j (List.mem_cons_of_mem _ hj))
theorem a6p(T:aX K mg)(B1:yM K mg "law" kJ z1)(M1:qF mg af z1.1 z1.2)(B2:uW K mg "Finder" "gathered" "Finder.gathered" yX z2)(M2:qF mg af z2.1 z2.2)(n12:z1.2≠z2.2)(F:iU K "law" "law" kJ f fd)(hcd:fd.code= .ref z1.1):gJ P w K mg af aN 18 f fd ["_law_script"] (a0z K [z1,z2]):=by
 obtain⟨CS,Y⟩:=T.t_Sheet;obtain⟨CF,Fi⟩:=T.t_Finder;obtain⟨CB,Wb⟩:=T.t_Board;obtain⟨CT,U⟩:=T.t_Table;obtain⟨CE,Ru⟩:=T.t_Rule;obtain⟨CC,Cc⟩:=T.t_Cells;obtain⟨CA,Ca⟩:=T.t_Above;obtain⟨CG,Cg⟩:=T.t_Group;obtain⟨CL,Cl⟩:=T.t_Lookup;obtain⟨CM,Cm⟩:=T.t_Mend;obtain⟨CV,VP⟩:=T.t_ValuePut;obtain⟨CI,PI⟩:=T.t_RowPutIn;obtain⟨CO,TO⟩:=T.t_RowTakenOut;obtain⟨CU,CUc⟩:=T.t_ColumnSet;obtain⟨CW,CWc⟩:=T.t_TableTold;obtain⟨c,X⟩:=T.exc;have Z:yT K mg CS CF CB CT CE CC CA CG CL CM CV CI CO CU CW:=⟨Y,Fi,Wb,U,Ru,Cc,Ca,Cg,Cl,Cm,VP,PI,TO,CUc,CWc⟩;have G_mixed:cT P w K mg af aN 1 "_law_mixed" ["_law_script","_law_k"] (rS K):=zY T;have GS:fX P w K mg af aN 3 CS ["self"] (spSI CS CF):=a7t T Y Fi;have G_table:aQ P w K mg af aN 9 CS "table" ["self","name","many"] (oU CS CF CB CT):=a43 T Y Fi Wb U CWc;have G_give:aQ P w K mg af aN 9 CS "give" ["self","table","column","values"] (sH K CS CF CB CT):=b0B T Y Fi Wb U CUc;have G_rule:aQ P w K mg af aN 9 CS "rule" ["self","table","column","rule"] (oH K CS CF CB CT (qK CC)):=a0V T Y Fi Wb U CUc (λC sp h=>h.1▸a1Q Cc) (λC sp h=>by obtain⟨rfl,rfl⟩:=h;exact⟨Cc.cl,xY T Cc⟩);have GI:fX P w K mg af aN 4 CC ["self","names","function"] (sV K CC):=rZ T Ru Cc;refine F.okT hcd gQ (λvs H Q E h=> ?_) (λA ag s H vs Q E hr h=> ?_)
 ·obtain⟨a,ns,rfl,_⟩:=h
  rfl
 ·obtain⟨a,sc,rfl,hS,hl,hT,q⟩:=h
  have hcl:∀x,(wB P w K mg af f z1.1 A ag s H E).env.scope.names.lookup x=some .cell->∃c,(wB P w K mg af f z1.1 A ag s H E).env.cells.lookup x=some c:=λx hx=>Option.isSome_iff_exists.mp (W.cellsFrom_some _ _ _ (.inl hx))
  obtain⟨tM,hM,qM⟩:=a8l (P:=P) (w:=w) (af:=af) T X Z (z1:=z1) (z2:=z2) (f:=f) A ag s H Q E hr q
  refine⟨_,(aJ (cD (i:=1) gQ.nd rfl ad (a9d GS hr.mn Y.c aL))
   (aJ (cD (i:=2) gQ.nd rfl ad (dQ aC))
   (aJ (cD (i:=3) gQ.nd rfl ad (a8N M1 rfl (rY (sc:=aS kJ) (N:=Nlaw) (cp:=[(2,"_law_calls")]) hcl).clos rfl))
   (aJ (cD (i:=4) gQ.nd rfl ad (cE fM (dQ (aA aT (aA aT (aA aT (aA aT aC))))) (bX eZ (bI G_mixed hr.mn aL (aA (pv 0) (aA aT aC))) aT) (λ_ _=>rfl)))
   (aJ (bT (bF (pv 1) Y.cl G_table hr.mn aL (aA aW (aA (pv 4) aC))))
   (aJ (bT (bF (pv 1) Y.cl G_give hr.mn aL (aA aW (aA aW (aA (bX rO (dQ (aA aT aC)) (pv 4)) aC)))))
   (aJ (bT (bF (pv 1) Y.cl G_give hr.mn aL (aA aW (aA aW (aA (jZ (a1o rfl) rfl T.list jC (aA (jZ a0R rfl T.range a25 (aA (pv 4) aC)) aC)) aC)))))
   (aJ (bT (bF (pv 1) Y.cl G_rule hr.mn aL (aA aW (aA aW (aA (eX GI hr.mn Cc.c aL (aA (dQ (aA aW aC)) (aA (pv 3) aC))) aC)))))
   hM)))))))),?_⟩
  have t1:H z1.2=some (iZ z1.2 []):=hT _ (by simp);have t2:H z2.2=some (iZ z2.2 []):=hT _ (by simp);intro s' dSh hs hds ne;refine⟨s',dSh,rfl,aG,λH2 bd ch fi0 fd0 lk0 df fr nfl g1 g2 g3 g4 g5 g6 b1=>⟨rfl,?_⟩⟩;have s2:aB H H2:=λx o e=>b1 _ _ (bE e hs) (by rw[aF (bE e hs),aF (bE e hds)];exact e)
  have fr0:∀x∈ [bd,ch,fi0,fd0,lk0],H x=none:=λx hx=>(fA (fA (fr x hx)).1).1
  refine⟨(show 0<=sizeLine by decide),λca hca=> ?_⟩;have s3:=aB.new (o:=.lst []) hca;have c3:upd H2 ca (.lst []) ca=some (.lst []):=aG
  generalize upd H2 ca (.lst [])=H3 at s3 c3|-
  have s23:=s2.trans s3;refine⟨⟨[],s23 _ _ t1,λc hc=>by cases hc⟩,λfa HA hfa sA tA lA=> ?_⟩;obtain⟨S1,tS1,_⟩:=tA;have kA:∀{x:Addr} {o:HO},H3 x=some o->(∀φ,o≠ .ext φ)->HA x=some o:=λex n=>sA _ _ (λy=>by rw[y,s23 _ _ t1]at ex;exact n _ (Option.some.inj ex).symm) ex
  refine⟨(show 4<=sizeLine by decide),λl4 hl4=> ?_⟩;have s4:=aB.new (o:=.lst [.int 1,.int 2,.int 3,.int 30]) hl4;have e4:upd HA l4 (.lst [.int 1,.int 2,.int 3,.int 30]) l4=some (.lst [.int 1,.int 2,.int 3,.int 30]):=aG
  generalize upd HA l4 (.lst [.int 1,.int 2,.int 3,.int 30])=H4 at s4 e4|-
  have hS4:aU K H4 a (sc.map V.int):=a1Z (λo e _ n=>s4 _ _ (kA (s23 _ _ e) n)) hS;refine⟨_,rfl,a,sc,_,rfl,hS4,hl,by decide,by decide,λx hx1 hx2=>⟨_,_,rfl,rfl,(show(0:Int)<4 by decide),?_⟩⟩
  obtain⟨m,hm,em⟩:∃m:Nat,m∈ [1,2,3,30] /\fE [V.int 1,V.int 2,V.int 3,V.int 30] (x% 4)=some (V.int (m:Int)):=by
   have h1:=Int.emod_nonneg x (show(4:Int)≠0 by decide);have h2:=Int.emod_lt_of_pos x (show(0:Int)<4 by decide)
   have:x% 4=0\/ x% 4=1\/ x% 4=2\/ x% 4=3:=by omega
   rcases this with e|e|e|e<;>rw[e]
   ·exact⟨1,by decide,rfl⟩
   ·exact⟨2,by decide,rfl⟩
   ·exact⟨3,by decide,rfl⟩
   ·exact⟨30,by decide,rfl⟩
  have m30:1<=m/\m<=30:=(by decide:∀m∈ [1,2,3,30],1<=m/\m<=30) m hm;refine⟨l4,_,_,_,rfl,rfl,aU.of e4,em,?_⟩;have k4:∀{x:Addr} {o:HO},H3 x=some o->(∀φ,o≠ .ext φ)->H4 x=some o:=λe n=>s4 _ _ (kA e n)
  have sS4:=k4 (s3 _ _ g1) nk;have sB4:=k4 (s3 _ _ g2) nk;have sC4:=k4 (s3 _ _ g3) nk;have ca4:=k4 c3 nk;refine⟨_,rfl,s',dSh,_,rfl,sS4,bY,_,rfl,?_⟩;dsimp only[eL,List.cons_append,List.nil_append,List.append_nil];show oU CS CF CB CT [.ref s',.str "t",.int (m:Int)] H4 _ E0;refine⟨s',bd,ch,[],[],"t",m,rfl,⟨⟨dSh,fi0,sS4⟩,sC4,sB4⟩,by decide,by decide,cF.1,rfl,m30.2,λH5 fi fd' lk c1 b g r e ru me od fr5 hB5 sp5 nw5 f5=> ?_⟩;obtain⟨⟨dx5,a51⟩,a52,a53,a54,a55,a56,a57,a58,a59,a5a⟩:=fr5;have ss5:rR bd ch ⟨b,g,r,e,ru,me,od,eM 0 m,(m:Int),[],[],[],[]⟩:=⟨bE sC4 (nw5 r (by simp)),bE sC4 (nw5 od (by simp)),bE sB4 (nw5 e (by simp)),bE sB4 (nw5 ru (by simp)),bE sB4 (nw5 me (by simp))⟩;have hm5:(eM 0 m).length=m:=xE 0 m;refine⟨_,rfl,s',dx5,_,rfl,a51,bY,(show 1<=sizeLine by decide),λz hz=>⟨_,rfl,z,(m:Int),_,rfl,rfl,aG,by omega,by omega,(by show 1* (m:Int).toNat<=sizeLine;rw[Nat.one_mul];exact Nat.le_trans (show(m:Int).toNat<=100 by omega) (by decide)),λlz hlz=> ?_⟩⟩;rw[xF,Int.toNat_natCast];have u5:=(aB.new (o:=.lst [.int 0]) hz).trans (aB.new (o:=.lst (List.replicate m (V.int 0))) hlz);have ez:upd (upd H5 z (.lst [.int 0])) lz (.lst (List.replicate m (V.int 0))) lz=some (.lst (List.replicate m (V.int 0))):=aG;have nlz:H5 lz=none:=(fA hlz).1
  generalize upd (upd H5 z (.lst [.int 0])) lz (.lst (List.replicate m (V.int 0)))=H5' at u5 ez|-
  have zv:List.replicate m (V.int 0)=(nK m).map V.int:=by rw[List.map_replicate]
  rw[zv]at ez;dsimp only[eL,List.cons_append,List.nil_append,List.append_nil];show sH K CS CF CB CT [.ref s',.str "t",.str "a",.ref lz] H5' _ E0;refine⟨s',bd,ch,lz,[.ref c1],_,"t","a",(nK m).map V.int,(nK m).map .int,_,rfl,⟨⟨dx5,fi,u5 _ _ a51⟩,u5 _ _ a52,u5 _ _ a53⟩,(show 1<900 by decide),cF.1,by kernel_rfl,hB5.same u5,sp5,ss5,⟨rfl,by nofun⟩,cF.2.2.2.2.1,ez,λy=> ?_,a0d λi hi=> ?_,?_,?_,(show 0<8 by decide),(show 0<8 by decide),λH6 fi6 fd6 lk6 c6 la fr6 nla hB6 ela f6=> ?_⟩
  ·rw[y,hB5.ord]at nlz
   cases nlz
  ·cases (List.mem_replicate.mp hi).2
   decide
  ·rw[List.length_map,List.length_replicate]
   exact hm5.symm
  ·rw[List.length_map,List.length_replicate]
   exact m30.2
  obtain⟨⟨dx6,a61⟩,a62,a63,a64,a65,a66,a67,a68,a69,a6a⟩:=fr6;refine⟨_,rfl,s',dx6,_,rfl,a61,bY,_,rfl,(m:Int),rfl,λrg hrg=>⟨rg,0,(m:Int),rfl,aG,by omega,by omega,by omega,by omega,by omega,λlr hlr=> ?_⟩⟩;rw[Int.sub_zero,Int.toNat_natCast];have u6:=(aB.new (o:=.rng 0 (m:Int)) hrg).trans (aB.new (o:=.lst (eM 0 m)) hlr);have er6:upd (upd H6 rg (.rng 0 (m:Int))) lr (.lst (eM 0 m)) lr=some (.lst (eM 0 m)):=aG;have nlr:H6 lr=none:=(fA hlr).1
  generalize upd (upd H6 rg (.rng 0 (m:Int))) lr (.lst (eM 0 m))=H6' at u6 er6|-
  have rv:eM 0 m=(nE m).map V.int:=by
   unfold eM;rw[List.map_map];refine List.map_congr_left λi _=> ?_
   show V.int (0+ (i:Int))=V.int (Int.ofNat i);rw[Int.zero_add];rfl
  rw[rv]at er6;dsimp only[eL,List.cons_append,List.nil_append,List.append_nil];show sH K CS CF CB CT [.ref s',.str "t",.str "b",.ref lr] H6' _ E0;refine⟨s',bd,ch,lr,[.ref c1] ++ [.ref c6],_,"t","b",(nE m).map V.int,(nE m).map .int,_,rfl,⟨⟨dx6,fi6,u6 _ _ a61⟩,u6 _ _ a62,u6 _ _ a63⟩,(by show 2<900;decide),cF.1,by kernel_rfl,hB6.same u6,⟨sp5.ro,sp5.eu,sp5.em,sp5.um⟩,⟨ss5.r,ss5.o,ss5.e,ss5.u,ss5.m⟩,⟨rfl,(by decide+kernel:("b":Str)∉([] ++ [("a":Str)]:List Str))⟩,cF.2.2.2.2.2.1,er6,λy=> ?_,a0d λi hi=> ?_,?_,?_,(show 1<8 by decide),(show 1<8 by decide),λH7 fi7 fd7 lk7 c7 lb fr7 nlb hB7 elb f7=> ?_⟩
  ·have:=hB6.ord
   rw[<- y,nlr]at this;cases this
  ·obtain⟨i',hi',rfl⟩:=List.mem_map.mp hi
   have:=List.mem_range.mp hi';exact⟨by show-1000000<=(i':Int);omega,by show(i':Int)<=1000000;omega⟩
  ·rw[List.length_map,List.length_map,List.length_range]
   exact hm5.symm
  ·rw[List.length_map,List.length_map,List.length_range]
   exact m30.2
  obtain⟨⟨dx7,a71⟩,a72,a73,a74,a75,a76,a77,a78,a79,a7a⟩:=fr7;have hK:∀{x:Addr} {o:HO},H4 x=some o->x≠s'->x≠ch->x≠bd->(∀y,o≠ .dK y)->H7 x=some o/\x∉mu s' bd ch ⟨b,g,r,e,ru,me,od,eM 0 m,(m:Int),[],[],[],[]⟩:=fun{x o} ex n1 n2 n3 nd=>by
   have nn:∀{y:Addr},y∈ [b,g,r,e,ru,me,od] ->x≠y:=λhy=>bE ex (nw5 _ hy)
   have x5:=f5 _ _ n1 n2 n3 ex;have x6:=f6 _ _ n1 n2 (nn (by simp)) (nn (by simp)) (u5 _ _ x5);have x7:=f7 _ _ n1 n2 (nn (by simp)) (nn (by simp)) (u6 _ _ x6);refine⟨x7,λhm=> ?_⟩;unfold mu at hm;simp only[List.mem_cons,List.not_mem_nil,or_false]at hm
   rcases hm with y|y|y|y|y|y
   ·exact n1 y
   ·exact n2 y
   ·exact n3 y
   ·exact nn (by simp) y
   ·exact nn (by simp) y
   ·exact nn (by simp) y
  have bB5:∀{y:Addr},y∈ [s',ch,bd,e,od,ru,me] ->∃o,H5' y=some o:=fun{y} hy=>by
   simp only[List.mem_cons,List.not_mem_nil,or_false]at hy
   rcases hy with y|y|y|y|y|y|y<;>rw[y]
   ·exact⟨_,u5 _ _ a51⟩
   ·exact⟨_,u5 _ _ a52⟩
   ·exact⟨_,u5 _ _ a53⟩
   ·exact⟨_,u5 _ _ hB5.tab.kept⟩
   ·exact⟨_,u5 _ _ hB5.ord⟩
   ·exact⟨_,u5 _ _ hB5.rul⟩
   ·exact⟨_,u5 _ _ hB5.mem⟩
  have bB6:∀{y:Addr},y∈ [s',ch,bd,e,od,ru,me] ->∃o,H6' y=some o:=fun{y} hy=>by
   simp only[List.mem_cons,List.not_mem_nil,or_false]at hy
   rcases hy with y|y|y|y|y|y|y<;>rw[y]
   ·exact⟨_,u6 _ _ a61⟩
   ·exact⟨_,u6 _ _ a62⟩
   ·exact⟨_,u6 _ _ a63⟩
   ·exact⟨_,u6 _ _ hB6.tab.kept⟩
   ·exact⟨_,u6 _ _ hB6.ord⟩
   ·exact⟨_,u6 _ _ hB6.rul⟩
   ·exact⟨_,u6 _ _ hB6.mem⟩
  have na:∀{y:Addr},y∈ [s',ch,bd,e,od,ru,me] ->la≠y:=λhy z=>by
   obtain⟨o,e'⟩:=bB5 hy;rw[<- z,nla]at e';cases e'
  have nb:∀{y:Addr},y∈ [s',ch,bd,e,od,ru,me] ->lb≠y:=λhy z=>by
   obtain⟨o,e'⟩:=bB6 hy;rw[<- z,nlb]at e';cases e'
  have ela7:=f7 _ _ (na (by simp)) (na (by simp)) (na (by simp)) (na (by simp)) (u6 _ _ ela);have nmu:∀{x:Addr},(∀{y:Addr},y∈ [s',ch,bd,e,od,ru,me] ->x≠y)->x∉mu s' bd ch ⟨b,g,r,e,ru,me,od,eM 0 m,(m:Int),[],[],[],[]⟩:=fun{x} h hm=>by
   unfold mu at hm;simp only[List.mem_cons,List.not_mem_nil,or_false]at hm
   rcases hm with y|y|y|y|y|y<;>exact h (by simp) y
  have kvE:∀la lb:Addr,bH (bH ([]:List (aD×V)) (.inr "a":aD) (.ref la)) (.inr "b":aD) (.ref lb)= [((.inr "a":aD),V.ref la),((.inr "b":aD),V.ref lb)]:=λla lb=>by kernel_rfl
  have Bu7:Bu CS CB CT CC s' bd ch ([.ref c1] ++ [.ref c6] ++ [.ref c7]) ⟨b,g,r,e,ru,me,od,eM 0 m,(m:Int),bH (bH [] (.inr "a":aD) (.ref la)) (.inr "b":aD) (.ref lb),[],[],([] ++ [("a":Str)] ++ [("b":Str)]:List Str)⟩ [] m 0 la lb H7:=by
   refine⟨⟨⟨dx7,fi7,a71⟩,a72,?_⟩,hB7,⟨sp5.ro,sp5.eu,sp5.em,sp5.um⟩,⟨ss5.r,ss5.o,ss5.e,ss5.u,ss5.m⟩,hm5,kvE la lb,nU ela7 (nmu na),nU elb (nmu nb),rfl,rfl,Nat.le_refl _,(λrv hv=>by cases hv),(λo ho=>by cases ho),rfl,by decide,(by show 3<=4;decide),by decide⟩;exact a73
  have caK:=hK ca4 (λy=>by rw[y,s3 _ _ g1]at c3;cases c3) (λy=>by rw[y,g3]at hca;cases hca) (λy=>by rw[y,s3 _ _ g2]at c3;cases c3) nk;have ns0:∀{x:Addr} {o:HO},H x=some o->x≠s'/\x≠ch/\x≠bd:=λe=>⟨bE e hs,bE e (fr0 ch (by simp)),bE e (fr0 bd (by simp))⟩
  have t2K:=hK (s4 _ _ (sA _ _ n12.symm (s23 _ _ t2))) (ns0 t2).1 (ns0 t2).2.1 (ns0 t2).2.2 nk;have t1K:=hK (s4 _ _ tS1) (ns0 t1).1 (ns0 t1).2.1 (ns0 t1).2.2 nk;refine⟨_,rfl,s',dx7,_,rfl,a71,bY,(show 1<=sizeLine by decide),λl8 hl8=>⟨_,rfl,?_⟩⟩;have s8:=aB.new (o:=.lst [.str ("a":Str)]) hl8;have e8:upd H7 l8 (.lst [.str ("a":Str)]) l8=some (.lst [.str ("a":Str)]):=aG
  generalize upd H7 l8 (.lst [.str ("a":Str)])=H8 at s8 e8|-
  intro p dp hp hdp ne;refine⟨p,dp,l8,fa,["a"],rfl,aG,aU.of (by rw[aF (bE e8 hp),aF (bE e8 hdp)];exact e8),bE e8 hp,by decide,λz hz=>by cases List.mem_singleton.mp hz;exact cF.2.2.2.2.1,λH9 nl b9 hnl p9 n9=>⟨rfl,?_⟩⟩;have s9:=nW hp hdp b9;have s89:=s8.trans s9;have hnl':H8 nl=none:=(fA (fA hnl).1).1;have B9:=Bu7.mv s89;have np:∀{x:Addr},H8 x=none->x∉mu s' bd ch ⟨b,g,r,e,ru,me,od,eM 0 m,(m:Int),bH (bH [] (.inr "a":aD) (.ref la)) (.inr "b":aD) (.ref lb),[],[],([] ++ [("a":Str)] ++ [("b":Str)]:List Str)⟩:=λhx hm=>by
   obtain⟨o,e⟩:=(Bu7.mv s8).mus _ hm;rw[hx]at e;cases e
  dsimp only[eL,List.cons_append,List.nil_append,List.append_nil];show oH K CS CF CB CT (qK CC) [.ref s',.str "t",.str "run",.ref p] H9 _ E0;refine Bu.rule (CF:=CF) B9 (by decide+kernel) (.inl ⟨rfl,rfl⟩) p9 n9 (np hp) (np hnl') λH' fi' fd' lk' csh' B'' Bn em f1 f2 f3 ff=> ?_
  have kk:∀{x:Addr} {o:HO},H7 x=some o/\x∉mu s' bd ch ⟨b,g,r,e,ru,me,od,eM 0 m,(m:Int),[],[],[],[]⟩ ->eW (mu s' bd ch B'') H' x=some o:=λh=>by
   rw[em];exact nU (ff _ _ h.2 (s89 _ _ h.1)) h.2
  refine qM H' s' bd ch ca fa a la lb B'' m sc _ _ _ _ _ _ _ _ ⟨⟨csh',Bn⟩,⟨fi',fd',lk',f1,f2,f3⟩,kk caK,a1Z (λo e' nd n=> ?_) hS,λz hz=> ?_⟩ hl hm
  ·exact kk (hK (k4 (s23 _ _ e') n) (ns0 e').1 (ns0 e').2.1 (ns0 e').2.2 nd)
  ·simp only[List.mem_cons,List.not_mem_nil,or_false]at hz
   rcases hz with rfl|rfl
   ·exact⟨_,kk t1K⟩
   ·exact⟨_,kk t2K⟩
end
theorem walk{l:W.OpenLaw}{q:Program}{loose:List Str}{XP:(Str->Option Value)->Heap->Prop}{YP:World->Heap->Prop}{d:DefRec}{K:Params->Fg}(hn:l.most=some 63)(hdf:d.params.defaults= [])(hdn:d.name= "law")
 (hY:∀(w:World) (h:Heap),YP w h->(K w.params).In h)
 (recs:((PyProof.Rows.recsOf q).find? (λe=>e.name==("law":Str))).isSome=true)
 (F:∀(w:World) (mg:Str->Option Value) (h:Heap),YP w h->(K w.params).In h->h.Ns mainGlobals mg->aX (K w.params) mg/\True/\Tbs h (K w.params) mg):
 W.WalkO q loose XP YP l.row.toRowW d [] (λf vs=>PySem.call f vs):=
 L2.a9b (n:=63) (k:=18) (x:= "_law_script") (CX:=λ_=>aN) (sp:=λw tabs=>a0z (K w.params) tabs) hn (by decide) hdf ⟨rfl,by decide,by decide⟩ hY
  (λw mg fa h Yy KX G hmg=>by
   obtain⟨T,TD,TB⟩:=F w mg h Yy KX G;obtain⟨z_law,z_Finder_gathered,B_law,B_Finder_gathered,ne_law_Finder_gathered,te_Finder_gathered⟩:=TB.bs;obtain⟨f,fd,F4,hm,hcd⟩:=B_law.ex;rw[hdn]at hmg;have e:=hmg.symm.trans hm;cases e;have r_law:=recs;refine⟨T.notabs,[z_law,z_Finder_gathered],λz hz=> ?_,fd,λs u=> ?_,λaf kb nb mk=> ?_⟩
   ·simp only[List.mem_cons,List.not_mem_nil,or_false]at hz
    rcases hz with rfl|rfl
    ·exact .inl ⟨⟨_,r_law,B_law.tab⟩⟩
    ·exact .inr ⟨B_Finder_gathered.hd,te_Finder_gathered⟩
   ·obtain⟨oc,od,kV,doc,pm,an,ah,ct,osl,rfl,_⟩:=F4.ex
    exact .of_eq rfl
   ·exact a6p T B_law (mk _ (by simp)) B_Finder_gathered (mk _ (by simp)) ne_law_Finder_gathered F4 hcd)
  (λ_ _ _ a ns hl hT hS=>⟨a,ns,rfl,hS,hl,hT,λ_ hT'=>⟨rfl,hT'⟩⟩) λ_ _ _ _ _ z=>z
end My
open PySem PySem.W PyProof.Rows
set_option maxRecDepth 100000 in
set_option maxHeartbeats 0 in
theorem PySem.Challenge.cw_lazycols_k32_sheets_refuse_holds : PySem.Challenge.rw_lazycols_k32_sheets_refuse.Holds := by
 refine _root_.hd ?_
 k_fill
 refine My.walk (l:=PySem.Challenge.rw_lazycols_k32_sheets_refuse) rfl rfl rfl (λw h Y => PySem.W.km_in_of Y) ?R ?F
 case R=>first|exact rfl|decide+kernel
 case F=>
  intro w mg h Y KX G
  refine'⟨⟨PySem.W.mg_none_of KX G ?_,PySem.W.mg_none_of KX G ?_,PySem.W.mg_none_of KX G ?_,PySem.W.mg_none_of KX G ?_,PySem.W.mg_none_of KX G ?_,PySem.W.mg_none_of KX G ?_,PySem.W.mg_none_of KX G ?_,PySem.W.mg_none_of KX G ?_,PySem.W.mg_none_of KX G ?_,PySem.W.mg_none_of KX G ?_,PySem.W.mg_none_of KX G ?_,PySem.W.mg_none_of KX G ?_,PySem.W.mg_none_of KX G ?_,PySem.W.mg_none_of KX G ?_,⟨_,PySem.W.mg_of KX G ?_⟩,⟨_,PySem.W.mg_of KX G ?_⟩,L2.zB KX G ?_ ?_,⟨_,PySem.W.mg_of KX G ?_⟩,⟨_,PySem.W.mg_of KX G ?_⟩,⟨_,PySem.W.mg_of KX G ?_⟩,L2.zB KX G ?_ ?_,⟨_,PySem.W.mg_of KX G ?_⟩,L2.zB KX G ?_ ?_,L2.eC KX G ?_ ?_ ?_ ?_,L2.eC KX G ?_ ?_ ?_ ?_,L2.eC KX G ?_ ?_ ?_ ?_,L2.eC KX G ?_ ?_ ?_ ?_,L2.eC KX G ?_ ?_ ?_ ?_,L2.eC KX G ?_ ?_ ?_ ?_,L2.eC KX G ?_ ?_ ?_ ?_,L2.eC KX G ?_ ?_ ?_ ?_,L2.eC KX G ?_ ?_ ?_ ?_,L2.eC KX G ?_ ?_ ?_ ?_,L2.eC KX G ?_ ?_ ?_ ?_,L2.eC KX G ?_ ?_ ?_ ?_,L2.eC KX G ?_ ?_ ?_ ?_,L2.eC KX G ?_ ?_ ?_ ?_,L2.eC KX G ?_ ?_ ?_ ?_,L2.eC KX G ?_ ?_ ?_ ?_,L2.eC KX G ?_ ?_ ?_ ?_,L2.eC KX G ?_ ?_ ?_ ?_,L2.eC KX G ?_ ?_ ?_ ?_,L2.eC KX G ?_ ?_ ?_ ?_,L2.eC KX G ?_ ?_ ?_ ?_,L2.eC KX G ?_ ?_ ?_ ?_,L2.eC KX G ?_ ?_ ?_ ?_,L2.eC KX G ?_ ?_ ?_ ?_,L2.eC KX G ?_ ?_ ?_ ?_,L2.eC KX G ?_ ?_ ?_ ?_,L2.eC KX G ?_ ?_ ?_ ?_,L2.eC KX G ?_ ?_ ?_ ?_,L2.eC KX G ?_ ?_ ?_ ?_,L2.eC KX G ?_ ?_ ?_ ?_,L2.eC KX G ?_ ?_ ?_ ?_,?_,⟨⟨_,_,_,_,_,_,_,_,_,_,_,_,_,_,_⟩,⟨PySem.W.mg_of KX G ?_,PySem.W.mg_of KX G ?_,PySem.W.mg_of KX G ?_,PySem.W.mg_of KX G ?_,PySem.W.mg_of KX G ?_,PySem.W.mg_of KX G ?_,PySem.W.mg_of KX G ?_,PySem.W.mg_of KX G ?_,PySem.W.mg_of KX G ?_,PySem.W.mg_of KX G ?_,PySem.W.mg_of KX G ?_,PySem.W.mg_of KX G ?_,PySem.W.mg_of KX G ?_,PySem.W.mg_of KX G ?_,PySem.W.mg_of KX G ?_,?_,⟨?_,?_,⟨_,?_⟩,?_,?_,?_,?_,?_⟩,?_,?_,?_,?_,?_,?_,?_,?_,?_,?_,?_,?_,?_,?_,?_,?_,?_,?_,⟨?_,?_,⟨_,?_⟩,?_,?_,?_,?_,?_⟩,?_,?_,?_,?_,?_,?_,?_,?_,?_,?_,?_,?_,?_,?_,?_,?_,?_,?_,⟨?_,?_,⟨_,?_⟩,?_,?_,?_,?_,?_⟩,?_,?_,?_,?_,?_,?_,?_,?_,?_,?_,?_,?_,?_,?_,?_,?_,?_,?_,⟨?_,?_,⟨_,?_⟩,?_,?_,?_,?_,?_⟩,?_,?_,?_,?_,?_,?_,?_,?_,?_,?_,?_,?_,?_,?_,?_,?_,?_,?_,⟨?_,?_,⟨_,?_⟩,?_,?_,?_,?_,?_⟩,?_,?_,?_,?_,?_,?_,?_,?_,?_,?_,?_,?_,?_,?_,?_,?_,?_,?_,⟨?_,?_,⟨_,?_⟩,?_,?_,?_,?_,?_⟩,?_,?_,?_,?_,?_,?_,?_,?_,?_,?_,?_,?_,?_,?_,?_,?_,?_,?_,⟨?_,?_,⟨_,?_⟩,?_,?_,?_,?_,?_⟩,?_,?_,?_,?_,?_,?_,?_,?_,?_,?_,?_,?_,?_,?_,?_,?_,?_,?_,⟨?_,?_,⟨_,?_⟩,?_,?_,?_,?_,?_⟩,?_,?_,?_,?_,?_,?_,?_,?_,?_,?_,?_,?_,?_,?_,?_,?_,?_⟩⟩,⟨_,⟨PySem.W.mg_of KX G ?_,⟨?_,?_,?_,?_⟩,?_,?_,?_,(L2.na ?_),(L2.na ?_),(L2.na ?_),L2.bJ ?_ ?_ ?_ ?_ ?_,L2.bJ ?_ ?_ ?_ ?_ ?_,L2.bJ ?_ ?_ ?_ ?_ ?_,L2.bJ ?_ ?_ ?_ ?_ ?_,L2.bJ ?_ ?_ ?_ ?_ ?_,L2.bJ ?_ ?_ ?_ ?_ ?_,L2.bJ ?_ ?_ ?_ ?_ ?_,L2.bJ ?_ ?_ ?_ ?_ ?_,L2.bJ ?_ ?_ ?_ ?_ ?_,L2.bJ ?_ ?_ ?_ ?_ ?_,L2.bJ ?_ ?_ ?_ ?_ ?_,L2.bJ ?_ ?_ ?_ ?_ ?_,L2.bJ ?_ ?_ ?_ ?_ ?_,L2.bJ ?_ ?_ ?_ ?_ ?_⟩⟩,⟨_,⟨PySem.W.mg_of KX G ?_,⟨?_,?_,?_,?_⟩,?_,?_,?_,(L2.na ?_),(L2.na ?_),(L2.na ?_),(L2.na ?_),L2.bJ ?_ ?_ ?_ ?_ ?_,L2.bJ ?_ ?_ ?_ ?_ ?_,L2.bJ ?_ ?_ ?_ ?_ ?_,L2.bJ ?_ ?_ ?_ ?_ ?_,L2.bJ ?_ ?_ ?_ ?_ ?_,L2.bJ ?_ ?_ ?_ ?_ ?_⟩⟩,⟨_,⟨PySem.W.mg_of KX G ?_,⟨?_,?_,?_,?_⟩,?_,?_,?_,(L2.na ?_),(L2.na ?_),(L2.na ?_),L2.bJ ?_ ?_ ?_ ?_ ?_,L2.bJ ?_ ?_ ?_ ?_ ?_⟩⟩,⟨_,⟨PySem.W.mg_of KX G ?_,⟨?_,?_,?_,?_⟩,?_,?_,?_,(L2.na ?_),(L2.na ?_),(L2.na ?_),(L2.na ?_),L2.bJ ?_ ?_ ?_ ?_ ?_,L2.bJ ?_ ?_ ?_ ?_ ?_⟩⟩,⟨_,⟨PySem.W.mg_of KX G ?_,⟨?_,?_,?_,?_⟩,?_,?_,?_,(L2.na ?_),(L2.na ?_),(L2.na ?_),(L2.na ?_),(L2.na ?_),L2.bJ ?_ ?_ ?_ ?_ ?_,L2.bJ ?_ ?_ ?_ ?_ ?_⟩⟩,⟨_,⟨PySem.W.mg_of KX G ?_,⟨?_,?_,?_,?_⟩,?_,?_,?_,(L2.na ?_),(L2.na ?_),(L2.na ?_),L2.bJ ?_ ?_ ?_ ?_ ?_,L2.bJ ?_ ?_ ?_ ?_ ?_⟩⟩,⟨_,⟨PySem.W.mg_of KX G ?_,⟨?_,?_,?_,?_⟩,?_,?_,?_,(L2.na ?_),(L2.na ?_),(L2.na ?_),(L2.na ?_),L2.bJ ?_ ?_ ?_ ?_ ?_,L2.bJ ?_ ?_ ?_ ?_ ?_⟩⟩,⟨_,⟨PySem.W.mg_of KX G ?_,⟨?_,?_,?_,?_⟩,?_,?_,?_,(L2.na ?_),(L2.na ?_),(L2.na ?_),L2.bJ ?_ ?_ ?_ ?_ ?_,L2.bJ ?_ ?_ ?_ ?_ ?_⟩⟩,⟨_,⟨PySem.W.mg_of KX G ?_,⟨?_,?_,?_,?_⟩,?_,?_,?_,(L2.na ?_),(L2.na ?_),(L2.na ?_),L2.bJ ?_ ?_ ?_ ?_ ?_,L2.bJ ?_ ?_ ?_ ?_ ?_,L2.bJ ?_ ?_ ?_ ?_ ?_,L2.bJ ?_ ?_ ?_ ?_ ?_,L2.bJ ?_ ?_ ?_ ?_ ?_,L2.bJ ?_ ?_ ?_ ?_ ?_,L2.bJ ?_ ?_ ?_ ?_ ?_⟩⟩,⟨_,⟨PySem.W.mg_of KX G ?_,⟨?_,?_,?_,?_⟩,?_,?_,?_,(L2.na ?_),(L2.na ?_),(L2.na ?_),L2.bJ ?_ ?_ ?_ ?_ ?_,L2.bJ ?_ ?_ ?_ ?_ ?_,L2.bJ ?_ ?_ ?_ ?_ ?_,L2.bJ ?_ ?_ ?_ ?_ ?_,L2.bJ ?_ ?_ ?_ ?_ ?_,L2.bJ ?_ ?_ ?_ ?_ ?_,L2.bJ ?_ ?_ ?_ ?_ ?_,L2.bJ ?_ ?_ ?_ ?_ ?_,L2.bJ ?_ ?_ ?_ ?_ ?_,L2.bJ ?_ ?_ ?_ ?_ ?_,L2.bJ ?_ ?_ ?_ ?_ ?_,L2.bJ ?_ ?_ ?_ ?_ ?_,L2.bJ ?_ ?_ ?_ ?_ ?_,L2.bJ ?_ ?_ ?_ ?_ ?_,L2.bJ ?_ ?_ ?_ ?_ ?_,L2.bJ ?_ ?_ ?_ ?_ ?_,L2.bJ ?_ ?_ ?_ ?_ ?_,L2.bJ ?_ ?_ ?_ ?_ ?_,L2.bJ ?_ ?_ ?_ ?_ ?_,L2.bJ ?_ ?_ ?_ ?_ ?_,L2.bJ ?_ ?_ ?_ ?_ ?_,L2.bJ ?_ ?_ ?_ ?_ ?_⟩⟩,⟨_,⟨PySem.W.mg_of KX G ?_,⟨?_,?_,?_,?_⟩,?_,?_,?_,(L2.na ?_),L2.bJ ?_ ?_ ?_ ?_ ?_,⟨?_,_,_,?_,?_,?_⟩,L2.bJ ?_ ?_ ?_ ?_ ?_⟩⟩,⟨_,⟨PySem.W.mg_of KX G ?_,⟨?_,?_,?_,?_⟩,?_,?_,?_,(L2.na ?_),(L2.na ?_),L2.bJ ?_ ?_ ?_ ?_ ?_,L2.bJ ?_ ?_ ?_ ?_ ?_,L2.bJ ?_ ?_ ?_ ?_ ?_,L2.bJ ?_ ?_ ?_ ?_ ?_,?_,⟨?_,?_,?_⟩⟩⟩,⟨_,⟨PySem.W.mg_of KX G ?_,⟨?_,?_,?_,?_⟩,?_,?_,?_,(L2.na ?_),(L2.na ?_),(L2.na ?_),L2.bJ ?_ ?_ ?_ ?_ ?_,L2.bJ ?_ ?_ ?_ ?_ ?_,L2.bJ ?_ ?_ ?_ ?_ ?_,L2.bJ ?_ ?_ ?_ ?_ ?_⟩⟩,⟨_,⟨PySem.W.mg_of KX G ?_,⟨?_,?_,?_,?_⟩,?_,?_,?_,(L2.na ?_),(L2.na ?_),(L2.na ?_),L2.bJ ?_ ?_ ?_ ?_ ?_,L2.bJ ?_ ?_ ?_ ?_ ?_,L2.bJ ?_ ?_ ?_ ?_ ?_,L2.bJ ?_ ?_ ?_ ?_ ?_⟩⟩,⟨_,⟨PySem.W.mg_of KX G ?_,⟨?_,?_,?_,?_⟩,?_,?_,?_,(L2.na ?_),(L2.na ?_),(L2.na ?_),(L2.na ?_),(L2.na ?_),L2.bJ ?_ ?_ ?_ ?_ ?_,L2.bJ ?_ ?_ ?_ ?_ ?_,L2.bJ ?_ ?_ ?_ ?_ ?_,L2.bJ ?_ ?_ ?_ ?_ ?_⟩⟩,⟨_,⟨PySem.W.mg_of KX G ?_,⟨?_,?_,?_,?_⟩,?_,?_,?_,(L2.na ?_),(L2.na ?_),L2.bJ ?_ ?_ ?_ ?_ ?_,L2.bJ ?_ ?_ ?_ ?_ ?_,L2.bJ ?_ ?_ ?_ ?_ ?_,L2.bJ ?_ ?_ ?_ ?_ ?_⟩⟩⟩,trivial,⟨⟨_,_,L2.a9E KX G ?_ ?_ ?_ ?_ ?_ ?_,L2.b0p KX G ?_ ?_ ?_ ?_ ?_ ?_ ?_ ?_ ?_,?_,?_⟩⟩⟩
  all_goals try k_is
  all_goals try (first|exact PySem.W.km_tabs_of Y _ (by decide)|kit_is|k_exc|kts_exm|exact rfl|kernel_rfl|decide)
  all_goals exact Value.type "type"